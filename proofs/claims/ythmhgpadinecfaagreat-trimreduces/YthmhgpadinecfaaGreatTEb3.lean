import Derived.Test.YthmhgpadinecfaaGreatTEb2
set_option maxRecDepth 100000
set_option maxHeartbeats 4000000
set_option linter.unusedVariables false
set_option linter.unusedSimpArgs false
namespace Go.Proofs.YthmhgpadinecfaaGreat
open Go.RowKit
def PartsR (u : Nat) (m : Nat) (x : Int) (b : Bool) : Prop := (b = true ↔ Fin u) /\ (b = true -> m < 9007199254740992 /\ -1074 <= x /\ x <= 971 /\ m * 2 ^ (x + 1074).toNat = rmag (frung u)) /\ (b = false -> m = 0 /\ x = 0)
theorem parts_any (u : Nat) (hu : u < 18446744073709551616) (w : World) :
  Calls Tryz.prog 115 #[.float .f64 u] w fun e w' => ∃ (m : Nat) (x : Int) (b : Bool), e = .returned (.tuple #[.int .u64 (m : Int), .int .i64 x, .bool b]) /\ PartsR u m x b /\ w' = w := by
 obtain ⟨E, hE⟩ : ∃ E : Nat, u / 4503599627370496 % 2048 = E := ⟨_, rfl⟩
 obtain ⟨m, hm⟩ : ∃ m : Nat, u % 4503599627370496 = m := ⟨_, rfl⟩
 have fE : bits .and .u64 ((u : Int) / 4503599627370496) 2047 = (E : Int) := by
  have k := u64_and_nat (u / 4503599627370496) 2047 (by omega) (by decide)
  rw [show ((2047 : Nat) : Int) = 2047 from rfl] at k
  rw [show (u : Int) / 4503599627370496 = ((u / 4503599627370496 : Nat) : Int) by omega, k, and_2047, hE]
 have fm : bits .and .u64 (u : Int) 4503599627370495 = (m : Int) := by
  have k := u64_and_nat u 4503599627370495 hu (by decide)
  rw [show ((4503599627370495 : Nat) : Int) = 4503599627370495 from rfl] at k
  rw [k, show (4503599627370495 : Nat) = 2 ^ 52 - 1 by decide, Nat.and_two_pow_sub_one_eq_mod, show (2 : Nat) ^ 52 = 4503599627370496 by decide, hm]
 have hr : frung u = E * 4503599627370496 + m := by unfold frung; omega
 have hEb : E < 2048 := by omega
 have hmb : m < 4503599627370496 := by omega
 have hFin : Fin u ↔ E < 2047 := by unfold Fin infK; rw [hr]; omega
 have fo : bits .or .u64 (m : Int) 4503599627370496 = ((4503599627370496 + m : Nat) : Int) := by
  have k := u64_or_nat m 4503599627370496 (by omega) (by decide)
  rw [show ((4503599627370496 : Nat) : Int) = 4503599627370496 from rfl] at k
  rw [k, Nat.or_comm]
  have := Nat.two_pow_add_eq_or_of_lt (i := 52) (b := m) (by simpa using hmb) 1
  rw [show (2 : Nat) ^ 52 * 1 = 4503599627370496 by decide] at this
  rw [<- this]
 generalize hM : 4503599627370496 + m = M at fo
 clear hE hm
 by_cases h2047 : E = 2047
 ·subst h2047
  have HR : Hid (PartsR u 0 0 false) := ⟨by rw [hFin]; simp, fun h => (by cases h), fun _ => ⟨rfl, rfl⟩⟩
  have hz : ((2047 : Nat) : Int) = 2047 := rfl
  rw [hz] at fE
  clear hr hFin hM
  go_enter Tryz.func115, Tryz.ntmps115
  go_wp2_with (first | (go_at_call 41; refine (bits_any _ _).mono ?_; rintro e w' ⟨rfl, rfl⟩))
  go_ret3
  exact ⟨0, 0, false, rfl, HR.out, rfl⟩
 ·by_cases h0 : E = 0
  ·subst h0
   have HR : Hid (PartsR u m (-1074) true) := ⟨by rw [hFin]; simp, fun _ => ⟨by omega, by omega, by omega, by
    rw [hr]
    have := rmag_form 0 m (.inl rfl) (by omega)
    rw [this]; simp⟩, by simp⟩
   have hz : ((0 : Nat) : Int) = 0 := rfl
   rw [hz] at fE
   clear hr hFin hM
   go_enter Tryz.func115, Tryz.ntmps115
   go_wp2_with (first | (go_at_call 41; refine (bits_any _ _).mono ?_; rintro e w' ⟨rfl, rfl⟩))
   go_ret3
   exact ⟨m, -1074, true, rfl, HR.out, rfl⟩
  ·have HR : Hid (PartsR u M (-1074 + (E : Int) - 1) true) := ⟨by rw [hFin]; simp; omega, fun _ => ⟨by omega, by omega, by omega, by
    obtain ⟨F, rfl⟩ : ∃ F, E = F + 1 := ⟨E - 1, by omega⟩
    have := rmag_form F M (.inr (by omega)) (by omega)
    rw [hr, show (F + 1) * 4503599627370496 + m = F * 4503599627370496 + M by omega, this, show (-1074 + ((F + 1 : Nat) : Int) - 1 + 1074).toNat = F by omega]⟩, by simp⟩
   have n0 : ((E : Int) == 0) = false := by simp; omega
   have n1 : ((E : Int) == 2047) = false := by simp; omega
   have hEw : wrap64 (E : Int) = (E : Int) := by unfold wrap64; omega
   have HEW : Hid _ := hEw
   clear hr hFin hM hEw
   go_enter Tryz.func115, Tryz.ntmps115
   go_wp2_with (first | (go_at_call 41; refine (bits_any _ _).mono ?_; rintro e w' ⟨rfl, rfl⟩))
   go_ret3
   exact ⟨M, -1074 + (E : Int) - 1, true, rfl, HR.out, rfl⟩
theorem signbit_any (u : Nat) (hu : u < 18446744073709551616) (w : World) : Calls Tryz.prog 119 #[.float .f64 u] w fun e w' => e = .returned (.bool (fneg u)) /\ w' = w := by
 have hcb := call_bits
 have HN : Hid (decide (wrap64 (u : Int) < 0) = fneg u) := by
  unfold Hid fneg
  unfold wrap64
  by_cases h : 9223372036854775808 <= u
  ·rw [decide_eq_true (by omega), show u / 9223372036854775808 % 2 = 1 by omega]; rfl
  ·rw [decide_eq_false (by omega), show u / 9223372036854775808 % 2 = 0 by omega]; rfl
 go_enter Tryz.func119, Tryz.ntmps119
 go_wp2_with fail
 go_ret
 exact ⟨congrArg (fun b => Ending.returned (.bool b)) HN.out, rfl⟩
def prodZ (a b : Nat) (n : Int) : Int := fval a * fval b * ((2 ^ (n + 92).toNat : Nat) : Int)
def prodO (o : Option Int) (a b : Nat) (n : Int) : Option Int := o.bind fun z => if Fin a /\ Fin b /\ -64 <= n /\ n <= 64 then holdZ (z + prodZ a b n) else none
theorem prod_parts {a b am bm place : Nat} {ax bx n : Int} (ha : am * 2 ^ (ax + 1074).toNat = rmag (frung a)) (hb : bm * 2 ^ (bx + 1074).toNat = rmag (frung b)) (ha0 : -1074 <= ax) (hb0 : -1074 <= bx) (hn : -64 <= n) (hp : (place : Int) = ax + bx + n + 2240) :
  prodZ a b n = sv (fneg a != fneg b) (am * bm * 2 ^ place) := by
 have e1 : am * bm * 2 ^ place = rmag (frung a) * rmag (frung b) * 2 ^ (n + 92).toNat := by
  rw [<- ha, <- hb]
  have : (2 : Nat) ^ place = 2 ^ (ax + 1074).toNat * 2 ^ (bx + 1074).toNat * 2 ^ (n + 92).toNat := by
   rw [<- Nat.pow_add, <- Nat.pow_add]; congr 1; omega
  rw [this]; ac_rfl
 rw [e1]
 unfold prodZ fval sv
 cases fneg a <;> cases fneg b <;> simp [Int.neg_mul, Int.mul_neg]
theorem prod_small {am bm place : Nat} {P Q : Nat} (ha : am < 9007199254740992) (hb : bm < 9007199254740992) (hp : place <= 4300) (hQ : Q = 4800) : am * bm * 2 ^ place < 2 ^ Q := by
 have h1 : am * bm <= 9007199254740992 * 9007199254740992 := Nat.mul_le_mul (by omega) (by omega)
 have h2 : (2 : Nat) ^ Q = 2 ^ (Q - place) * 2 ^ place := by rw [<- Nat.pow_add]; congr 1; omega
 have h3 : (2 : Nat) ^ 107 <= 2 ^ (Q - place) := Nat.pow_le_pow_right (by omega) (by omega)
 have h4 : (9007199254740992 * 9007199254740992 : Nat) < 2 ^ 107 := by decide
 rw [h2]
 exact Nat.mul_lt_mul_of_pos_right (by omega) (Nat.two_pow_pos _)
theorem prod_spoils (B : Nat) (o : Option Int) (a b : Nat) (n : Int) (ha : a < 18446744073709551616) (hb : b < 18446744073709551616) (w : World) (hB : AccO w B o) (hno : ¬ (o ≠ none /\ Fin a /\ Fin b /\ -64 <= n /\ n <= 64)) :
  Calls Tryz.prog 97 #[.pointer (some ⟨B, 0, none⟩), .float .f64 a, .float .f64 b, .int .i64 n] w fun e w' => e = .returned (.tuple #[]) /\ AccO w' B none /\ Chg B w w' := by
 have HB : Hid _ := hB
 clear hB
 obtain ⟨f0, b0, hw0⟩ := HB.out.words
 have HW0 : Hid _ := hw0
 clear hw0
 go_enter Tryz.func97, Tryz.ntmps97
 go_wp2_with fail
 refine (parts_any a ha _).mono ?_
 rintro e w1 ⟨am, ax, ab, rfl, hpa, rfl⟩
 go_wp2_with fail
 refine (parts_any b hb _).mono ?_
 rintro e w1 ⟨bm, bx, bb, rfl, hpb, rfl⟩
 have HH : Hid (¬ (o.isNone = false /\ ab = true /\ bb = true /\ -64 <= n /\ n <= 64)) := by
  rintro ⟨h1, h2, h3, h4, h5⟩
  exact hno ⟨by cases o <;> simp_all, hpa.1.1 h2, hpb.1.1 h3, h4, h5⟩
 clear hpa hpb hno
 go_wp2_with fail
 refine (bad_any B o _ HB.out).mono ?_
 rintro e w1 ⟨rfl, rfl⟩
 by_cases c0 : o.isNone = false
 ·by_cases c1 : ab = true
  ·by_cases c2 : bb = true
   ·by_cases c3 : -64 <= n
    ·have c4 : ¬ n <= 64 := fun c => HH.out ⟨c0, c1, c2, c3, c⟩
     subst c1 c2
     have d1 : decide (n < -64) = false := decide_eq_false (by omega)
     have d2 : decide (64 < n) = true := decide_eq_true (by omega)
     clear HH
     go_wp2_with (first | (go_at_call 116; refine (spoil_any B f0 b0 _ HW0.out.1 HW0.out.2.1 HW0.out.2.2.1 HW0.out.2.2.2).mono ?_; rintro e w' ⟨rfl, hs1, hs2⟩))
     (try simp only [Exit.inBlock, Exit.then]); refine bodyPost_ret (results_none rfl _ _ _) rfl ?_
     exact ⟨rfl, hs1, hs2⟩
    ·subst c1 c2
     have d1 : decide (n < -64) = true := decide_eq_true (by omega)
     clear HH
     go_wp2_with (first | (go_at_call 116; refine (spoil_any B f0 b0 _ HW0.out.1 HW0.out.2.1 HW0.out.2.2.1 HW0.out.2.2.2).mono ?_; rintro e w' ⟨rfl, hs1, hs2⟩))
     (try simp only [Exit.inBlock, Exit.then]); refine bodyPost_ret (results_none rfl _ _ _) rfl ?_
     exact ⟨rfl, hs1, hs2⟩
   ·obtain rfl : bb = false := by simpa using c2
    subst c1
    clear HH
    go_wp2_with (first | (go_at_call 116; refine (spoil_any B f0 b0 _ HW0.out.1 HW0.out.2.1 HW0.out.2.2.1 HW0.out.2.2.2).mono ?_; rintro e w' ⟨rfl, hs1, hs2⟩))
    (try simp only [Exit.inBlock, Exit.then]); refine bodyPost_ret (results_none rfl _ _ _) rfl ?_
    exact ⟨rfl, hs1, hs2⟩
  ·obtain rfl : ab = false := by simpa using c1
   clear HH
   go_wp2_with (first | (go_at_call 116; refine (spoil_any B f0 b0 _ HW0.out.1 HW0.out.2.1 HW0.out.2.2.1 HW0.out.2.2.2).mono ?_; rintro e w' ⟨rfl, hs1, hs2⟩))
   (try simp only [Exit.inBlock, Exit.then]); refine bodyPost_ret (results_none rfl _ _ _) rfl ?_
   exact ⟨rfl, hs1, hs2⟩
 ·have c0' : o.isNone = true := by simpa using c0
  clear HH c0
  go_wp2_with (first | (go_at_call 116; refine (spoil_any B f0 b0 _ HW0.out.1 HW0.out.2.1 HW0.out.2.2.1 HW0.out.2.2.2).mono ?_; rintro e w' ⟨rfl, hs1, hs2⟩))
  (try simp only [Exit.inBlock, Exit.then]); refine bodyPost_ret (results_none rfl _ _ _) rfl ?_
  exact ⟨rfl, hs1, hs2⟩
theorem prod_adds (B : Nat) (z : Int) (a b : Nat) (n : Int) (ha : a < 18446744073709551616) (hb : b < 18446744073709551616) (w : World) (hB : AccO w B (some z)) (fa : Fin a) (fb : Fin b) (hn0 : -64 <= n) (hn1 : n <= 64) :
  Calls Tryz.prog 97 #[.pointer (some ⟨B, 0, none⟩), .float .f64 a, .float .f64 b, .int .i64 n] w fun e w' => e = .returned (.tuple #[]) /\ AccO w' B (holdZ (z + prodZ a b n)) /\ Chg B w w' := by
 have HB : Hid _ := hB
 clear hB
 obtain ⟨f, k1, k2⟩ := HB.out.ex
 obtain ⟨t1, t2, t3⟩ := k2 z rfl
 have HK : Hid _ := And.intro k1 (And.intro t1 (And.intro t2 t3))
 have HC0 : Hid _ := And.intro HB.out.cell HB.out.froz
 clear k1 k2 t1 t2 t3
 go_enter Tryz.func97, Tryz.ntmps97
 go_wp2_with fail
 refine (parts_any a ha _).mono ?_
 rintro e w1 ⟨am, ax, ab, rfl, hpa, rfl⟩
 go_wp2_with fail
 refine (parts_any b hb _).mono ?_
 rintro e w1 ⟨bm, bx, bb, rfl, hpb, rfl⟩
 obtain rfl : ab = true := hpa.1.2 fa
 obtain rfl : bb = true := hpb.1.2 fb
 obtain ⟨a1, a2, a3, a4⟩ := hpa.2.1 rfl
 obtain ⟨b1, b2, b3, b4⟩ := hpb.2.1 rfl
 obtain ⟨place, hpl⟩ : ∃ place : Nat, (place : Int) = ax + bx + n + 2240 := ⟨(ax + bx + n + 2240).toNat, by omega⟩
 have HPZ : Hid (prodZ a b n = sv (fneg a != fneg b) (am * bm * 2 ^ place)) := prod_parts a4 b4 a2 b2 hn0 hpl
 obtain ⟨k, hk⟩ : ∃ k, place / 64 = k := ⟨_, rfl⟩
 obtain ⟨nn, hnn⟩ : ∃ nn, place % 64 = nn := ⟨_, rfl⟩
 obtain ⟨high, hhi⟩ : ∃ high, am * bm / 18446744073709551616 = high := ⟨_, rfl⟩
 obtain ⟨low, hlo⟩ : ∃ low, am * bm % 18446744073709551616 = low := ⟨_, rfl⟩
 have hll : low < 18446744073709551616 := by rw [<- hlo]; exact Nat.mod_lt _ (by omega)
 have hhl : high < 18446744073709551616 := by
  rw [<- hhi, Nat.div_lt_iff_lt_mul (by omega)]
  have : am * bm <= 9007199254740992 * 9007199254740992 := Nat.mul_le_mul (by omega) (by omega)
  omega
 have hmb : high * 18446744073709551616 + low = am * bm := by have := Nat.div_add_mod (am * bm) 18446744073709551616; omega
 have hpk : place = 64 * k + nn := by omega
 obtain ⟨ng, hng⟩ : ∃ ng, (fneg a != fneg b) = ng := ⟨_, rfl⟩
 have HE : Hid (z + prodZ a b n = z + sv ng ((high * 18446744073709551616 + low) * 2 ^ (64 * k + nn))) := by unfold Hid; rw [HPZ.out, hng, hmb, hpk]
 have HBD : Hid (-((2 ^ 4863 : Nat) : Int) <= z + sv ng ((high * 18446744073709551616 + low) * 2 ^ (64 * k + nn)) /\ z + sv ng ((high * 18446744073709551616 + low) * 2 ^ (64 * k + nn)) < ((2 ^ 4863 : Nat) : Int)) := by
  obtain ⟨Q, hQ⟩ : ∃ Q : Nat, Q = 4800 := ⟨_, rfl⟩
  have hs := prod_small (P := 0) a1 b1 (show place <= 4300 by omega) hQ
  rw [hmb, <- hpk]
  have h2 := HK.out.2.2
  have h3 := pow_4800_4863
  rw [hQ] at hs
  have hs' : ((am * bm * 2 ^ place : Nat) : Int) < ((2 ^ 4800 : Nat) : Int) := by exact_mod_cast hs
  unfold Hid sv
  generalize am * bm * 2 ^ place = X at *
  generalize ((2 ^ 4800 : Nat) : Int) = L at *
  generalize ((2 ^ 4863 : Nat) : Int) = M at *
  split <;> omega
 have hpw : ax + bx + n + 2240 = 64 * (k : Int) + nn := by omega
 have hnn64 : nn < 64 := by omega
 have hk76 : k + 3 <= 76 := by omega
 have hml := Tryz.bits_Mul64 am bm (by omega) (by omega) w1
 rw [hhi, hlo] at hml
 have HML : Hid _ := hml
 have hab : -5000 <= ax + bx /\ ax + bx <= 5000 /\ -5000 <= ax + bx + n /\ ax + bx + n <= 5000 := by omega
 have HPW : Hid _ := hpw
 have HM : Hid (Calls Tryz.prog 117 #[.int .u64 (am : Int), .int .u64 (bm : Int)] w1 fun e w' => e = .returned (.tuple #[.int .u64 (high : Int), .int .u64 (low : Int)]) /\ w' = w1) := hml
 have HNG : Hid _ := hng
 have d1 : decide (n < -64) = false := decide_eq_false (by omega)
 have d2 : decide (64 < n) = false := decide_eq_false (by omega)
 clear HML hml hpw hmb hpk hhi hlo hk hnn hpl hpa hpb a1 a2 a3 a4 b1 b2 b3 b4 HPZ hng fa fb
 go_wp2_with fail
 refine (bad_any B (some z) _ HB.out).mono ?_
 rintro e w2 ⟨rfl, rfl⟩
 go_wp2_with fail
 refine Calls.mono HM.out ?_
 rintro e w2 ⟨rfl, rfl⟩
 go_wp2_with fail
 obtain ⟨sa, hsa⟩ : ∃ sa, fneg a = sa := ⟨_, rfl⟩
 obtain ⟨sb, hsb⟩ : ∃ sb, fneg b = sb := ⟨_, rfl⟩
 have hng := HNG.out
 rw [hsa, hsb] at hng
 have HSA : Hid (∀ w : World, Calls Tryz.prog 119 #[.float .f64 a] w fun e w' => e = .returned (.bool sa) /\ w' = w) := fun w => by rw [<- hsa]; exact signbit_any a ha w
 have HSB : Hid (∀ w : World, Calls Tryz.prog 119 #[.float .f64 b] w fun e w' => e = .returned (.bool sb) /\ w' = w) := fun w => by rw [<- hsb]; exact signbit_any b hb w
 have hng2 : (!sa == sb) = ng := hng
 have v1 : IntKind.i64.wrap (ax + bx) = ax + bx := by rw [IntKind.wrap_i64]; omega
 have v2 : IntKind.i64.wrap (ax + bx + n) = ax + bx + n := by rw [IntKind.wrap_i64]; omega
 clear hsa hsb HNG
 have HPUT : Hid (Calls Tryz.prog 118 #[.pointer (some ⟨B, 0, none⟩), .int .u64 (high : Int), .int .u64 (low : Int), .int .i64 (ax + bx + n), .bool ng] w2.drew fun e w' => e = .returned (.tuple #[]) /\ ∃ h, Wds w' B h /\ Mut B w2.drew w' /\ Tc h (z + sv ng ((high * 18446744073709551616 + low) * 2 ^ (64 * k + nn)))) :=
  put_any B f z high low k nn (ax + bx + n) ng hk76 hnn64 HPW.out hll hhl _ HK.out.1.drew HK.out.2.1 HBD.out.1 HBD.out.2
 clear HBD HPW
 go_region_held3 (fun w' => True) (trivial) ((first | (go_at_call_of 119 (Value.float FloatKind.f64 a); refine Calls.mono (HSA.out _) ?_; rintro e w' ⟨rfl, rfl⟩) | (go_at_call_of 119 (Value.float FloatKind.f64 b); refine Calls.mono (HSB.out _) ?_; rintro e w' ⟨rfl, rfl⟩) | (go_at_call 118; refine Calls.mono HPUT.out ?_; rintro e w3 ⟨rfl, h, j1, j2, j3⟩)))
 have HJ : Hid _ := And.intro j1 j3
 have HT : Hid (w3.cell? ⟨B, 76, none⟩ = some (.bool false) /\ w3.frozen? ⟨B, 76, none⟩ = false) := ⟨j2.top.1.trans HC0.out.1, j2.top.2.trans HC0.out.2⟩
 have HM : Hid (Chg B w2 w3) := (Chg.refl B w2).drew.trans j2.chg
 have HTP : Hid (∀ j, 77 <= j -> w3.cell? ⟨B, j, none⟩ = none) := fun j hj => (j2.high j (by omega)).trans (HB.out.top j hj)
 clear j1 j2 j3
 go_wp2_with fail
 refine (settle_any B h _ _ HJ.out.1 HJ.out.2 HT.out.1 HT.out.2 HTP.out).mono ?_
 rintro e w4 ⟨rfl, s1, s2⟩
 have HS : Hid _ := And.intro s1 s2
 clear s1 s2
 go_wp2_with fail
 go_end0
 exact ⟨rfl, by rw [HE.out]; exact HS.out.1, HM.out.trans HS.out.2⟩
theorem accProd_any (B : Nat) (o : Option Int) (a b : Nat) (n : Int) (ha : a < 18446744073709551616) (hb : b < 18446744073709551616) (w : World) (hB : AccO w B o) :
  Calls Tryz.prog 97 #[.pointer (some ⟨B, 0, none⟩), .float .f64 a, .float .f64 b, .int .i64 n] w fun e w' => e = .returned (.tuple #[]) /\ AccO w' B (prodO o a b n) /\ Chg B w w' := by
 by_cases h : o ≠ none /\ Fin a /\ Fin b /\ -64 <= n /\ n <= 64
 ·obtain ⟨h0, h1, h2, h3, h4⟩ := h
  cases o with
  | none => exact absurd rfl h0
  | some z =>
   have : prodO (some z) a b n = holdZ (z + prodZ a b n) := if_pos ⟨h1, h2, h3, h4⟩
   rw [this]
   exact prod_adds B z a b n ha hb w hB h1 h2 h3 h4
 ·have : prodO o a b n = none := by
   cases o with
   | none => rfl
   | some z => exact if_neg (fun c => h ⟨by simp, c⟩)
  rw [this]
  exact prod_spoils B o a b n ha hb w hB h
theorem accAdd_any (B : Nat) (o : Option Int) (a : Nat) (ha : a < 18446744073709551616) (w : World) (hB : AccO w B o) :
  Calls Tryz.prog 82 #[.pointer (some ⟨B, 0, none⟩), .float .f64 a] w fun e w' => e = .returned (.tuple #[]) /\ AccO w' B (prodO o a 4607182418800017408 0) /\ Chg B w w' := by
 have HB : Hid _ := hB
 clear hB
 go_enter Tryz.func82, Tryz.ntmps82
 go_wp2_with fail
 refine (accProd_any B o a 4607182418800017408 0 ha (by omega) _ HB.out).mono ?_
 rintro e w1 ⟨rfl, h1, h2⟩
 have HS : Hid _ := And.intro h1 h2
 clear h1 h2
 go_wp2_with fail
 go_end0
 exact ⟨rfl, HS.out.1, HS.out.2⟩
open Go.RowKit Go.Shelf
attribute [local go_sem] Oper.semAt_some
theorem columns_any (v : Array Value) (hv : v.size = 6) (w : World) : Calls Tryz.prog 80 #[.agg v] w fun e w' => e = .returned (.func (.func 96) #[] #[.pointer (some ⟨w.heap.size, 0, none⟩)]) /\ w' = w.alloc (.cells v 26) := callsIn_wide.1 (columns_in Fence.wide 3 trivial rfl v hv w)
theorem res_tmp2J (f : Func) (i j : Nat) (hf : f.results = #[ResultVar.tmp i, ResultVar.tmp j]) (tmps : Array Value) (W : World) (a b : Value) (h1 : tmps[i]? = some a) (h2 : tmps[j]? = some b) : (results f tmps).run Tryz.prog W = .ok (.tuple #[a, b]) W := by
 simp [results, hf, h1, h2]
theorem heap_keptJ {W W' : World} {row : Option Nat} {b : Nat} {c : Array Value} {t : TypeId} (h : W.heap[b]? = some (.cells c t)) (hg : W.grownBy W' row) (hr : ∀ r, row = some r -> ∃ o, W.heap[r]? = some o /\ o.isCells = false) : W'.heap[b]? = some (.cells c t) := by
 rw [hg.block b (blk_lt h) ?_]
 ·exact h
 ·intro e
  obtain ⟨o, ho, hc⟩ := hr b e.symm
  rw [h] at ho
  cases ho
  cases hc
theorem AccO.obj {w : World} {B : Nat} {o : Option Int} (h : AccO w B o) : ∃ x, w.heap[B]? = some x /\ x.isCells = true := by
 have hc := h.cell
 unfold World.cell? at hc
 cases hx : w.heap[B]? with
 | none => rw [hx] at hc; cases hc
 | some x =>
  refine ⟨x, rfl, ?_⟩
  rw [hx] at hc
  cases x <;> first | rfl | (simp at hc)
theorem AccO.keptJ {W W' : World} {row : Option Nat} {B : Nat} {o : Option Int} (h : AccO W B o) (hg : W.grownBy W' row) (hr : ∀ r, row = some r -> ∃ o, W.heap[r]? = some o /\ o.isCells = false) : AccO W' B o := by
 refine h.heap (hg.block B h.block ?_)
 intro e
 obtain ⟨o, ho, hc⟩ := hr B e.symm
 obtain ⟨x, hx, hx'⟩ := h.obj
 rw [hx] at ho
 cases ho
 rw [hx'] at hc
 cases hc
theorem frung_ltJ {u : Nat} (h : u < 18446744073709551616) : frung u < 18446744073709551616 := by unfold frung; omega
end Go.Proofs.YthmhgpadinecfaaGreat
namespace Go.Proofs.YthmhgpadinecfaaGreat
open Go.RowKit
theorem Tryz.infoPJ : (Tryz.prog.info? 104).map (fun i => (i.zero, i.size, i.bytes)) = some (some (.pointer none), 1, 8) := by kernel_rfl
theorem Tryz.infoFJ : (Tryz.prog.info? 55).map (fun i => (i.zero, i.size, i.bytes)) = some (some (.float .f64 0), 1, 8) := by kernel_rfl
def ptN (n : Nat) : Array Value := madeCells #[.pointer none] n
theorem ptN_at (n j : Nat) (h : j < n) : (ptN n)[j]? = some (.pointer none) := by unfold ptN madeCells; simp [h, Nat.mod_one]
def flN (n : Nat) : Array Value := madeCells #[.float .f64 0] n
theorem flN_at (n j : Nat) (h : j < n) : (flN n)[j]? = some (.float .f64 0) := by unfold flN madeCells; simp [h, Nat.mod_one]
theorem makeP (n : Nat) (hn : n <= 1000000) (w : World) :
  (Instr.makeSlice 103 (.int .i64 (n : Int)) (.int .i64 (n : Int))).run Tryz.prog w = .ok (.slice (some ⟨w.heap.size, 0, none⟩) n n) (w.alloc (.cells (ptN n) 104)) := by
 obtain ⟨i0, hi, hz0, hz1, hz2⟩ := info3J Tryz.infoPJ
 have h := run_makeSlice (P := Tryz.prog) w 103 104 i0 (.pointer none) Tryz.underlying103 hi hz0 .i64 .i64 (n : Int) (n : Int) (by omega) (by omega) (by rw [hz1, Int.toNat_natCast]; omega) (by rw [hz2]; omega) (by omega)
 rw [Int.toNat_natCast, hz1, Nat.mul_one] at h
 exact h
theorem makeFJ (n : Nat) (hn : n <= 1000000) (w : World) :
  (Instr.makeSlice 22 (.int .i64 (n : Int)) (.int .i64 (n : Int))).run Tryz.prog w = .ok (.slice (some ⟨w.heap.size, 0, none⟩) n n) (w.alloc (.cells (flN n) 55)) := by
 obtain ⟨i0, hi, hz0, hz1, hz2⟩ := info3J Tryz.infoFJ
 have h := run_makeSlice (P := Tryz.prog) w 22 55 i0 (.float .f64 0) Tryz.underlying22 hi hz0 .i64 .i64 (n : Int) (n : Int) (by omega) (by omega) (by rw [hz1, Int.toNat_natCast]; omega) (by rw [hz2]; omega) (by omega)
 rw [Int.toNat_natCast, hz1, Nat.mul_one] at h
 exact h
theorem frozen_heapJ {w w' : World} {b : Nat} (h : w'.heap[b]? = w.heap[b]?) (o : Nat) : w'.frozen? ⟨b, o, none⟩ = w.frozen? ⟨b, o, none⟩ := by unfold World.frozen?; simp only [h]
structure AcL (w : World) (g n : Nat) (p : Nat -> Nat) (os : Nat -> Option Int) : Prop where
 row : ∀ j, j < n -> w.cell? ⟨g, j, none⟩ = some (.pointer (some ⟨p j, 0, none⟩))
 acc : ∀ j, j < n -> AccO w (p j) (os j)
 gt : ∀ j, j < n -> g < p j
 inj : ∀ i j, i < n -> j < n -> p i = p j -> i = j
theorem AcL.heap {w w' : World} {g n : Nat} {p : Nat -> Nat} {os : Nat -> Option Int} (h : AcL w g n p os) (hk : ∀ k, g <= k -> k < w.heap.size -> w'.heap[k]? = w.heap[k]?) (hg : g < w.heap.size) : AcL w' g n p os :=
 ⟨fun j hj => (cell_heapJ (hk g (Nat.le_refl _) hg) j).trans (h.row j hj), fun j hj => (h.acc j hj).heap (hk _ (Nat.le_of_lt (h.gt j hj)) (h.acc j hj).block), h.gt, h.inj⟩
theorem AcL.later {w w' : World} {g n : Nat} {p : Nat -> Nat} {os : Nat -> Option Int} (h : AcL w g n p os) (hb : Below w.heap.size w w') (hg : g < w.heap.size) : AcL w' g n p os := h.heap (fun k _ hk => hb.block k hk) hg
theorem AcL.set {w w' : World} {g n i : Nat} {p : Nat -> Nat} {os : Nat -> Option Int} {o : Option Int} (h : AcL w g n p os) (hg : g < w.heap.size) (hi : i < n) (hc : Chg (p i) w w') (ho : AccO w' (p i) o) : AcL w' g n p (fun j => if j = i then o else os j) := by
 refine ⟨fun j hj => (cell_heapJ (hc.other g hg (Nat.ne_of_lt (h.gt i hi))) j).trans (h.row j hj), fun j hj => ?_, h.gt, h.inj⟩
 by_cases e : j = i
 ·subst e; simp only [if_true]; exact ho
 ·simp only [if_neg e]
  exact (h.acc j hj).chg hc (fun c => e (h.inj j i hj hi c))
theorem chg_set {w w1 w3 : World} {g n P : Nat} {v : Value} (hg : g < w.heap.size) (hP : P = w.heap.size) (b1 : Below w.heap.size w w1) (c3 : Chg P (w1.setCell ⟨g, n, none⟩ v) w3) (k : Nat) (hk : k < w.heap.size) (hne : k ≠ g) : w3.heap[k]? = w.heap[k]? := by
 have hs : (w1.setCell ⟨g, n, none⟩ v).heap.size = w1.heap.size := by simp
 have h1 := b1.size
 rw [c3.other k (by omega) (by omega), heap_setCell_other _ _ _ _ hne, b1.block k hk]
theorem chg_row {w w1 w3 : World} {g n P : Nat} {v : Value} (hg : g < w.heap.size) (hP : P = w.heap.size) (b1 : Below w.heap.size w w1) (hc : (w1.cell? ⟨g, n, none⟩).isSome = true) (c3 : Chg P (w1.setCell ⟨g, n, none⟩ v) w3) (j : Nat) : w3.cell? ⟨g, j, none⟩ = if j = n then some v else w.cell? ⟨g, j, none⟩ := by
 have hs : (w1.setCell ⟨g, n, none⟩ v).heap.size = w1.heap.size := by simp
 have h1 := b1.size
 rw [cell_heapJ (c3.other g (by omega) (by omega)) j]
 by_cases e : j = n
 ·subst e
  rw [if_pos rfl]
  exact World.cell?_setCell_same' _ _ _ hc
 ·rw [if_neg e, World.cell?_setCell_other _ _ _ _ (by intro c; cases c; exact e rfl)]
  exact b1.cell (p := ⟨g, j, none⟩) hg
theorem chg_froz {w w1 w3 : World} {g n P : Nat} {v : Value} (hg : g < w.heap.size) (hP : P = w.heap.size) (b1 : Below w.heap.size w w1) (c3 : Chg P (w1.setCell ⟨g, n, none⟩ v) w3) (j : Nat) : w3.frozen? ⟨g, j, none⟩ = w.frozen? ⟨g, j, none⟩ := by
 have hs : (w1.setCell ⟨g, n, none⟩ v).heap.size = w1.heap.size := by simp
 have h1 := b1.size
 rw [frozen_heapJ (c3.other g (by omega) (by omega)) j, World.frozen?_setCell]
 exact frozen_heapJ (b1.block g hg) j
theorem AcL.push {w w1 w3 : World} {g n P : Nat} {p : Nat -> Nat} {os : Nat -> Option Int} (h : AcL w g n p os) (hg : g < w.heap.size) (hP : P = w.heap.size) (b1 : Below w.heap.size w w1) (hc : (w1.cell? ⟨g, n, none⟩).isSome = true) (c3 : Chg P (w1.setCell ⟨g, n, none⟩ (.pointer (some ⟨P, 0, none⟩))) w3) (a3 : AccO w3 P (os n)) : AcL w3 g (n + 1) (fun j => if j = n then P else p j) os := by
 refine ⟨fun j hj => ?_, fun j hj => ?_, fun j hj => ?_, fun i j hi hj e => ?_⟩
 ·rw [chg_row hg hP b1 hc c3 j]
  by_cases e : j = n
  ·simp only [if_pos e]
  ·simp only [if_neg e]; exact h.row j (by omega)
 ·by_cases e : j = n
  ·subst e; simp only [if_true]; exact a3
  ·simp only [if_neg e]
   have hj' : j < n := by omega
   have hg' := h.gt j hj'
   exact (h.acc j hj').heap (chg_set hg hP b1 c3 _ (h.acc j hj').block (by omega))
 ·by_cases e : j = n
  ·simp only [if_pos e]; omega
  ·simp only [if_neg e]; exact h.gt j (by omega)
 ·by_cases e1 : i = n
  ·by_cases e2 : j = n
   ·omega
   ·simp only [if_pos e1, if_neg e2] at e
    have := (h.acc j (by omega)).block
    omega
  ·by_cases e2 : j = n
   ·simp only [if_neg e1, if_pos e2] at e
    have := (h.acc i (by omega)).block
    omega
   ·simp only [if_neg e1, if_neg e2] at e
    exact h.inj i j (by omega) (by omega) e
def accB (us : List Nat) (j : Nat) : Option Int := prodO (some 0) (us[j]?.getD 0) 4607182418800017408 0
theorem accsOf_any (ao : Option Addr) (len cap : Nat) (us : List Nat) (hl : len <= 100000) (w : World) (h : RdF w ao len cap us) :
  Calls Tryz.prog 91 #[.slice ao len cap] w fun e w' => e = .returned (.slice (some ⟨w.heap.size, 0, none⟩) len len) /\ (∃ p, AcL w' w.heap.size len p (accB us)) /\ Below w.heap.size w w' /\ w.heap.size < w'.heap.size := by
 have HR : Hid _ := h
 have HLN : Hid _ := h.length
 clear h
 have hmk := makeP len (by omega)
 go_enter Tryz.func91, Tryz.ntmps91
 go_wp2_with fail
 clear hmk
 go_loopg [11] len (fun g iv wx => ∃ k : Nat, iv = .int .i64 k /\ k + g = len /\ Hid (∃ p, AcL wx w.heap.size k p (accB us)) /\ Hid ((∀ j, j < len -> ∃ v, wx.cell? ⟨w.heap.size, j, none⟩ = some (.pointer v)) /\ (∀ j, wx.frozen? ⟨w.heap.size, j, none⟩ = false)) /\ Hid (Below w.heap.size w wx) /\ Hid (w.heap.size < wx.heap.size))
 case atStart =>
  refine ⟨0, rfl, by omega, ⟨fun _ => 0, ⟨fun j hj => by omega, fun j hj => by omega, fun j hj => by omega, fun i j hi => by omega⟩⟩, ⟨fun j hj => ⟨none, cellAtJ (heap_alloc_new w _) j _ (ptN_at len j hj)⟩, fun j => frozen_of_row _ _ j _ _ (heap_alloc_new w _)⟩, (Below.refl _ w).alloc (Nat.le_refl _) _, ?_⟩
  show w.heap.size < (w.alloc _).heap.size
  simp
 case round =>
  obtain ⟨k, rfl, hk, HP, HC, HB, HS⟩ := hrel
  by_cases hlt : k < len
  ·have hd : decide ((k : Int) < (len : Int)) = true := decide_eq_true (by omega)
   obtain ⟨g, rfl⟩ : ∃ g, gk = g + 1 := ⟨gk - 1, by omega⟩
   rcases (HR.out.later HB.out).cells with h0 | ⟨ab, aoff, rfl, hca⟩
   ·omega
   have ga := hca k hlt
   have hax := HR.out.lt _ (getD_mem (us := us) (j := k) (by rw [HLN.out]; exact hlt))
   have HX : Hid (accB us k = prodO (some 0) (us[k]?.getD 0) 4607182418800017408 0) := rfl
   obtain ⟨x, hx⟩ : ∃ x, us[k]?.getD 0 = x := ⟨_, rfl⟩
   rw [hx] at ga hax HX
   have HIG : Hid (k + (g + 1) = len) := hk
   clear hca hx hk
   obtain ⟨pv, hpv⟩ := HC.out.1 k hlt
   go_wp2_with (first
    | (go_at_call 81; refine (new_any _).mono ?_; rintro e w1 ⟨rfl, a1, b1, s1⟩; have q1 := (b1.cell (p := ⟨w.heap.size, k, none⟩) HS.out).trans hpv; have q2 : w1.frozen? ⟨w.heap.size, k, none⟩ = false := (frozen_heapJ (b1.block _ HS.out) k).trans (HC.out.2 k))
    | (go_at_call 82; refine (accAdd_any wr.heap.size (some 0) x hax _ (a1.heap (heap_setCell_other _ _ _ _ (Nat.ne_of_gt HS.out)))).mono ?_; rintro e w3 ⟨rfl, a3, c3⟩))
   have hcs : (w1.cell? ⟨w.heap.size, k, none⟩).isSome = true := by rw [q1]; rfl
   have HP3 : Hid (∃ p, AcL w3 w.heap.size (k + 1) p (accB us)) := by
    obtain ⟨p, hp⟩ := HP.out
    exact ⟨_, hp.push HS.out rfl b1 hcs c3 (by rw [HX.out]; exact a3)⟩
   have HC3 : Hid ((∀ j, j < len -> ∃ v, w3.cell? ⟨w.heap.size, j, none⟩ = some (.pointer v)) /\ (∀ j, w3.frozen? ⟨w.heap.size, j, none⟩ = false)) := by
    refine ⟨fun j hj => ?_, fun j => (chg_froz HS.out rfl b1 c3 j).trans (HC.out.2 j)⟩
    rw [chg_row HS.out rfl b1 hcs c3 j]
    by_cases e : j = k
    ·exact ⟨_, if_pos e⟩
    ·rw [if_neg e]; exact HC.out.1 j hj
   have hsS : (w1.setCell ⟨w.heap.size, k, none⟩ (.pointer (some ⟨wr.heap.size, 0, none⟩))).heap.size = w1.heap.size := by simp
   have HB3 : Hid (Below w.heap.size w w3) := (HB.out.trans (b1.mono (Nat.le_of_lt HS.out))).trans (((Below.refl w.heap.size w1).setCell (p := ⟨w.heap.size, k, none⟩) (Nat.le_refl _) _).trans (c3.below.mono (Nat.le_of_lt HS.out)))
   have HS3 : Hid (w.heap.size < w3.heap.size) := by unfold Hid; have h1 := c3.below.size; have h2 := b1.size; have h3 := HS.out; omega
   clear q1 q2 hcs a1 b1 s1 a3 c3 hsS hpv ga hax HX HP HC
   go_roundg g
   case measure => omega
   case rel => exact ⟨k + 1, by go_num, by have := HIG.out; omega, HP3, HC3, HB3, HS3⟩
  ·have hd : decide ((k : Int) < (len : Int)) = false := decide_eq_false (by omega)
   have hd' : decide (k < len) = false := decide_eq_false (by omega)
   have hkl : k = len := by omega
   have HP2 : Hid (∃ p, AcL wr w.heap.size len p (accB us)) := hkl ▸ HP.out
   clear hkl
   go_wp2_with fail
   go_ret
   exact ⟨rfl, HP2.out, HB.out, HS.out⟩
def addJ (us : List Nat) (os : Nat -> Option Int) (k j : Nat) : Option Int := if j < k then prodO (os j) (frung (us[j]?.getD 0)) 4607182418800017408 0 else os j
theorem addJ_succ (us : List Nat) (os : Nat -> Option Int) (k j : Nat) : addJ us os (k + 1) j = if j = k then prodO (addJ us os k k) (frung (us[k]?.getD 0)) 4607182418800017408 0 else addJ us os k j := by
 unfold addJ
 by_cases e : j = k
 ·subst e; rw [if_pos (by omega), if_pos rfl, if_neg (by omega)]
 ·rw [if_neg e]
  by_cases h : j < k
  ·rw [if_pos (by omega), if_pos h]
  ·rw [if_neg (by omega), if_neg h]
theorem addSizes_any (gB n gc : Nat) (p : Nat -> Nat) (os : Nat -> Option Int) (ao : Option Addr) (len cap : Nat) (us : List Nat) (hln : len <= n) (w : World) (hG : gB < w.heap.size) (hA : AcL w gB n p os) (h : ∀ W', Below gB w W' -> RdF W' ao len cap us) :
  Calls Tryz.prog 92 #[.slice (some ⟨gB, 0, none⟩) n gc, .slice ao len cap] w fun e w' => e = .returned (.tuple #[]) /\ AcL w' gB n p (addJ us os len) /\ Below gB w w' /\ (∀ k, k < w.heap.size -> (∀ j, j < n -> k ≠ p j) -> w'.heap[k]? = w.heap[k]?) := by
 have HR : Hid _ := h
 have h0 := h w (Below.refl _ _)
 have hmx : len <= 9223372036854775807 := Nat.le_trans h0.max maxLen_le
 have HLN : Hid _ := h0.length
 have HA0 : Hid (AcL w gB n p (addJ us os 0)) := ⟨hA.row, fun j hj => by unfold addJ; rw [if_neg (by omega)]; exact hA.acc j hj, hA.gt, hA.inj⟩
 have HG0 : Hid _ := hG
 clear h h0 hA hG
 go_enter Tryz.func92, Tryz.ntmps92
 go_wp2_with fail
 go_loopg [8] len (fun g iv wx => ∃ k : Nat, iv = .int .i64 k /\ k + g = len /\ Hid (AcL wx gB n p (addJ us os k)) /\ Hid (Below gB w wx) /\ Hid (∀ k, k < w.heap.size -> (∀ j, j < n -> k ≠ p j) -> wx.heap[k]? = w.heap[k]?) /\ Hid (gB < wx.heap.size))
 case atStart => exact ⟨0, rfl, by omega, HA0, Below.refl _ _, fun _ _ _ => rfl, HG0⟩
 case round =>
  clear HA0 HG0
  obtain ⟨k, rfl, hk, HA, HB, HO, HG⟩ := hrel
  by_cases hlt : k < len
  ·have hd : decide ((k : Int) < (len : Int)) = true := decide_eq_true (by omega)
   obtain ⟨g, rfl⟩ : ∃ g, gk = g + 1 := ⟨gk - 1, by omega⟩
   have hkn : k < n := by omega
   have hr := HR.out _ HB.out
   rcases hr.cells with h0 | ⟨ab, aoff, rfl, hca⟩
   ·omega
   have ga := hca k hlt
   have hax := hr.lt _ (getD_mem (us := us) (j := k) (by rw [HLN.out]; exact hlt))
   obtain ⟨x, hx⟩ : ∃ x, us[k]?.getD 0 = x := ⟨_, rfl⟩
   have HX : Hid (us[k]?.getD 0 = x) := hx
   rw [hx] at ga hax
   have HIG : Hid (k + (g + 1) = len) := hk
   clear hca hx hk hr
   go_upto_region 3 with fail
   have hS : (fun w' => w'.cell? ⟨gB, k, none⟩ = some (.pointer (some ⟨p k, 0, none⟩))) wr.drew := HA.out.row k hkn
   refine wp_region_noPanic ?_
   refine wp_region_held_drew (S := (fun w' => w'.cell? ⟨gB, k, none⟩ = some (.pointer (some ⟨p k, 0, none⟩)))) (by kernel_rfl) hS (fun _ => ?_)
   refine tzI 13 0 ?_ ?_ (by assumption) ?_
   rotate_left
   ·intro w' hSw; (try dsimp only at hSw); go_simp; try with_reducible rfl
   try simp only [pA,pE,pB,pC,pD]
   refine tzI 14 1 ?_ ?_ (by assumption) ?_
   rotate_left
   ·intro w' hSw; (try dsimp only at hSw); go_simp; try with_reducible rfl
   try simp only [pA,pE,pB,pC,pD]
   refine tzI 15 2 ?_ ?_ (by assumption) ?_
   rotate_left
   ·intro w' hSw; (try dsimp only at hSw); go_simp; try with_reducible rfl
   try simp only [pA,pE,pB,pC,pD]
   refine tzI 16 3 ?_ ?_ (by assumption) ?_
   rotate_left
   ·intro w' hSw; (try dsimp only at hSw); go_simp; try with_reducible rfl
   try simp only [pA,pE,pB,pC,pD]
   refine tzI 17 4 ?_ ?_ (by assumption) ?_
   rotate_left
   ·intro w' hSw; (try dsimp only at hSw); go_simp; try with_reducible rfl
   try simp only [pA,pE,pB,pC,pD]
   refine rzH [5] ?_
   refine consH _ rfl (hzC 18 (Calls.mono (abs_any x hax _) ?_)) AllReadyH.nil
   rintro e m ⟨rfl, hm⟩
   subst hm
   refine ⟨_, rfl, hS, ?_⟩
   try simp only [pA,pE,pB,pC,pD]
   refine rzH [6] ?_
   refine consH _ rfl (hzC 19 (Calls.mono (accAdd_any (p k) _ (frung x) (frung_ltJ hax) _ (HA.out.acc k hkn).drew) ?_)) AllReadyH.nil
   rintro e w5 ⟨rfl, a5, c5⟩
   have hgt := HA.out.gt k hkn
   have hS5 : (fun w' => w'.cell? ⟨gB, k, none⟩ = some (.pointer (some ⟨p k, 0, none⟩))) w5 := (cell_heapJ (c5.other gB HG.out (by omega)) k).trans (HA.out.row k hkn)
   refine ⟨_, rfl, hS5, ?_⟩
   try simp only [pA,pE,pB,pC,pD]
   refine wpAnyH_done (by kernel_rfl) ?_ _
   refine NoPanic.normal ?_
   try simp only [pA,pE,pB,pC,pD]
   have HA5 : Hid (AcL w5 gB n p (addJ us os (k + 1))) := by
    have h5 := AcL.set (w := wr.drew) (HA.out.heap (fun _ _ _ => rfl) HG.out) HG.out hkn c5 a5
    refine ⟨h5.row, fun j hj => ?_, h5.gt, h5.inj⟩
    have h6 := h5.acc j hj
    rw [addJ_succ, HX.out]
    exact h6
   have HB5 : Hid (Below gB w w5) := HB.out.drew.trans (c5.below.mono (by omega))
   have HO5 : Hid (∀ k, k < w.heap.size -> (∀ j, j < n -> k ≠ p j) -> w5.heap[k]? = w.heap[k]?) := fun i hi hne => (c5.other i (Nat.lt_of_lt_of_le hi HB.out.size) (hne k hkn)).trans (HO.out i hi hne)
   have HG5 : Hid (gB < w5.heap.size) := Nat.lt_of_lt_of_le HG.out c5.below.size
   clear hS hS5 a5 c5 hax HX
   go_wp2_with fail
   go_roundg g
   case measure => omega
   case rel => exact ⟨k + 1, by go_num, by have := HIG.out; omega, HA5, HB5, HO5, HG5⟩
  ·have hd : decide ((k : Int) < (len : Int)) = false := decide_eq_false (by omega)
   have hd' : decide (k < len) = false := decide_eq_false (by omega)
   have hkl : k = len := by omega
   have HA2 : Hid (AcL wr gB n p (addJ us os len)) := hkl ▸ HA.out
   clear hkl
   go_wp2_with fail
   go_end0
   exact ⟨rfl, HA2.out, HB.out, HO.out⟩
open Go.RowKit Go.Shelf
attribute [local go_sem] Oper.semAt_some
theorem AcL.keptJ {W W' : World} {row : Option Nat} {g n : Nat} {p : Nat -> Nat} {os : Nat -> Option Int} (h : AcL W g n p os) (hg : W.grownBy W' row) (hr : ∀ r, row = some r -> ∃ o, W.heap[r]? = some o /\ o.isCells = false) : AcL W' g n p os :=
 ⟨fun j hj => cell_kept (h.row j hj) hg hr, fun j hj => (h.acc j hj).keptJ hg hr, h.gt, h.inj⟩
theorem acc_ne {W : World} {P B : Nat} {o : Option Int} {c : Array Value} {t : TypeId} (h : AccO W P o) (hB : W.heap[B]? = some (.cells c t)) (hc : c.size <= 76) : B ≠ P := by
 rintro rfl
 have h1 := h.cell
 rw [cell_of_row _ _ _ _ _ _ hB, Array.getElem?_eq_none hc] at h1
 cases h1
def farC (z : ZD) (len : Nat) (os : Nat -> Option Int) (pre : List (_root_.Fin z.dn)) : Nat -> Option Int := pre.foldl (fun os k => addJ (z.gs[k.val]?.getD []) os len) os
theorem farC_snoc (z : ZD) (len : Nat) (os : Nat -> Option Int) (pre : List (_root_.Fin z.dn)) (x : _root_.Fin z.dn) : farC z len os (pre ++ [x]) = addJ (z.gs[x.val]?.getD []) (farC z len os pre) len := by unfold farC; rw [List.foldl_append]; rfl
def farZ (z : ZD) : Nat -> Option Int := farC z z.rn (accB z.rs) (List.finRange z.dn)
theorem reaches_any (z : ZD) (w : World) (hz : ZR w z) (hrn : z.rn <= 100000) (hdg : z.dn <= z.gn) (hw : ∀ k, k < z.dn -> (z.gs[k]?.getD []).length = z.rn) :
  Calls Tryz.prog 67 #[.agg #[.int .i64 z.N, .slice z.co z.cn z.cc, .slice z.io z.dn z.dc, .slice z.go z.gn z.gc, .slice z.ro z.rn z.rc, .bool z.bad]] w fun e w' => e = .returned (.slice (some ⟨w.heap.size + 1, 0, none⟩) z.rn z.rn) /\ (∃ p, AcL w' (w.heap.size + 1) z.rn p (farZ z)) /\ Below w.heap.size w w' /\ w.heap.size + 1 < w'.heap.size := by
 have HZ : Hid (∀ W', Below w.heap.size w W' -> ZR W' z) := fun W' hb => hz.later hb
 obtain ⟨fz, hfz⟩ : ∃ fz, farZ z = fz := ⟨_, rfl⟩
 rw [hfz]
 have HFZ : Hid (farC z z.rn (accB z.rs) (List.finRange z.dn) = fz) := hfz
 have HW : Hid _ := hw
 clear hz hw hfz
 obtain ⟨N, co, cn, cc, io, dn, dc, go, gn, gc, ro, rn, rc, bad, cs, ids, gv, gs, rs⟩ := z
 dsimp only at HZ HFZ HW hrn hdg ⊢
 have X0 : Below w.heap.size w (w.alloc (.cells #[.int .i64 N, .slice co cn cc, .slice io dn dc, .slice go gn gc, .slice ro rn rc, .bool bad] 26)) := (Below.refl _ w).alloc (Nat.le_refl _) _
 have hx0 : (w.alloc (.cells #[.int .i64 N, .slice co cn cc, .slice io dn dc, .slice go gn gc, .slice ro rn rc, .bool bad] 26)).heap.size = w.heap.size + 1 := by simp
 refine (callsIn_wide (n := 3)).1 ?_
 refine callsIn_of_wp_marks Tryz.func67 rfl trivial ?_ rfl
 refine wpIn_wide.2 ?_
 simp only [Tryz.ntmps67, List.size_toArray, List.length_cons, List.length_nil, Nat.reduceAdd, Nat.reduceSub, Array.replicate_succ, Array.replicate_zero, List.push_toArray, List.append_toArray, List.nil_append, List.cons_append]
 go_upto_region 2 with (first | (go_at_call 91; refine Calls.mono (accsOf_any ro rn rc rs hrn _ (HZ.out _ X0).r) ?_; rintro e w1 ⟨rfl, a1, b1, s1⟩))
 obtain ⟨p, hp⟩ := a1
 rw [hx0] at hp s1
 have Z0 : (w1.alloc (.cells #[.slice (some ⟨w.heap.size + 1, 0, none⟩) rn rn] 103)).heap[w.heap.size]? = some (.cells #[.int .i64 N, .slice co cn cc, .slice io dn dc, .slice go gn gc, .slice ro rn rc, .bool bad] 26) := alloc_kept (kept b1 (heap_alloc_new w _)) _
 have Z1 : (w1.alloc (.cells #[.slice (some ⟨w.heap.size + 1, 0, none⟩) rn rn] 103)).heap[w1.heap.size]? = some (.cells #[.slice (some ⟨w.heap.size + 1, 0, none⟩) rn rn] 103) := heap_alloc_new w1 _
 have Z2 : Below w.heap.size w (w1.alloc (.cells #[.slice (some ⟨w.heap.size + 1, 0, none⟩) rn rn] 103)) := (to_call X0 b1).alloc (to_call X0 b1).size _
 have Z3 : AcL (w1.alloc (.cells #[.slice (some ⟨w.heap.size + 1, 0, none⟩) rn rn] 103)) (w.heap.size + 1) rn p (accB rs) := hp.later ((Below.refl _ w1).alloc (Nat.le_refl _) _) s1
 obtain ⟨X5, hX5⟩ : ∃ X5, w1.alloc (.cells #[.slice (some ⟨w.heap.size + 1, 0, none⟩) rn rn] 103) = X5 := ⟨_, rfl⟩
 rw [hX5] at Z0 Z1 Z2 Z3 ⊢
 clear hX5 hp b1 X0 hx0
 go_wp2_with (first
  | (refine wpList_load_row (by rfl) 26 _ (by rfl) w.heap.size _ (by rfl) Z0 _ Tryz.underlying26 rfl 6 Tryz.infoZ (by rfl) ?_)
  | (go_at_call 80; refine Calls.mono (columns_any _ rfl _) ?_; rintro e w' ⟨rfl, hw⟩; rw [hw]; clear hw))
 have hab := blk_lt Z1
 have V1 : (X5.alloc (.cells #[.int .i64 N, .slice co cn cc, .slice io dn dc, .slice go gn gc, .slice ro rn rc, .bool bad] 26)).heap[w1.heap.size]? = _ := alloc_kept Z1 _
 have V2 : Below w.heap.size w (X5.alloc (.cells #[.int .i64 N, .slice co cn cc, .slice io dn dc, .slice go gn gc, .slice ro rn rc, .bool bad] 26)) := Z2.alloc Z2.size _
 have V3 : AcL (X5.alloc (.cells #[.int .i64 N, .slice co cn cc, .slice io dn dc, .slice go gn gc, .slice ro rn rc, .bool bad] 26)) (w.heap.size + 1) rn p (accB rs) := Z3.later ((Below.refl _ X5).alloc (Nat.le_refl _) _) (by omega)
 have V5 : (X5.alloc (.cells #[.int .i64 N, .slice co cn cc, .slice io dn dc, .slice go gn gc, .slice ro rn rc, .bool bad] 26)).heap[X5.heap.size]? = _ := heap_alloc_new X5 _
 obtain ⟨X, hX⟩ : ∃ X, X5.alloc (.cells #[.int .i64 N, .slice co cn cc, .slice io dn dc, .slice go gn gc, .slice ro rn rc, .bool bad] 26) = X := ⟨_, rfl⟩
 rw [hX] at V1 V2 V3 V5 ⊢
 clear hX Z0 Z1 Z2 Z3
 have hxs := blk_lt V5
 refine (wpIn_wide (n := 3)).1 ?_
 refine wpIn_rangeFunc_ownF rfl (by decide) (gf := 96) (lb := #[.pointer (some ⟨X5.heap.size, 0, none⟩)]) rfl trivial (enters_of Tryz.func96 (by kernel_rfl) rfl)
  (cols_stops Fence.wide 2 trivial rfl (by decide) X5.heap.size ⟨N, co, cn, cc, io, dn, dc, go, gn, gc, ro, rn, rc, bad, cs, ids, gv, gs, rs⟩ hdg w X V2 (HZ.out w (Below.refl _ _)) V5) KpZ.trans (kpZ_b V2.size hxs) (Below.refl _ _) (fun _ => rfl)
  (fun pre W => (W.heap[w1.heap.size]? = some (.cells #[.slice (some ⟨w.heap.size + 1, 0, none⟩) rn rn] 103) /\ W.heap[X5.heap.size]? = some (.cells #[.int .i64 N, .slice co cn cc, .slice io dn dc, .slice go gn gc, .slice ro rn rc, .bool bad] 26) /\ AcL W (w.heap.size + 1) rn p (farC ⟨N, co, cn, cc, io, dn, dc, go, gn, gc, ro, rn, rc, bad, cs, ids, gv, gs, rs⟩ rn (accB rs) pre)) /\ Below w.heap.size w W)
  (fun _ _ _ => False)
  (OwnFrom.and (Own.from (fun s A B row hs hg hr => ⟨heap_keptJ hs.1 hg hr, heap_keptJ hs.2.1 hg hr, hs.2.2.keptJ hg hr⟩) _) (ownFrom_below (Nat.le_refl _) V2.size))
  (fun _ _ _ _ _ hs _ _ => hs)
  ⟨⟨V1, V5, V3⟩, V2⟩
  ?a1 ?assign ?body ?done ?stop
 case assign =>
  intro l x W K hK
  dsimp only [encZ]
  gi_wp2
  exact hK
 case body =>
  rintro l pre x W ⟨⟨h1, h2, h3⟩, hB⟩ hlen
  have hg : ∀ W', Below (w.heap.size + 1) W W' -> RdF W' (gv x.val).1 (gv x.val).2.1 (gv x.val).2.2 (gs[x.val]?.getD []) := fun W' hb => (HZ.out W' (hB.trans (hb.mono (by omega)))).g.each x.val (Nat.lt_of_lt_of_le x.isLt hdg)
  have hgl := HW.out x.val x.isLt
  have hln := (hg W (Below.refl _ _)).length
  have HJ : Hid (farC ⟨N, co, cn, cc, io, dn, dc, go, gn, gc, ro, rn, rc, bad, cs, ids, gv, gs, rs⟩ rn (accB rs) (pre ++ [x]) = addJ (gs[x.val]?.getD []) (farC ⟨N, co, cn, cc, io, dn, dc, go, gn, gc, ro, rn, rc, bad, cs, ids, gv, gs, rs⟩ rn (accB rs) pre) rn) := farC_snoc _ _ _ _ _
  have hGW : w.heap.size + 1 < W.heap.size := by have := blk_lt h1; omega
  have HC : Hid _ := addSizes_any (w.heap.size + 1) rn rn p _ _ _ _ _ (by omega) W hGW h3 hg
  rw [<- hln, hgl] at HC
  have cs' := cellAtJ h1 0 _ rfl
  have HH : Hid _ := And.intro h1 (And.intro h2 h3)
  rw [<- hln, hgl]
  clear h1 h2 h3 hg hgl
  gi_wp2_with (first
   | (refine (⟨trivial, ?_⟩ : (Fence.inRound Fence.wide l).fn 92 /\ _); gi_at_call 92; refine (CallsIn.inRound l (callsIn_wide.2 HC.out)).mono ?_; rintro e w7 ⟨rfl, a7, b7, o7⟩))
  have hne : ∀ (k : Nat) (c : Array Value) (t : TypeId), W.heap[k]? = some (Obj.cells c t) -> c.size <= 76 -> w7.heap[k]? = some (Obj.cells c t) := fun k c t hk hc => (o7 k (blk_lt hk) (fun j hj => acc_ne (HH.out.2.2.acc j hj) hk hc)).trans hk
  have hko : KeepsOthers W w7 := ⟨b7.size, fun k o hk hc => (o7 k (blk_lt hk) (fun j hj e => by subst e; obtain ⟨y, hy, hy'⟩ := (HH.out.2.2.acc j hj).obj; rw [hk] at hy; cases hy; rw [hc] at hy'; cases hy')).trans hk⟩
  have hb7 : Below w.heap.size W w7 := b7.mono (by omega)
  exact ⟨hko, ⟨hb7, (hne _ _ _ HH.out.2.1 (by simp)).trans HH.out.2.1.symm⟩, ⟨hne _ _ _ HH.out.1 (by simp), hne _ _ _ HH.out.2.1 (by simp), by rw [HJ.out]; exact a7⟩, hB.trans hb7⟩
 case done =>
  rintro D ys W hD rfl ⟨⟨h1, h2, h3⟩, hB⟩ hK
  rw [HFZ.out] at h3
  have cs' := cellAtJ h1 0 _ rfl
  have hsz : w.heap.size + 1 < W.heap.size := by have := blk_lt h1; omega
  have hDw : w.heap.size <= D := Nat.le_trans V2.size hD
  have HH : Hid _ := h3
  clear h1 h2 h3
  go_wp2_with fail
  refine ⟨by simp, .inl ⟨_, _, rfl, run_takeDeferred hK, ?_⟩⟩
  have hgr := grownBy_putObj' W D (.deferred none)
  have hrr : ∀ r, some D = some r -> ∃ o, W.heap[r]? = some o /\ o.isCells = false := fun r e => by cases e; exact ⟨_, hK, rfl⟩
  exact ⟨_, results_tmp rfl _ _ _, rfl, ⟨p, HH.out.keptJ hgr hrr⟩, hB.trans (belowK_b (w := w) (Nat.le_refl _) W D _ _ hDw hK rfl rfl), Nat.lt_of_lt_of_le hsz hgr.size⟩
 case stop =>
  rintro D c pre W _ _ h _
  exact h.elim
end Go.Proofs.YthmhgpadinecfaaGreat
namespace Go.Proofs.YthmhgpadinecfaaGreat
open Go.RowKit
theorem run_store_f : ∀ (W : World) (a : Addr) (x : Nat), (store a (.float .f64 x)).run Tryz.prog W = stored Tryz.prog W a (.float .f64 x) .plain := fun W a x => run_store Tryz.prog W a _ .plain rfl
theorem next_plain {x : Nat} (hx : x < 18446744073709551616) (hf : Fin x) (w : World) :
  Calls Tryz.prog 93 #[.int .i64 0, .float .f64 x] w fun e w' => e = .returned (.tuple #[.float .f64 (plainM x), .bool true]) /\ w' = w := by
 obtain ⟨p, h1, -, c⟩ := next_any 0 x hx
 have h := h1 hf
 rw [show sideOf 0 = 0 from rfl, Int.add_zero] at h
 have := canon_rnd (D := 64) hx hf (by decide) (.inl rfl) h
 subst this
 exact c w
theorem RndO.ltJ {d : Int} {o : Option Int} {u : Nat} {b : Bool} (h : RndO d o u b) : u < 18446744073709551616 := by
 cases o with
 | none => rw [h.1]; decide
 | some z =>
  obtain ⟨a, ha⟩ : ∃ a : Nat, a = 1166 := ⟨_, rfl⟩
  exact (tell_fin (h a ha)).2
open Go.RowKit Go.Shelf
open Ieee
theorem fval_oneJ {a : Nat} (ha : a = 1074) : fval 4607182418800017408 = ((2 ^ a : Nat) : Int) := by subst ha; decide +kernel
theorem fval_minusJ {a : Nat} (ha : a = 1074) : fval 13830554455654793216 = -((2 ^ a : Nat) : Int) := by subst ha; decide +kernel
theorem pow92 {a b : Nat} (ha : a = 1166) (hb : b = 1074) : ((2 ^ b : Nat) : Int) * ((2 ^ ((0 : Int) + 92).toNat : Nat) : Int) = ((2 ^ a : Nat) : Int) := by
 rw [show ((0 : Int) + 92).toNat = 92 by decide]
 have : (2 : Nat) ^ a = 2 ^ b * 2 ^ 92 := by rw [<- Nat.pow_add, show b + 92 = a by omega]
 rw [this, Int.natCast_mul]
def sgJ (b : Nat) (s : Int) : Prop := (b = 4607182418800017408 /\ s = 1) \/ (b = 13830554455654793216 /\ s = -1)
theorem prodZ_sg {a b u : Nat} {s : Int} (ha : a = 1166) (h : sgJ b s) : prodZ b u 0 = s * fval u * ((2 ^ a : Nat) : Int) := by
 unfold prodZ
 obtain ⟨c, hc⟩ : ∃ c : Nat, c = 1074 := ⟨_, rfl⟩
 have hp := pow92 ha hc
 generalize ((2 ^ ((0 : Int) + 92).toNat : Nat) : Int) = Y at hp ⊢
 rcases h with ⟨rfl, rfl⟩ | ⟨rfl, rfl⟩
 ·rw [fval_oneJ hc, <- hp]
  generalize ((2 ^ c : Nat) : Int) = X
  rw [Int.one_mul, Int.mul_comm X, Int.mul_assoc]
 ·rw [fval_minusJ hc, <- hp]
  generalize ((2 ^ c : Nat) : Int) = X
  rw [Int.mul_comm (-X), Int.mul_assoc, Int.neg_mul, Int.mul_neg, Int.neg_mul, Int.one_mul, Int.neg_mul]
theorem prodZ_oneJ {a : Nat} (ha : a = 1166) (u : Nat) : prodZ u 4607182418800017408 0 = fval u * ((2 ^ a : Nat) : Int) := by
 have h : prodZ u 4607182418800017408 0 = prodZ 4607182418800017408 u 0 := by unfold prodZ; rw [Int.mul_comm (fval u)]
 rw [h, prodZ_sg ha (.inl ⟨rfl, rfl⟩), Int.one_mul]
theorem frung_frung (u : Nat) : frung (frung u) = frung u := by unfold frung; omega
theorem fneg_frung (u : Nat) : fneg (frung u) = false := by unfold fneg frung; simp
theorem fval_frung (u : Nat) : fval (frung u) = (rmag (frung u) : Int) := by unfold fval; rw [fneg_frung, frung_frung]; rfl
theorem hold_sumJ {a E : Nat} {x : Int} (ha : a = 1166) (hE : E = 2140) (hx : x.natAbs < 2 ^ E) : holdZ (x * ((2 ^ a : Nat) : Int)) = some (x * ((2 ^ a : Nat) : Int)) := by
 unfold holdZ
 rw [if_pos]
 obtain ⟨Q, hQ⟩ : ∃ Q : Nat, Q = 4800 := ⟨_, rfl⟩
 have h2 : (2 : Nat) ^ E * 2 ^ a <= 2 ^ Q := by rw [<- Nat.pow_add]; exact Nat.pow_le_pow_right (by omega) (by omega)
 have h3 : (x * ((2 ^ a : Nat) : Int)).natAbs < 2 ^ Q := by
  rw [Int.natAbs_mul, Int.natAbs_natCast]
  exact Nat.lt_of_lt_of_le (Nat.mul_lt_mul_of_pos_right hx (Nat.two_pow_pos _)) h2
 rw [hQ] at h3
 generalize x * ((2 ^ a : Nat) : Int) = X at *
 generalize 2 ^ 4800 = L at *
 omega
theorem fin_zeroJ : Fin 0 := by decide
theorem fin_frung {u : Nat} (h : Fin u) : Fin (frung u) := by unfold Fin at *; rw [frung_frung]; exact h
theorem prodO_step {a E u b : Nat} {x y : Int} (ha : a = 1166) (hE : E = 2140) (hu : Fin u) (hb : Fin b) (hp : prodZ u b 0 = y * ((2 ^ a : Nat) : Int)) (hx : (x + y).natAbs < 2 ^ E) : prodO (some (x * ((2 ^ a : Nat) : Int))) u b 0 = some ((x + y) * ((2 ^ a : Nat) : Int)) := by
 unfold prodO
 simp only [Option.bind_some]
 rw [if_pos ⟨hu, hb, by decide, by decide⟩, hp, <- Int.add_mul, hold_sumJ ha hE hx]
def sumA {α : Type} (A : α -> Nat) : List α -> Nat
 | [] => 0
 | k :: ks => A k + sumA A ks
theorem sumA_le {α : Type} {A : α -> Nat} {M : Nat} : ∀ (l : List α), (∀ k ∈ l, A k <= M) -> sumA A l <= l.length * M
 | [], _ => Nat.zero_le _
 | k :: ks, h => by
  have h1 := sumA_le ks fun j hj => h j (List.mem_cons_of_mem _ hj)
  have h2 := h k List.mem_cons_self
  rw [sumA, List.length_cons, Nat.succ_mul]
  omega
theorem farC_sum {a E len j : Nat} {z : ZD} {A : _root_.Fin z.dn -> Nat} (ha : a = 1166) (hE : E = 2140) (hj : j < len) :
  ∀ (pre : List (_root_.Fin z.dn)) (os : Nat -> Option Int) (x : Int), os j = some (x * ((2 ^ a : Nat) : Int)) -> (∀ k ∈ pre, Fin ((z.gs[k.val]?.getD [])[j]?.getD 0) /\ rmag (frung ((z.gs[k.val]?.getD [])[j]?.getD 0)) = A k) -> x.natAbs + sumA A pre < 2 ^ E →
   farC z len os pre j = some ((x + (sumA A pre : Nat)) * ((2 ^ a : Nat) : Int))
 | [], os, x, ho, _, _ => by simp [farC, sumA, ho]
 | k :: ks, os, x, ho, h, hb => by
  obtain ⟨hf, hA⟩ := h k List.mem_cons_self
  rw [sumA] at hb
  have hst : farC z len os (k :: ks) = farC z len (addJ (z.gs[k.val]?.getD []) os len) ks := rfl
  have hn : addJ (z.gs[k.val]?.getD []) os len j = some ((x + (A k : Nat)) * ((2 ^ a : Nat) : Int)) := by
   unfold addJ
   rw [if_pos hj, ho]
   exact prodO_step ha hE (fin_frung hf) (by decide) (by rw [prodZ_oneJ ha, fval_frung, hA]) (by omega)
  rw [hst, farC_sum ha hE hj ks _ (x + (A k : Nat)) hn (fun j hj => h j (List.mem_cons_of_mem _ hj)) (by omega), sumA, Int.natCast_add, Int.add_assoc]
def clA (z : ZD) (i : Nat) (k : _root_.Fin z.dn) : Nat := rmag (frung ((z.gs[k.val]?.getD [])[i]?.getD 0))
def reA (z : ZD) (i : Nat) : Int := fval (z.rs[i]?.getD 0) + (sumA (clA z i) (List.finRange z.dn) : Nat)
structure FnZ (z : ZD) : Prop where
 c : ∀ j : Nat, Fin (z.cs[j]?.getD 0)
 r : ∀ j : Nat, Fin (z.rs[j]?.getD 0)
 g : ∀ k j : Nat, Fin ((z.gs[k]?.getD [])[j]?.getD 0)
 few : z.dn <= 1050000
theorem sum_bound {z : ZD} (h : FnZ z) (i : Nat) {F : Nat} (hF : F = 2098) : sumA (clA z i) (List.finRange z.dn) <= 1050000 * 2 ^ F := by
 have h1 := sumA_le (A := clA z i) (M := 2 ^ F) (List.finRange z.dn) fun k _ => Nat.le_of_lt (fval_ltJ (h.g k.val i) hF)
 rw [List.length_finRange] at h1
 exact Nat.le_trans h1 (Nat.mul_le_mul_right _ h.few)
theorem great_bound {F E : Nat} (hF : F = 2098) (hE : E = 2140) : 2097152 * 2 ^ F <= 2 ^ E := by
 rw [show (2097152 : Nat) = 2 ^ 21 by decide, <- Nat.pow_add]
 exact Nat.pow_le_pow_right (by omega) (by omega)
theorem farZ_is {a i : Nat} {z : ZD} (ha : a = 1166) (h : FnZ z) (hi : i < z.rn) : farZ z i = some (reA z i * ((2 ^ a : Nat) : Int)) := by
 obtain ⟨F, hF⟩ : ∃ F : Nat, F = 2098 := ⟨_, rfl⟩
 obtain ⟨E, hE⟩ : ∃ E : Nat, E = 2140 := ⟨_, rfl⟩
 have hs := sum_bound h i hF
 have hg := great_bound hF hE
 have hr := fval_ltJ (h.r i) hF
 rw [<- fval_absJ] at hr
 unfold farZ reA
 refine farC_sum ha hE hi _ _ _ ?_ (fun k _ => ⟨h.g k.val i, rfl⟩) (by generalize 2 ^ F = X at *; generalize 2 ^ E = Y at *; omega)
 unfold accB
 have := prodO_step (x := 0) ha hE (h.r i) (by decide) (prodZ_oneJ ha _) (by rw [Int.zero_add]; generalize 2 ^ F = X at *; generalize 2 ^ E = Y at *; omega)
 rw [Int.zero_mul, Int.zero_add] at this
 exact this
end Go.Proofs.YthmhgpadinecfaaGreat
namespace Go.Proofs.YthmhgpadinecfaaGreat
open Go.RowKit
theorem grK_fin {us : List Nat} (hf : ∀ j : Nat, Fin (us[j]?.getD 0)) : ∀ k, grK us k < infK
 | 0 => by unfold grK infK; omega
 | k + 1 => by
  have h1 := grK_fin hf k
  have h2 : frung (us[k]?.getD 0) < infK := hf k
  rw [grK]
  omega
theorem infK_lt : infK < 9223372036854775808 := by unfold infK; omega
theorem frung_lo {x : Nat} (h : x < 9223372036854775808) : frung x = x := by unfold frung; omega
theorem fneg_lo {x : Nat} (h : x < 9223372036854775808) : fneg x = false := by unfold fneg; simp; omega
theorem srung_lo {x : Nat} (h : x < 9223372036854775808) : srung x = (x : Int) := by unfold srung; rw [fneg_lo h, frung_lo h]; rfl
theorem f64_fmtT : FloatKind.f64.format = Ieee.double := rfl
theorem max2_runT {P : Program} {x y : Nat} (hx : frung x <= infK) (hy : frung y <= infK) : ∃ r, (r = x \/ r = y) /\ srung r = max (srung x) (srung y) /\ ∀ w, (Builtin.max2 (.float .f64 x) (.float .f64 y)).run P w = .ok (.float .f64 r) w := by
 have ho := order_rung hx hy
 by_cases h1 : srung x < srung y
 ·rw [Int.compare_eq_lt.2 h1] at ho
  refine ⟨y, .inr rfl, by omega, fun w => ?_⟩
  unfold Builtin.max2; simp only [f64_fmtT, ho]; rfl
 ·by_cases h2 : srung x = srung y
  ·rw [Int.compare_eq_eq.2 h2] at ho
   refine ⟨if (FloatKind.f64.decode x).neg then y else x, ?_, ?_, fun w => ?_⟩
   ·split <;> simp
   ·split <;> omega
   ·unfold Builtin.max2; simp only [f64_fmtT, ho]; rfl
  ·rw [Int.compare_eq_gt.2 (by omega)] at ho
   refine ⟨x, .inl rfl, by omega, fun w => ?_⟩
   unfold Builtin.max2; simp only [f64_fmtT, ho]; rfl
theorem run_maxT {P : Program} {x y : Nat} (hx : frung x <= infK) (hy : frung y <= infK) : ∃ r, (r = x \/ r = y) /\ srung r = max (srung x) (srung y) /\ ∀ ts t w, (Builtin.max_ ts t #[.float .f64 x, .float .f64 y]).run P w = .ok (.float .f64 r) w := by
 obtain ⟨r, h1, h2, h3⟩ := max2_runT (P := P) hx hy
 refine ⟨r, h1, h2, fun ts t w => ?_⟩
 unfold Builtin.max_
 simp [h3]
theorem run_negT (x : Nat) : ∀ w, (Op.unary .neg (.float .f64 x)).run Tryz.prog w = .ok (.float .f64 (fopp x)) w := fun w => rfl
theorem fin_oneT : Fin 4607182418800017408 := by decide
theorem run_maxK {P : Program} {x y : Nat} (hx : x < infK) (hy : y < infK) : ∀ ts t w, (Builtin.max_ ts t #[.float .f64 x, .float .f64 y]).run P w = .ok (.float .f64 (max x y : Nat)) w := by
 have hi := infK_lt
 obtain ⟨r, h1, h2, h3⟩ := run_maxT (P := P) (x := x) (y := y) (by rw [frung_lo (by omega)]; omega) (by rw [frung_lo (by omega)]; omega)
 have hr : r < 9223372036854775808 := by omega
 rw [srung_lo hr, srung_lo (by omega : x < _), srung_lo (by omega : y < _)] at h2
 have : r = max x y := by omega
 rw [<- this]
 exact h3
theorem fval_fopp {x : Nat} (h : x < 9223372036854775808) : fval (fopp x) = -(rmag x : Int) := by
 obtain ⟨h1, h2, h3⟩ := fopp_parts (x := x) (by omega)
 unfold fval
 rw [h1, h2, fneg_lo h, frung_lo h]
 rfl
theorem fin_fopp {x : Nat} (h : x < infK) : Fin (fopp x) /\ fopp x < 18446744073709551616 := by
 have hi := infK_lt
 obtain ⟨h1, h2, h3⟩ := fopp_parts (x := x) (by omega)
 exact ⟨by unfold Fin; rw [h1, frung_lo (by omega)]; exact h, h3⟩
theorem prodO_negK {a E x : Nat} {s : Int} (ha : a = 1166) (hE : E = 2140) (hx : x < infK) (hs : (s - (rmag x : Int)).natAbs < 2 ^ E) : prodO (some (s * ((2 ^ a : Nat) : Int))) (fopp x) 4607182418800017408 0 = some ((s - (rmag x : Int)) * ((2 ^ a : Nat) : Int)) := by
 have hi := infK_lt
 have h := prodO_step (y := -(rmag x : Int)) (x := s) ha hE (fin_fopp hx).1 fin_oneT (by rw [prodZ_oneJ ha, fval_fopp (by omega)]) (by rw [<- Int.sub_eq_add_neg]; exact hs)
 rw [h, <- Int.sub_eq_add_neg]
theorem prodO_posK {a E x : Nat} {s : Int} (ha : a = 1166) (hE : E = 2140) (hx : Fin x) (hs : (s + (rmag (frung x) : Int)).natAbs < 2 ^ E) : prodO (some (s * ((2 ^ a : Nat) : Int))) (frung x) 4607182418800017408 0 = some ((s + (rmag (frung x) : Int)) * ((2 ^ a : Nat) : Int)) :=
 prodO_step (y := (rmag (frung x) : Int)) (x := s) ha hE (fin_frung hx) fin_oneT (by rw [prodZ_oneJ ha, fval_frung]) hs
theorem loss_any (a : Nat) (ha : a = 1166) (ao : Option Addr) (len cap : Nat) (us : List Nat) (hl : len <= 1050000) (hf : ∀ j : Nat, Fin (us[j]?.getD 0)) (w : World) (h : RdF w ao len cap us) :
  Calls Tryz.prog 58 #[.slice ao len cap] w fun e w' => e = .returned (.pointer (some ⟨w.heap.size, 0, none⟩)) /\ AccO w' w.heap.size (some (lossV us * ((2 ^ a : Nat) : Int))) /\ Below w.heap.size w w' /\ w.heap.size < w'.heap.size := by
 obtain ⟨E, hE⟩ : ∃ E : Nat, E = 2140 := ⟨_, rfl⟩
 have HR : Hid (RdF w ao len cap us) := h
 have HLN : Hid (us.length = len) := h.length
 have hmx : len <= 9223372036854775807 := Nat.le_trans h.max maxLen_le
 have HF : Hid (∀ j : Nat, Fin (us[j]?.getD 0)) := hf
 have HAE : Hid (a = 1166 /\ E = 2140) := ⟨ha, hE⟩
 clear h hf ha hE
 have hz : ((0 : Nat) : Int) * ((2 ^ a : Nat) : Int) = 0 := by simp
 go_enter Tryz.func58, Tryz.ntmps58
 go_wp2_with (first | (go_at_call 81; refine (new_any _).mono ?_; rintro e w1 ⟨rfl, a1, b1, s1⟩))
 have HA0 : Hid (AccO w1 w.heap.size (some (((sumK us 0 : Nat) : Int) * ((2 ^ a : Nat) : Int)))) := by unfold Hid; rw [show sumK us 0 = 0 from rfl, hz]; exact a1
 have HB0 : Hid (Below w.heap.size w w1 /\ w.heap.size < w1.heap.size) := ⟨b1, by omega⟩
 clear a1 b1 s1 hz
 go_loopg [4, 10] len (fun g gv iv wx => ∃ k : Nat, iv = .int .i64 k /\ gv = .float .f64 (grK us k) /\ k + g = len /\ Hid (AccO wx w.heap.size (some (((sumK us k : Nat) : Int) * ((2 ^ a : Nat) : Int)))) /\ Hid (Below w.heap.size w wx /\ w.heap.size < wx.heap.size))
 case atStart => exact ⟨0, rfl, rfl, by omega, HA0, HB0⟩
 case round =>
  clear HA0 HB0
  obtain ⟨k, rfl, rfl, hk, HA, HB⟩ := hrel
  by_cases hlt : k < len
  ·have hd : decide ((k : Int) < (len : Int)) = true := decide_eq_true (by omega)
   obtain ⟨g, rfl⟩ : ∃ g, gk = g + 1 := ⟨gk - 1, by omega⟩
   rcases (HR.out.later HB.out.1).cells with h0 | ⟨ab, aoff, rfl, hca⟩
   ·omega
   have ga := hca k hlt
   have hax := HR.out.lt _ (getD_mem (us := us) (j := k) (by rw [HLN.out]; exact hlt))
   have HX : Hid (sumK us (k + 1) = sumK us k + rmag (frung (us[k]?.getD 0)) /\ grK us (k + 1) = max (grK us k) (frung (us[k]?.getD 0)) /\ Fin (us[k]?.getD 0) /\ sumK us (k + 1) < 2 ^ E) := ⟨rfl, rfl, HF.out k, sumK_bound HAE.out.2 HF.out (by omega)⟩
   have hgf := grK_fin HF.out k
   obtain ⟨x, hx⟩ : ∃ x, us[k]?.getD 0 = x := ⟨_, rfl⟩
   rw [hx] at ga hax HX
   obtain ⟨gr, hgr⟩ : ∃ gr, grK us k = gr := ⟨_, rfl⟩
   rw [hgr] at hgf HX
   have hmaxr := run_maxK (P := Tryz.prog) hgf HX.out.2.2.1
   have HIG : Hid (k + (g + 1) = len) := hk
   obtain ⟨mr, hmr⟩ : ∃ mr, max gr (frung x) = mr := ⟨_, rfl⟩
   rw [hmr] at hmaxr HX
   rw [hgr]
   clear hca hx hk hgr hmr hgf
   go_wp2_with (first
    | (go_at_call 83; refine (abs_any x hax _).mono ?_; rintro e m ⟨rfl, hm⟩; rw [hm]; clear hm m)
    | (go_at_call 82; refine (accAdd_any w.heap.size _ (frung x) (frung_ltJ hax) _ HA.out).mono ?_; rintro e w3 ⟨rfl, a3, c3⟩))
   have HA3 : Hid (AccO w3 w.heap.size (some (((sumK us (k + 1) : Nat) : Int) * ((2 ^ a : Nat) : Int)))) := by
    unfold Hid
    have hb := HX.out.2.2.2
    rw [HX.out.1] at hb ⊢
    rw [prodO_posK HAE.out.1 HAE.out.2 HX.out.2.2.1 (by omega)] at a3
    rw [Int.natCast_add]
    exact a3
   have HB3 : Hid (Below w.heap.size w w3 /\ w.heap.size < w3.heap.size) := ⟨HB.out.1.trans c3.below, Nat.lt_of_lt_of_le HB.out.2 c3.below.size⟩
   have HG3 : Hid (grK us (k + 1) = mr) := HX.out.2.1
   clear a3 c3 hmaxr ga hax HX HA HB
   go_roundg g
   case measure => omega
   case rel => exact ⟨k + 1, by go_num, by rw [HG3.out], by have := HIG.out; omega, HA3, HB3⟩
  ·have hd : decide ((k : Int) < (len : Int)) = false := decide_eq_false (by omega)
   have hd' : decide (k < len) = false := decide_eq_false (by omega)
   have hkl : k = len := by omega
   have HA2 : Hid (AccO wr w.heap.size (some (((sumK us len : Nat) : Int) * ((2 ^ a : Nat) : Int)))) := hkl ▸ HA.out
   have hgf := grK_fin HF.out len
   have HX : Hid (lossV us = ((sumK us len : Nat) : Int) - (rmag (grK us len) : Int) /\ (((sumK us len : Nat) : Int) - (rmag (grK us len) : Int)).natAbs < 2 ^ E) := by
    have h1 := sumK_bound (us := us) HAE.out.2 HF.out hl
    have h2 := rmag_le_sum (us := us) len
    exact ⟨by unfold lossV; rw [HLN.out], by omega⟩
   rw [show grK us k = grK us len by rw [hkl]]
   obtain ⟨gr, hgr⟩ : ∃ gr, grK us len = gr := ⟨_, rfl⟩
   rw [hgr] at hgf HX
   rw [hgr]
   have hng := run_negT gr
   have hfo := (fin_fopp hgf).2
   have HO : Hid (gr < infK) := hgf
   clear hkl hgr hgf
   go_wp2_with (first | (go_at_call 82; refine (accAdd_any w.heap.size _ (fopp gr) hfo _ HA2.out).mono ?_; rintro e w3 ⟨rfl, a3, c3⟩))
   go_ret
   refine ⟨rfl, ?_, HB.out.1.trans c3.below, Nat.lt_of_lt_of_le HB.out.2 c3.below.size⟩
   rw [prodO_negK HAE.out.1 HAE.out.2 HO.out HX.out.2] at a3
   rw [HX.out.1]
   exact a3
open Go.RowKit Go.Shelf
theorem cellT {w w' : World} {a : Addr} {v : Value} (h : w.cell? a = some v) (hb : Below w.heap.size w w') : w'.cell? a = some v := (hb.cell (World.block_lt_of_cell? _ _ h)).trans h
theorem drawn_setCells (b : Nat) : ∀ (vs : List Value) (o : Nat) (w : World), (w.setCells b o vs).drawn = w.drawn
 | [], _, _ => rfl
 | v :: r, o, w => (drawn_setCells b r (o + 1) (w.setCell ⟨b, o, none⟩ v)).trans rfl
theorem accCmpD_any (B C : Nat) (x y : Int) (w : World) (hB : AccO w B (some x)) (hC : AccO w C (some y)) :
  Calls Tryz.prog 61 #[.pointer (some ⟨B, 0, none⟩), .pointer (some ⟨C, 0, none⟩)] w fun e w' => e = .returned (.tuple #[.int .i64 (sgi (x - y)), .bool true]) /\ Below w.heap.size w w' /\ w.drawn <= w'.drawn := by
 have HB : Hid _ := hB
 have HC : Hid _ := hC
 clear hB hC
 obtain ⟨f, k1, k2⟩ := HB.out.ex
 obtain ⟨g, k3, k4⟩ := HC.out.ex
 obtain ⟨t1, t2, t3⟩ := k2 x rfl
 obtain ⟨t4, t5, t6⟩ := k4 y rfl
 have hb : -((2 ^ 4863 : Nat) : Int) <= x - y /\ x - y < ((2 ^ 4863 : Nat) : Int) := by
  have := pow_4800_4863
  generalize ((2 ^ 4800 : Nat) : Int) = L at *
  generalize ((2 ^ 4863 : Nat) : Int) = M at *
  omega
 have HF : Hid _ := And.intro k1 (And.intro k3 (And.intro t1 t4))
 have HR : Hid _ := hb
 clear k1 k2 k3 k4 t1 t2 t3 t4 t5 t6 hb
 have HN : Hid _ := Wds.new w
 have HBL : Hid (Below w.heap.size w (w.alloc (.cells Tryz.zeroCells133 133))) := (Below.refl _ w).alloc (Nat.le_refl _) _
 have HG : Hid _ := HF.out.2.1.below HBL.out HF.out.2.1.block
 have hst := store_words HN.out f
 have HS : Hid (Wds ((w.alloc (.cells Tryz.zeroCells133 133)).setCells w.heap.size 0 (wda f)) w.heap.size f /\ Wds ((w.alloc (.cells Tryz.zeroCells133 133)).setCells w.heap.size 0 (wda f)) C g /\ Below w.heap.size w ((w.alloc (.cells Tryz.zeroCells133 133)).setCells w.heap.size 0 (wda f)) /\ ((w.alloc (.cells Tryz.zeroCells133 133)).setCells w.heap.size 0 (wda f)).drawn = w.drawn) :=
  ⟨HN.out.stored HF.out.1.lt, HG.out.heap (heap_setCells_other _ _ _ _ _ (by have := HF.out.2.1.block; omega)), Below.setCells (Nat.le_refl _) _ _ _ HBL.out, drawn_setCells _ _ _ _⟩
 generalize (w.alloc (.cells Tryz.zeroCells133 133)).setCells w.heap.size 0 (wda f) = w2 at hst HS
 go_enter Tryz.func61, Tryz.ntmps61
 go_wp2_with fail
 refine (bad_any B (some x) _ HB.out).mono ?_
 rintro e w1 ⟨rfl, rfl⟩
 go_wp2_with fail
 refine (bad_any C (some y) _ HC.out).mono ?_
 rintro e w1 ⟨rfl, rfl⟩
 go_wp2_with (first | (refine wpList_load_mid (by rfl) _ _ (by rfl) B 0 (by rfl) (wda f) _ HF.out.1.range Tryz.underlying133 rfl (size_wda f) ?_))
 refine (join_tc w1.heap.size C f g x y true _ HS.out.1 HS.out.2.1 HF.out.2.2.1 HF.out.2.2.2 (x - y) (by simp; omega) HR.out.1 HR.out.2).mono ?_
 rintro e w3 ⟨rfl, h, j1, j2, j3⟩
 have HJ : Hid _ := And.intro j1 j3
 have HB3 : Hid (Below w1.heap.size w1 w3 /\ w1.drawn <= w3.drawn) := ⟨HS.out.2.2.1.trans j2.below, by have := j2.drawn; rw [HS.out.2.2.2] at this; exact this⟩
 clear j1 j2 j3
 go_wp2_with fail
 refine (signW_any w1.heap.size h (x - y) _ HJ.out.1 HJ.out.2).mono ?_
 rintro e w4 ⟨rfl, rfl⟩
 go_wp2_with fail
 go_ret2
 exact ⟨rfl, HB3.out⟩
theorem grown_of {w w' : World} (h : Below w.heap.size w w') (hd : w.drawn <= w'.drawn) : ∃ q os, w' = Sort.grow (w.drewN q) os := by
 obtain ⟨p, hp⟩ := regrown_of_below h
 refine ⟨p.d - w.drawn, p.os, ?_⟩
 have hd' : w'.drawn = p.d := by rw [hp]; rfl
 have e : redrawn w p.d = w.drewN (p.d - w.drawn) := by
  unfold redrawn World.drewN
  rw [show w.drawn + (p.d - w.drawn) = p.d by omega]
 rw [hp, e]
structure LsR (w : World) (L gB n : Nat) (p : Nat -> Nat) (v : Nat -> Int) : Prop where
 box : w.cell? ⟨L, 0, none⟩ = some (.slice (some ⟨gB, 0, none⟩) n n)
 row : ∀ j, j < n -> w.cell? ⟨gB, j, none⟩ = some (.pointer (some ⟨p j, 0, none⟩))
 acc : ∀ j, j < n -> AccO w (p j) (some (v j))
theorem LsR.later {w w' : World} {L gB n : Nat} {p : Nat -> Nat} {v : Nat -> Int} (h : LsR w L gB n p v) (hb : Below w.heap.size w w') : LsR w' L gB n p v :=
 ⟨cellT h.box hb, fun j hj => cellT (h.row j hj) hb, fun j hj => (h.acc j hj).heap (hb.block _ (h.acc j hj).block)⟩
def cfL (v : Nat -> Int) (i j : Nat) : Int := if sgi (v i - v j) ≠ 0 then sgi (v i - v j) else Lib.compareInt i j
theorem byLoss1_any (L gB n : Nat) (p : Nat -> Nat) (v : Nat -> Int) (i j : Nat) (hi : i < n) (hj : j < n) (w : World) (h : LsR w L gB n p v) :
  Calls Tryz.prog 60 #[.int .i64 i, .int .i64 j, .pointer (some ⟨L, 0, none⟩)] w fun e w' => e = .returned (.int .i64 (cfL v i j)) /\ Below w.heap.size w w' /\ w.drawn <= w'.drawn := by
 have c0 := h.box
 have c1 := h.row i hi
 have c2 := h.row j hj
 have HA : Hid (AccO w (p i) (some (v i)) /\ AccO w (p j) (some (v j))) := ⟨h.acc i hi, h.acc j hj⟩
 have hi' : (i : Int) < (n : Int) := by omega
 have hj' : (j : Int) < (n : Int) := by omega
 have hcm := fun W => AnyG.cmp_Compare_int Tryz.cmpL (i : Int) (j : Int) W
 change ∀ W, Calls Tryz.prog 62 _ _ _ at hcm
 have HV : Hid (cfL v i j = if sgi (v i - v j) ≠ 0 then sgi (v i - v j) else Lib.compareInt i j) := rfl
 obtain ⟨s, hs⟩ : ∃ s, sgi (v i - v j) = s := ⟨_, rfl⟩
 obtain ⟨r, hr⟩ : ∃ r, Lib.compareInt (i : Int) (j : Int) = r := ⟨_, rfl⟩
 rw [hs, hr] at HV
 rw [hr] at hcm
 have HS : Hid (sgi (v i - v j) = s) := hs
 clear hs hr h
 go_enter Tryz.func60, Tryz.ntmps60
 go_upto_region 1 with fail
 have hS : (fun w' => w'.cell? ⟨L, 0, none⟩ = some (.slice (some ⟨gB, 0, none⟩) n n) /\ w'.cell? ⟨gB, i, none⟩ = some (.pointer (some ⟨p i, 0, none⟩)) /\ w'.cell? ⟨gB, j, none⟩ = some (.pointer (some ⟨p j, 0, none⟩))) w.drew := ⟨c0, c1, c2⟩
 refine wp_region_noPanic ?_
 refine wp_region_held_drew (S := (fun w' => w'.cell? ⟨L, 0, none⟩ = some (.slice (some ⟨gB, 0, none⟩) n n) /\ w'.cell? ⟨gB, i, none⟩ = some (.pointer (some ⟨p i, 0, none⟩)) /\ w'.cell? ⟨gB, j, none⟩ = some (.pointer (some ⟨p j, 0, none⟩)))) (by kernel_rfl) hS (fun _ => ?_)
 refine tzI 9 0 ?_ ?_ (by assumption) ?_
 rotate_left
 ·intro w' hSw; obtain ⟨s0, s1, s2⟩ := hSw; go_simp; try with_reducible rfl
 try simp only [pA,pE,pB,pC,pD]
 refine tzI 10 1 ?_ ?_ (by assumption) ?_
 rotate_left
 ·intro w' hSw; obtain ⟨s0, s1, s2⟩ := hSw; go_simp; try with_reducible rfl
 try simp only [pA,pE,pB,pC,pD]
 refine tzI 11 2 ?_ ?_ (by assumption) ?_
 rotate_left
 ·intro w' hSw; obtain ⟨s0, s1, s2⟩ := hSw; go_simp; try with_reducible rfl
 try simp only [pA,pE,pB,pC,pD]
 refine tzI 12 3 ?_ ?_ (by assumption) ?_
 rotate_left
 ·intro w' hSw; obtain ⟨s0, s1, s2⟩ := hSw; go_simp; try with_reducible rfl
 try simp only [pA,pE,pB,pC,pD]
 refine tzI 13 4 ?_ ?_ (by assumption) ?_
 rotate_left
 ·intro w' hSw; obtain ⟨s0, s1, s2⟩ := hSw; go_simp; try with_reducible rfl
 try simp only [pA,pE,pB,pC,pD]
 refine tzI 14 5 ?_ ?_ (by assumption) ?_
 rotate_left
 ·intro w' hSw; obtain ⟨s0, s1, s2⟩ := hSw; go_simp; try with_reducible rfl
 try simp only [pA,pE,pB,pC,pD]
 refine tzI 15 6 ?_ ?_ (by assumption) ?_
 rotate_left
 ·intro w' hSw; obtain ⟨s0, s1, s2⟩ := hSw; go_simp; try with_reducible rfl
 try simp only [pA,pE,pB,pC,pD]
 refine tzI 16 7 ?_ ?_ (by assumption) ?_
 rotate_left
 ·intro w' hSw; obtain ⟨s0, s1, s2⟩ := hSw; go_simp; try with_reducible rfl
 try simp only [pA,pE,pB,pC,pD]
 refine rzH [8] ?_
 refine consH _ rfl (hzC 17 (Calls.mono (accCmpD_any (p i) (p j) (v i) (v j) _ HA.out.1.drew HA.out.2.drew) ?_)) AllReadyH.nil
 rintro e w3 ⟨rfl, b3, d3⟩
 rw [HS.out]
 have HB : Hid (Below w.heap.size w w3 /\ w.drawn <= w3.drawn) := ⟨(Below.refl _ _).drew.trans b3, by have : w.drew.drawn = w.drawn + 1 := rfl; omega⟩
 have hS3 : (fun w' => w'.cell? ⟨L, 0, none⟩ = some (.slice (some ⟨gB, 0, none⟩) n n) /\ w'.cell? ⟨gB, i, none⟩ = some (.pointer (some ⟨p i, 0, none⟩)) /\ w'.cell? ⟨gB, j, none⟩ = some (.pointer (some ⟨p j, 0, none⟩))) w3 := ⟨cellT hS.1 b3, cellT hS.2.1 b3, cellT hS.2.2 b3⟩
 clear b3 d3
 refine ⟨_, rfl, hS3, ?_⟩
 try simp only [pA,pE,pB,pC,pD]
 refine tzI 8 9 ?_ ?_ (by assumption) ?_
 rotate_left
 ·intro w' hSw; obtain ⟨s0, s1, s2⟩ := hSw; go_simp; try with_reducible rfl
 try simp only [pA,pE,pB,pC,pD]
 refine tzI 18 10 ?_ ?_ (by assumption) ?_
 rotate_left
 ·intro w' hSw; obtain ⟨s0, s1, s2⟩ := hSw; go_simp; try with_reducible rfl
 try simp only [pA,pE,pB,pC,pD]
 refine tzI 19 11 ?_ ?_ (by assumption) ?_
 rotate_left
 ·intro w' hSw; obtain ⟨s0, s1, s2⟩ := hSw; go_simp; try with_reducible rfl
 try simp only [pA,pE,pB,pC,pD]
 refine tzI 6 12 ?_ ?_ (by assumption) ?_
 rotate_left
 ·intro w' hSw; obtain ⟨s0, s1, s2⟩ := hSw; go_simp; try with_reducible rfl
 try simp only [pA,pE,pB,pC,pD]
 refine tzI 7 13 ?_ ?_ (by assumption) ?_
 rotate_left
 ·intro w' hSw; obtain ⟨s0, s1, s2⟩ := hSw; go_simp; try with_reducible rfl
 try simp only [pA,pE,pB,pC,pD]
 refine wpAnyH_done (by kernel_rfl) ?_ _
 refine NoPanic.normal ?_
 try simp only [pA,pE,pB,pC,pD]
 clear hS hS3 c0 c1 c2
 by_cases h0 : s = 0
 ·have hd : (s != 0) = false := by simp [h0]
  have hd2 : (s == 0) = true := by simp [h0]
  have HR : Hid (cfL v i j = r) := by unfold Hid; rw [HV.out, if_neg (by simp [h0])]
  subst h0
  go_wp2_with (first | (go_at_call 62; refine (hcm _).mono ?_; rintro e w' ⟨rfl, rfl⟩))
  go_ret
  exact ⟨by rw [HR.out]; rfl, HB.out⟩
 ·have hd : (s != 0) = true := by simpa using h0
  have hd2 : (s == 0) = false := by simpa using h0
  have HR : Hid (cfL v i j = s) := by unfold Hid; rw [HV.out, if_pos h0]
  clear h0
  go_wp2_with fail
  go_ret
  exact ⟨by rw [HR.out]; rfl, HB.out⟩
end Go.Proofs.YthmhgpadinecfaaGreat
namespace Go.Proofs.YthmhgpadinecfaaGreat
open Go.RowKit
theorem plainM_ltJ {x : Nat} (h : x < 18446744073709551616) : plainM x < 18446744073709551616 := by unfold plainM; split <;> omega
theorem drop_eqI {is js : List Int} {k : Nat} (h1 : k < is.length) (h2 : k < js.length) : decide (is.drop k = js.drop k) = (decide (is[k]?.getD 0 = js[k]?.getD 0) && decide (is.drop (k + 1) = js.drop (k + 1))) := by
 rw [List.drop_eq_getElem_cons h1, List.drop_eq_getElem_cons h2, List.getElem?_eq_getElem h1, List.getElem?_eq_getElem h2]
 simp only [List.cons.injEq, Option.getD_some, Bool.decide_and]
open Go.RowKit Go.Shelf
def badZD : ZD := ⟨0, none, 0, 0, none, 0, 0, none, 0, 0, none, 0, 0, true, [], [], fun _ => (none, 0, 0), [], []⟩
def tkZ (z : ZD) : ZD := if checkB z then z else badZD
theorem badZD_ZR (w : World) : ZR w badZD := ⟨⟨rfl, Nat.zero_le _, fun u hu => (by cases hu), .inl rfl⟩, ⟨rfl, Nat.zero_le _, .inl rfl⟩, ⟨rfl, Nat.zero_le _, .inl rfl, fun j hj => absurd hj (Nat.not_lt_zero _)⟩, ⟨rfl, Nat.zero_le _, fun u hu => (by cases hu), .inl rfl⟩⟩
theorem takenZ_any (z : ZD) (w : World) (hz : ZR w z) : Calls Tryz.prog 64 #[.agg (zRow z)] w fun e w' => e = .returned (.agg (zRow (tkZ z))) /\ Below w.heap.size w w' := by
 unfold tkZ
 cases hc : checkB z with
 | true => exact taken_ok z w hz hc
 | false => exact taken_no z w hz hc
theorem colsB_mem (z : ZD) : ∀ (ks : List (_root_.Fin z.dn)) (last : Int), colsB z last ks = true -> ∀ k ∈ ks, ∃ l, colOk z l k = true
 | [], _, _, k, hk => by cases hk
 | c :: ks, last, h, k, hk => by
  unfold colsB at h
  rw [Bool.and_eq_true] at h
  rcases List.mem_cons.1 hk with rfl | hk
  ·exact ⟨_, h.1⟩
  ·exact colsB_mem z ks _ h.2 k hk
structure FinZ (z : ZD) : Prop where
 c : ∀ u ∈ z.cs, Fin u
 r : ∀ u ∈ z.rs, Fin u
 g : ∀ l ∈ z.gs, ∀ u ∈ l, Fin u
theorem tkZ_fin {w : World} {z : ZD} (h : ZR w z) : FinZ (tkZ z) := by
 unfold tkZ
 cases hc : checkB z with
 | false => exact ⟨fun u hu => (by cases hu), fun u hu => (by cases hu), fun u hu => (by cases hu)⟩
 | true =>
  simp only [if_true]
  unfold checkB at hc
  cases hb : z.bad with
  | true =>
   rw [hb] at hc
   simp only [if_true, bareB, Bool.and_eq_true, decide_eq_true_eq] at hc
   have e1 : z.cs = [] := List.length_eq_zero_iff.1 (by rw [h.c.length]; omega)
   have e2 : z.rs = [] := List.length_eq_zero_iff.1 (by rw [h.r.length]; omega)
   have e3 : z.gs = [] := List.length_eq_zero_iff.1 (by rw [h.g.length]; omega)
   exact ⟨fun u hu => (by rw [e1] at hu; cases hu), fun u hu => (by rw [e2] at hu; cases hu), fun u hu => (by rw [e3] at hu; cases hu)⟩
  | false =>
   rw [hb] at hc
   simp only [Bool.false_eq_true, if_false, wholeB, Bool.and_eq_true, decide_eq_true_eq] at hc
   refine ⟨(numN_fin hc.1.1.1.1.2).2, (numN_fin hc.1.1.1.2).2, fun l hl => ?_⟩
   obtain ⟨j, hj, rfl⟩ := List.getElem_of_mem hl
   have hj2 : j < z.dn := by have := h.g.length; omega
   obtain ⟨la, hok⟩ := colsB_mem z _ _ hc.2 ⟨j, hj2⟩ (List.mem_finRange _)
   unfold colOk at hok
   simp only [Bool.and_eq_true] at hok
   have := (numN_fin hok.2).2
   rw [show z.gs[(⟨j, hj2⟩ : _root_.Fin z.dn).val]? = some z.gs[j] from List.getElem?_eq_getElem hj] at this
   exact this
theorem drop_eqU {us vs : List Nat} {k : Nat} (h1 : k < us.length) (h2 : k < vs.length) : decide (us.drop k = vs.drop k) = (decide (us[k]?.getD 0 = vs[k]?.getD 0) && decide (us.drop (k + 1) = vs.drop (k + 1))) := by
 rw [List.drop_eq_getElem_cons h1, List.drop_eq_getElem_cons h2, List.getElem?_eq_getElem h1, List.getElem?_eq_getElem h2]
 simp only [List.cons.injEq, Option.getD_some, Bool.decide_and]
theorem refSame_any (ao bo : Option Addr) (al ac bl bc : Nat) (us vs : List Nat) (w : World) (h : RdF w ao al ac us) (h' : RdUs w bo bl bc vs) :
  Calls Tryz.prog 37 #[.slice ao al ac, .slice bo bl bc] w fun e w' => e = .returned (.bool (decide (us = vs))) /\ Below w.heap.size w w' := by
 have HR : Hid _ := h
 have HR' : Hid _ := h'
 have HLN : Hid (us.length = al /\ vs.length = bl /\ al <= 9223372036854775807) := ⟨h.length, h'.length, Nat.le_trans h.max maxLen_le⟩
 have hmx : al <= 9223372036854775807 := Nat.le_trans h.max maxLen_le
 clear h h'
 by_cases hn : al = bl
 ·subst hn
  go_enter Tryz.func37, Tryz.ntmps37
  go_wp2_with fail
  go_loopg [5] al (fun g iv wx => ∃ k : Nat, iv = .int .i64 k /\ k + g = al /\ Hid (Below w.heap.size w wx) /\ Hid (decide (us.drop k = vs.drop k) = decide (us = vs)))
  case atStart => exact ⟨0, rfl, by omega, Below.refl _ w, rfl⟩
  case round =>
   obtain ⟨k, rfl, hk, HB, HD⟩ := hrel
   by_cases hlt : k < al
   ·have hd : decide ((k : Int) < (al : Int)) = true := decide_eq_true (by omega)
    obtain ⟨g, rfl⟩ : ∃ g, gk = g + 1 := ⟨gk - 1, by omega⟩
    rcases (HR.out.later HB.out).cells with h0 | ⟨ab, aoff, rfl, hca⟩
    ·omega
    rcases (HR'.out.later HB.out).cells with h0 | ⟨bb, boff, rfl, hcb⟩
    ·omega
    have ga := hca k hlt
    have gb := hcb k hlt
    have HDs : Hid (_ = _) := drop_eqU (us := us) (vs := vs) (k := k) (by rw [HLN.out.1]; exact hlt) (by rw [HLN.out.2.1]; exact hlt)
    obtain ⟨x, hx⟩ : ∃ x, us[k]?.getD 0 = x := ⟨_, rfl⟩
    obtain ⟨y, hy⟩ : ∃ y, vs[k]?.getD 0 = y := ⟨_, rfl⟩
    rw [hx, hy] at HDs
    rw [hx] at ga
    rw [hy] at gb
    have HIG : Hid (k + (g + 1) = al) := hk
    clear hca hcb hx hy hk
    have HB1 : Hid (Below w.heap.size w wr.drew) := HB.out.drew
    go_upto_region 6 with fail
    have hS : (fun w' => w'.cell? ⟨ab, aoff + k, none⟩ = some (.float .f64 x) /\ w'.cell? ⟨bb, boff + k, none⟩ = some (.int .u64 (y : Int))) wr.drew := ⟨ga, gb⟩
    refine wp_region_noPanic ?_
    refine wp_region_held_drew (S := (fun w' => w'.cell? ⟨ab, aoff + k, none⟩ = some (.float .f64 x) /\ w'.cell? ⟨bb, boff + k, none⟩ = some (.int .u64 (y : Int)))) (by kernel_rfl) hS (fun _ => ?_)
    refine tzI 17 0 ?_ ?_ (by assumption) ?_
    rotate_left
    ·intro w' hSw; (try dsimp only at hSw); go_simp; try with_reducible rfl
    try simp only [pA,pE,pB,pC,pD]
    refine tzI 18 1 ?_ ?_ (by assumption) ?_
    rotate_left
    ·intro w' hSw; (try dsimp only at hSw); go_simp; try with_reducible rfl
    try simp only [pA,pE,pB,pC,pD]
    refine tzI 19 2 ?_ ?_ (by assumption) ?_
    rotate_left
    ·intro w' hSw; (try dsimp only at hSw); go_simp; try with_reducible rfl
    try simp only [pA,pE,pB,pC,pD]
    refine tzI 20 3 ?_ ?_ (by assumption) ?_
    rotate_left
    ·intro w' hSw; (try dsimp only at hSw); go_simp; try with_reducible rfl
    try simp only [pA,pE,pB,pC,pD]
    refine tzI 22 5 ?_ ?_ (by assumption) ?_
    rotate_left
    ·intro w' hSw; (try dsimp only at hSw); go_simp; try with_reducible rfl
    try simp only [pA,pE,pB,pC,pD]
    refine tzI 23 6 ?_ ?_ (by assumption) ?_
    rotate_left
    ·intro w' hSw; (try dsimp only at hSw); go_simp; try with_reducible rfl
    try simp only [pA,pE,pB,pC,pD]
    refine tzI 24 7 ?_ ?_ (by assumption) ?_
    rotate_left
    ·intro w' hSw; (try dsimp only at hSw); go_simp; try with_reducible rfl
    try simp only [pA,pE,pB,pC,pD]
    refine tzI 25 8 ?_ ?_ (by assumption) ?_
    rotate_left
    ·intro w' hSw; (try dsimp only at hSw); go_simp; try with_reducible rfl
    try simp only [pA,pE,pB,pC,pD]
    refine rzH [4] ?_
    refine consH _ rfl (hzC 21 (Calls.mono (apiBits_any x _) ?_)) AllReadyH.nil
    rintro e m ⟨rfl, hm⟩
    subst hm
    refine ⟨_, rfl, hS, ?_⟩
    try simp only [pA,pE,pB,pC,pD]
    refine tzI 26 9 ?_ ?_ (by assumption) ?_
    rotate_left
    ·intro w' hSw; (try dsimp only at hSw); go_simp; try with_reducible rfl
    try simp only [pA,pE,pB,pC,pD]
    refine wpAnyH_done (by kernel_rfl) ?_ _
    refine NoPanic.normal ?_
    try simp only [pA,pE,pB,pC,pD]
    clear hS
    by_cases hxy : x = y
    ·have HDt : Hid (decide (us.drop (k + 1) = vs.drop (k + 1)) = decide (us = vs)) := by
      have h1 := HDs.out
      rw [decide_eq_true hxy, Bool.true_and] at h1
      unfold Hid; rw [<- h1]; exact HD.out
     have hne : ((x : Int) != (y : Int)) = false := by simp [hxy]
     clear hxy HDs
     go_wp2_with fail
     go_roundg g
     case measure => omega
     case rel => exact ⟨k + 1, by go_num, by have := HIG.out; omega, HB1, HDt⟩
    ·have hne : ((x : Int) != (y : Int)) = true := by simpa using (show ¬ (x : Int) = (y : Int) by omega)
     have HE : Hid (decide (us = vs) = false) := by
      have h1 := HDs.out
      rw [decide_eq_false hxy, Bool.false_and] at h1
      unfold Hid; rw [<- HD.out]; exact h1
     go_wp2_with fail
     go_ret
     exact ⟨by rw [HE.out]; rfl, HB1.out⟩
   ·have hd : decide ((k : Int) < (al : Int)) = false := decide_eq_false (by omega)
    have hd' : decide (k < al) = false := decide_eq_false (by omega)
    have HE : Hid (decide (us = vs) = true) := by
     have h1 := HD.out
     rw [List.drop_eq_nil_of_le (by rw [HLN.out.1]; omega), List.drop_eq_nil_of_le (by rw [HLN.out.2.1]; omega), decide_eq_true rfl] at h1
     exact h1.symm
    go_wp2_with fail
    go_ret
    exact ⟨by rw [HE.out]; rfl, HB.out⟩
 ·have hd : ((al : Int) != (bl : Int)) = true := by simpa using (show ¬ ((al : Int) = (bl : Int)) by omega)
  have HE : Hid (decide (us = vs) = false) := by
   unfold Hid
   refine decide_eq_false fun c => hn ?_
   rw [<- HLN.out.1, <- HLN.out.2.1, c]
  go_enter Tryz.func37, Tryz.ntmps37
  go_wp2_with fail
  go_ret
  exact ⟨by rw [HE.out]; rfl, Below.refl _ w⟩
theorem drop_eqGG {us vs : List (List Nat)} {k : Nat} (h1 : k < us.length) (h2 : k < vs.length) : decide (us.drop k = vs.drop k) = (decide (us[k]?.getD [] = vs[k]?.getD []) && decide (us.drop (k + 1) = vs.drop (k + 1))) := by
 rw [List.drop_eq_getElem_cons h1, List.drop_eq_getElem_cons h2, List.getElem?_eq_getElem h1, List.getElem?_eq_getElem h2]
 simp only [List.cons.injEq, Option.getD_some, Bool.decide_and]
theorem refSameZ_any (a b : ZD) (w : World) (ha : ZR w a) (hb : ZU w b) :
  Calls Tryz.prog 13 #[.agg (zRow a), .agg (zRow b)] w fun e w' => e = .returned (.bool (bitsB a b)) /\ Below w.heap.size w w' := by
 unfold zRow
 have HC : Hid (∀ W', Below w.heap.size w W' -> Calls Tryz.prog 37 #[.slice a.co a.cn a.cc, .slice b.co b.cn b.cc] W' fun e w' => e = .returned (.bool (decide (a.cs = b.cs))) /\ Below W'.heap.size W' w') := fun W' h => refSame_any _ _ _ _ _ _ _ _ W' (ha.later h).c (hb.later h).c
 have HR : Hid (∀ W', Below w.heap.size w W' -> Calls Tryz.prog 37 #[.slice a.ro a.rn a.rc, .slice b.ro b.rn b.rc] W' fun e w' => e = .returned (.bool (decide (a.rs = b.rs))) /\ Below W'.heap.size W' w') := fun W' h => refSame_any _ _ _ _ _ _ _ _ W' (ha.later h).r (hb.later h).r
 have HIa : Hid (∀ W', Below w.heap.size w W' -> RdIs W' a.io a.dn a.dc a.ids) := fun W' h => (ha.later h).i
 have HIb : Hid (∀ W', Below w.heap.size w W' -> RdIs W' b.io b.dn b.dc b.ids) := fun W' h => (hb.later h).i
 have HGa : Hid (∀ W', Below w.heap.size w W' -> RdGs W' a.go a.gn a.gc a.gv a.gs) := fun W' h => (ha.later h).g
 have HGb : Hid (∀ W', Below w.heap.size w W' -> RdGu W' b.go b.gn b.gc b.gv b.gs) := fun W' h => (hb.later h).g
 have HLN : Hid (a.ids.length = a.dn /\ b.ids.length = b.dn /\ a.gs.length = a.gn /\ b.gs.length = b.gn) := ⟨ha.i.length, hb.i.length, ha.g.length, hb.g.length⟩
 have hmi : a.dn <= 9223372036854775807 := Nat.le_trans ha.i.max maxLen_le
 have hmg : a.gn <= 9223372036854775807 := Nat.le_trans ha.g.max maxLen_le
 have HE : Hid (bitsB a b = (decide (a.N = b.N) && decide (a.bad = b.bad) && decide (a.cs = b.cs) && decide (a.rs = b.rs) && decide (a.ids = b.ids) && decide (a.gs = b.gs))) := rfl
 obtain ⟨sz, hsz⟩ : ∃ sz, bitsB a b = sz := ⟨_, rfl⟩
 rw [hsz] at HE ⊢
 obtain ⟨c0, hc0⟩ : ∃ c0, decide (a.cs = b.cs) = c0 := ⟨_, rfl⟩
 obtain ⟨r0, hr0⟩ : ∃ r0, decide (a.rs = b.rs) = r0 := ⟨_, rfl⟩
 rw [hc0] at HC HE
 rw [hr0] at HR HE
 clear hsz hc0 hr0 ha hb
 obtain ⟨N1, co1, cn1, cc1, io1, dn1, dc1, go1, gn1, gc1, ro1, rn1, rc1, bad1, cs1, ids1, gv1, gs1, rs1⟩ := a
 obtain ⟨N2, co2, cn2, cc2, io2, dn2, dc2, go2, gn2, gc2, ro2, rn2, rc2, bad2, cs2, ids2, gv2, gs2, rs2⟩ := b
 dsimp only at HC HR HIa HIb HGa HGb HLN hmi hmg HE ⊢
 have bW : Below w.heap.size w ((w.alloc (.cells #[.int .i64 N1, .slice co1 cn1 cc1, .slice io1 dn1 dc1, .slice go1 gn1 gc1, .slice ro1 rn1 rc1, .bool bad1] 26)).alloc (.cells #[.int .i64 N2, .slice co2 cn2 cc2, .slice io2 dn2 dc2, .slice go2 gn2 gc2, .slice ro2 rn2 rc2, .bool bad2] 32)) := ((Below.refl _ w).alloc (Nat.le_refl _) _).alloc (by simp only [alloc_size]; omega) _
 have eAW : ((w.alloc (.cells #[.int .i64 N1, .slice co1 cn1 cc1, .slice io1 dn1 dc1, .slice go1 gn1 gc1, .slice ro1 rn1 rc1, .bool bad1] 26)).alloc (.cells #[.int .i64 N2, .slice co2 cn2 cc2, .slice io2 dn2 dc2, .slice go2 gn2 gc2, .slice ro2 rn2 rc2, .bool bad2] 32)).heap[w.heap.size]? = some (.cells #[.int .i64 N1, .slice co1 cn1 cc1, .slice io1 dn1 dc1, .slice go1 gn1 gc1, .slice ro1 rn1 rc1, .bool bad1] 26) := alloc_kept (heap_alloc_new w _) _
 have eBW : ((w.alloc (.cells #[.int .i64 N1, .slice co1 cn1 cc1, .slice io1 dn1 dc1, .slice go1 gn1 gc1, .slice ro1 rn1 rc1, .bool bad1] 26)).alloc (.cells #[.int .i64 N2, .slice co2 cn2 cc2, .slice io2 dn2 dc2, .slice go2 gn2 gc2, .slice ro2 rn2 rc2, .bool bad2] 32)).heap[w.heap.size + 1]? = some (.cells #[.int .i64 N2, .slice co2 cn2 cc2, .slice io2 dn2 dc2, .slice go2 gn2 gc2, .slice ro2 rn2 rc2, .bool bad2] 32) := heap_at _ _ (w.heap.size + 1) (by simp only [alloc_size])
 have HK0 : Hid _ := And.intro bW (And.intro eAW eBW)
 clear bW eAW eBW
 by_cases q0 : N1 = N2
 case neg =>
  have d0 : (N1 != N2) = true := by simpa using q0
  have HS : Hid (sz = false) := by unfold Hid; rw [HE.out]; simp [q0]
  go_enter Tryz.func13, Tryz.ntmps13
  go_wp2_with fail
  go_ret
  exact ⟨by rw [HS.out]; rfl, HK0.out.1⟩
 subst q0
 by_cases q1 : bad1 = bad2
 case neg =>
  have d1 : (bad1 != bad2) = true := by simpa using q1
  have HS : Hid (sz = false) := by unfold Hid; rw [HE.out]; simp [q1]
  go_enter Tryz.func13, Tryz.ntmps13
  go_wp2_with fail
  go_ret
  exact ⟨by rw [HS.out]; rfl, HK0.out.1⟩
 subst q1
 by_cases q2 : dn1 = dn2
 case neg =>
  have d2 : ((dn1 : Int) != (dn2 : Int)) = true := by simpa using (show ¬ (dn1 : Int) = (dn2 : Int) by omega)
  have HS : Hid (sz = false) := by unfold Hid; rw [HE.out]; have hq : ¬ ids1 = ids2 := fun c => q2 (by rw [<- HLN.out.1, <- HLN.out.2.1, c]); simp [hq]
  go_enter Tryz.func13, Tryz.ntmps13
  go_wp2_with fail
  go_ret
  exact ⟨by rw [HS.out]; rfl, HK0.out.1⟩
 subst q2
 by_cases q3 : gn1 = gn2
 case neg =>
  have d3 : ((gn1 : Int) != (gn2 : Int)) = true := by simpa using (show ¬ (gn1 : Int) = (gn2 : Int) by omega)
  have HS : Hid (sz = false) := by unfold Hid; rw [HE.out]; have hq : ¬ gs1 = gs2 := fun c => q3 (by rw [<- HLN.out.2.2.1, <- HLN.out.2.2.2, c]); simp [hq]
  go_enter Tryz.func13, Tryz.ntmps13
  go_wp2_with fail
  go_ret
  exact ⟨by rw [HS.out]; rfl, HK0.out.1⟩
 subst q3
 have HS0 : Hid (sz = (c0 && r0 && decide (ids1 = ids2) && decide (gs1 = gs2))) := by unfold Hid; rw [HE.out]; simp
 cases c0
 case false =>
  have HS : Hid (sz = false) := by unfold Hid; rw [HS0.out]; simp
  go_enter Tryz.func13, Tryz.ntmps13
  go_wp2_with (go_at_call_of 37 (Value.slice co1 cn1 cc1); refine Calls.mono (HC.out _ HK0.out.1) ?_; rintro e W1 ⟨rfl, hb1⟩; have HK1 : Hid _ := And.intro (to_call HK0.out.1 hb1) (And.intro (kept hb1 HK0.out.2.1) (kept hb1 HK0.out.2.2)); obtain ⟨a01, a11, a21, a31, a41, a51⟩ := cells6 HK1.out.2.1; obtain ⟨b01, b11, b21, b31, b41, b51⟩ := cells6 HK1.out.2.2)
  go_ret
  exact ⟨by rw [HS.out]; rfl, HK1.out.1⟩
 cases r0
 case false =>
  have HS : Hid (sz = false) := by unfold Hid; rw [HS0.out]; simp
  go_enter Tryz.func13, Tryz.ntmps13
  go_wp2_with (first | (go_at_call_of 37 (Value.slice co1 cn1 cc1); refine Calls.mono (HC.out _ HK0.out.1) ?_; rintro e W1 ⟨rfl, hb1⟩; have HK1 : Hid _ := And.intro (to_call HK0.out.1 hb1) (And.intro (kept hb1 HK0.out.2.1) (kept hb1 HK0.out.2.2)); obtain ⟨a01, a11, a21, a31, a41, a51⟩ := cells6 HK1.out.2.1; obtain ⟨b01, b11, b21, b31, b41, b51⟩ := cells6 HK1.out.2.2) | (go_at_call_of 37 (Value.slice ro1 rn1 rc1); refine Calls.mono (HR.out _ HK1.out.1) ?_; rintro e W2 ⟨rfl, hb2⟩; have HK2 : Hid _ := And.intro (to_call HK1.out.1 hb2) (And.intro (kept hb2 HK1.out.2.1) (kept hb2 HK1.out.2.2)); obtain ⟨a02, a12, a22, a32, a42, a52⟩ := cells6 HK2.out.2.1; obtain ⟨b02, b12, b22, b32, b42, b52⟩ := cells6 HK2.out.2.2))
  go_ret
  exact ⟨by rw [HS.out]; rfl, HK2.out.1⟩
 have HS1 : Hid (sz = (decide (ids1 = ids2) && decide (gs1 = gs2))) := by unfold Hid; rw [HS0.out]; simp
 clear HE HS0
 go_enter Tryz.func13, Tryz.ntmps13
 go_wp2_with (first | (go_at_call_of 37 (Value.slice co1 cn1 cc1); refine Calls.mono (HC.out _ HK0.out.1) ?_; rintro e W1 ⟨rfl, hb1⟩; have HK1 : Hid _ := And.intro (to_call HK0.out.1 hb1) (And.intro (kept hb1 HK0.out.2.1) (kept hb1 HK0.out.2.2)); obtain ⟨a01, a11, a21, a31, a41, a51⟩ := cells6 HK1.out.2.1; obtain ⟨b01, b11, b21, b31, b41, b51⟩ := cells6 HK1.out.2.2) | (go_at_call_of 37 (Value.slice ro1 rn1 rc1); refine Calls.mono (HR.out _ HK1.out.1) ?_; rintro e W2 ⟨rfl, hb2⟩; have HK2 : Hid _ := And.intro (to_call HK1.out.1 hb2) (And.intro (kept hb2 HK1.out.2.1) (kept hb2 HK1.out.2.2)); obtain ⟨a02, a12, a22, a32, a42, a52⟩ := cells6 HK2.out.2.1; obtain ⟨b02, b12, b22, b32, b42, b52⟩ := cells6 HK2.out.2.2))
 go_loopg [5] dn1 (fun g iv wx => ∃ k : Nat, iv = .int .i64 k /\ k + g = dn1 /\ Hid (Below w.heap.size w wx /\ wx.heap[w.heap.size]? = some (.cells #[.int .i64 N1, .slice co1 cn1 cc1, .slice io1 dn1 dc1, .slice go1 gn1 gc1, .slice ro1 rn1 rc1, .bool bad1] 26) /\ wx.heap[w.heap.size + 1]? = some (.cells #[.int .i64 N1, .slice co2 cn2 cc2, .slice io2 dn1 dc2, .slice go2 gn1 gc2, .slice ro2 rn2 rc2, .bool bad1] 32)) /\ Hid (decide (ids1.drop k = ids2.drop k) = decide (ids1 = ids2)))
 case atStart => exact ⟨0, rfl, by omega, HK2.out, rfl⟩
 case round =>
  obtain ⟨k, rfl, hk, HK, HD⟩ := hrel
  obtain ⟨a0, a1, a2, a3, a4, a5⟩ := cells6 HK.out.2.1
  obtain ⟨b0, b1, b2, b3, b4, b5⟩ := cells6 HK.out.2.2
  by_cases hlt : k < dn1
  ·have hd : decide ((k : Int) < (dn1 : Int)) = true := decide_eq_true (by omega)
   obtain ⟨g, rfl⟩ : ∃ g, gk = g + 1 := ⟨gk - 1, by omega⟩
   rcases (HIa.out _ HK.out.1).cells with h0 | ⟨p1, f1, rfl, hca⟩
   ·omega
   rcases (HIb.out _ HK.out.1).cells with h0 | ⟨p2, f2, rfl, hcb⟩
   ·omega
   have ga := hca k hlt
   have gb := hcb k hlt
   have HDs : Hid (_ = _) := drop_eqI (is := ids1) (js := ids2) (k := k) (by rw [HLN.out.1]; exact hlt) (by rw [HLN.out.2.1]; exact hlt)
   obtain ⟨x, hx⟩ : ∃ x, ids1[k]?.getD 0 = x := ⟨_, rfl⟩
   obtain ⟨y, hy⟩ : ∃ y, ids2[k]?.getD 0 = y := ⟨_, rfl⟩
   rw [hx, hy] at HDs
   rw [hx] at ga
   rw [hy] at gb
   have HIG : Hid (k + (g + 1) = dn1) := hk
   clear hca hcb hx hy hk
   have HKd : Hid _ := And.intro (HK.out.1.drew) (And.intro HK.out.2.1 HK.out.2.2)
   go_upto_region 6 with fail
   have hS : (fun w' => w'.cell? ⟨w.heap.size, 2, none⟩ = some (.slice (some ⟨p1, f1, none⟩) dn1 dc1) /\ w'.cell? ⟨w.heap.size + 1, 2, none⟩ = some (.slice (some ⟨p2, f2, none⟩) dn1 dc2) /\ w'.cell? ⟨p1, f1 + k, none⟩ = some (.int .i64 x) /\ w'.cell? ⟨p2, f2 + k, none⟩ = some (.int .i64 y)) wr.drew := ⟨a2, b2, ga, gb⟩
   refine wp_region_noPanic ?_
   refine wp_region_held_drew (S := (fun w' => w'.cell? ⟨w.heap.size, 2, none⟩ = some (.slice (some ⟨p1, f1, none⟩) dn1 dc1) /\ w'.cell? ⟨w.heap.size + 1, 2, none⟩ = some (.slice (some ⟨p2, f2, none⟩) dn1 dc2) /\ w'.cell? ⟨p1, f1 + k, none⟩ = some (.int .i64 x) /\ w'.cell? ⟨p2, f2 + k, none⟩ = some (.int .i64 y))) (by kernel_rfl) hS (fun _ => ?_)
   refine tzI 60 0 ?_ ?_ (by assumption) ?_
   rotate_left
   ·intro w' hSw; (try dsimp only at hSw); go_simp; try with_reducible rfl
   try simp only [pA,pE,pB,pC,pD]
   refine tzI 61 1 ?_ ?_ (by assumption) ?_
   rotate_left
   ·intro w' hSw; (try dsimp only at hSw); go_simp; try with_reducible rfl
   try simp only [pA,pE,pB,pC,pD]
   refine tzI 62 2 ?_ ?_ (by assumption) ?_
   rotate_left
   ·intro w' hSw; (try dsimp only at hSw); go_simp; try with_reducible rfl
   try simp only [pA,pE,pB,pC,pD]
   refine tzI 63 3 ?_ ?_ (by assumption) ?_
   rotate_left
   ·intro w' hSw; (try dsimp only at hSw); go_simp; try with_reducible rfl
   try simp only [pA,pE,pB,pC,pD]
   refine tzI 64 4 ?_ ?_ (by assumption) ?_
   rotate_left
   ·intro w' hSw; (try dsimp only at hSw); go_simp; try with_reducible rfl
   try simp only [pA,pE,pB,pC,pD]
   refine tzI 65 5 ?_ ?_ (by assumption) ?_
   rotate_left
   ·intro w' hSw; (try dsimp only at hSw); go_simp; try with_reducible rfl
   try simp only [pA,pE,pB,pC,pD]
   refine tzI 66 6 ?_ ?_ (by assumption) ?_
   rotate_left
   ·intro w' hSw; (try dsimp only at hSw); go_simp; try with_reducible rfl
   try simp only [pA,pE,pB,pC,pD]
   refine tzI 67 7 ?_ ?_ (by assumption) ?_
   rotate_left
   ·intro w' hSw; (try dsimp only at hSw); go_simp; try with_reducible rfl
   try simp only [pA,pE,pB,pC,pD]
   refine tzI 68 8 ?_ ?_ (by assumption) ?_
   rotate_left
   ·intro w' hSw; (try dsimp only at hSw); go_simp; try with_reducible rfl
   try simp only [pA,pE,pB,pC,pD]
   refine tzI 69 9 ?_ ?_ (by assumption) ?_
   rotate_left
   ·intro w' hSw; (try dsimp only at hSw); go_simp; try with_reducible rfl
   try simp only [pA,pE,pB,pC,pD]
   refine tzI 70 10 ?_ ?_ (by assumption) ?_
   rotate_left
   ·intro w' hSw; (try dsimp only at hSw); go_simp; try with_reducible rfl
   try simp only [pA,pE,pB,pC,pD]
   refine wpAnyH_done (by kernel_rfl) ?_ _
   refine NoPanic.normal ?_
   try simp only [pA,pE,pB,pC,pD]
   clear hS
   by_cases hxy : x = y
   ·have HDt : Hid (decide (ids1.drop (k + 1) = ids2.drop (k + 1)) = decide (ids1 = ids2)) := by
     have h1 := HDs.out
     rw [decide_eq_true hxy, Bool.true_and] at h1
     unfold Hid; rw [<- h1]; exact HD.out
    have hne : (x != y) = false := by simp [hxy]
    clear hxy HDs
    go_wp2_with fail
    go_roundg g
    case measure => omega
    case rel => exact ⟨k + 1, by go_num, by have := HIG.out; omega, HKd, HDt⟩
   ·have hne : (x != y) = true := by simpa using hxy
    have HS : Hid (sz = false) := by
     have h1 := HDs.out
     rw [decide_eq_false hxy, Bool.false_and] at h1
     unfold Hid; rw [HS1.out, <- HD.out, h1]; rfl
    go_wp2_with fail
    go_ret
    exact ⟨by rw [HS.out]; rfl, HKd.out.1⟩
  ·have hd : decide ((k : Int) < (dn1 : Int)) = false := decide_eq_false (by omega)
   have hd' : decide (k < dn1) = false := decide_eq_false (by omega)
   have HS2 : Hid (sz = decide (gs1 = gs2)) := by
    have h1 := HD.out
    rw [List.drop_eq_nil_of_le (by rw [HLN.out.1]; omega), List.drop_eq_nil_of_le (by rw [HLN.out.2.1]; omega), decide_eq_true rfl] at h1
    unfold Hid; rw [HS1.out, <- h1, Bool.true_and]
   clear HS1 HD
   go_wp2_with fail
   go_loopg [6] gn1 (fun g iv wx => ∃ k : Nat, iv = .int .i64 k /\ k + g = gn1 /\ Hid (Below w.heap.size w wx /\ wx.heap[w.heap.size]? = some (.cells #[.int .i64 N1, .slice co1 cn1 cc1, .slice io1 dn1 dc1, .slice go1 gn1 gc1, .slice ro1 rn1 rc1, .bool bad1] 26) /\ wx.heap[w.heap.size + 1]? = some (.cells #[.int .i64 N1, .slice co2 cn2 cc2, .slice io2 dn1 dc2, .slice go2 gn1 gc2, .slice ro2 rn2 rc2, .bool bad1] 32)) /\ Hid (decide (gs1.drop k = gs2.drop k) = decide (gs1 = gs2)))
   case atStart => exact ⟨0, rfl, by omega, HK.out, rfl⟩
   case round =>
    clear hlt hd hd' a0 a1 a2 a3 a4 a5 b0 b1 b2 b3 b4 b5 HK
    obtain ⟨k, rfl, hk, HK, HD⟩ := hrel
    obtain ⟨a0, a1, a2, a3, a4, a5⟩ := cells6 HK.out.2.1
    obtain ⟨b0, b1, b2, b3, b4, b5⟩ := cells6 HK.out.2.2
    by_cases hlt : k < gn1
    ·have hd : decide ((k : Int) < (gn1 : Int)) = true := decide_eq_true (by omega)
     obtain ⟨g, rfl⟩ : ∃ g, gk = g + 1 := ⟨gk - 1, by omega⟩
     rcases (HGa.out _ HK.out.1).cells with h0 | ⟨p1, f1, rfl, hca⟩
     ·omega
     rcases (HGb.out _ HK.out.1).cells with h0 | ⟨p2, f2, rfl, hcb⟩
     ·omega
     have ga := hca k hlt
     have gb := hcb k hlt
     have HDs : Hid (_ = _) := drop_eqGG (us := gs1) (vs := gs2) (k := k) (by rw [HLN.out.2.2.1]; exact hlt) (by rw [HLN.out.2.2.2]; exact hlt)
     have HKd : Hid _ := And.intro (HK.out.1.drew) (And.intro HK.out.2.1 HK.out.2.2)
     have HCk : Hid (Calls Tryz.prog 37 #[.slice (gv1 k).1 (gv1 k).2.1 (gv1 k).2.2, .slice (gv2 k).1 (gv2 k).2.1 (gv2 k).2.2] wr.drew fun e w' => e = .returned (.bool (decide (gs1[k]?.getD [] = gs2[k]?.getD []))) /\ Below wr.drew.heap.size wr.drew w') := refSame_any _ _ _ _ _ _ _ _ _ ((HGa.out _ HKd.out.1).each k hlt) ((HGb.out _ HKd.out.1).each k hlt)
     obtain ⟨x, hx⟩ : ∃ x, decide (gs1[k]?.getD [] = gs2[k]?.getD []) = x := ⟨_, rfl⟩
     rw [hx] at HDs HCk
     have HIG : Hid (k + (g + 1) = gn1) := hk
     clear hca hcb hx hk
     go_upto_region 11 with fail
     have hS : (fun w' => w'.cell? ⟨w.heap.size, 3, none⟩ = some (.slice (some ⟨p1, f1, none⟩) gn1 gc1) /\ w'.cell? ⟨w.heap.size + 1, 3, none⟩ = some (.slice (some ⟨p2, f2, none⟩) gn1 gc2) /\ w'.cell? ⟨p1, f1 + k, none⟩ = some (.slice (gv1 k).1 (gv1 k).2.1 (gv1 k).2.2) /\ w'.cell? ⟨p2, f2 + k, none⟩ = some (.slice (gv2 k).1 (gv2 k).2.1 (gv2 k).2.2)) wr.drew := ⟨a3, b3, ga, gb⟩
     refine wp_region_noPanic ?_
     refine wp_region_held_drew (S := (fun w' => w'.cell? ⟨w.heap.size, 3, none⟩ = some (.slice (some ⟨p1, f1, none⟩) gn1 gc1) /\ w'.cell? ⟨w.heap.size + 1, 3, none⟩ = some (.slice (some ⟨p2, f2, none⟩) gn1 gc2) /\ w'.cell? ⟨p1, f1 + k, none⟩ = some (.slice (gv1 k).1 (gv1 k).2.1 (gv1 k).2.2) /\ w'.cell? ⟨p2, f2 + k, none⟩ = some (.slice (gv2 k).1 (gv2 k).2.1 (gv2 k).2.2))) (by kernel_rfl) hS (fun _ => ?_)
     refine tzI 78 0 ?_ ?_ (by assumption) ?_
     rotate_left
     ·intro w' hSw; (try dsimp only at hSw); go_simp; try with_reducible rfl
     try simp only [pA,pE,pB,pC,pD]
     refine tzI 79 1 ?_ ?_ (by assumption) ?_
     rotate_left
     ·intro w' hSw; (try dsimp only at hSw); go_simp; try with_reducible rfl
     try simp only [pA,pE,pB,pC,pD]
     refine tzI 80 2 ?_ ?_ (by assumption) ?_
     rotate_left
     ·intro w' hSw; (try dsimp only at hSw); go_simp; try with_reducible rfl
     try simp only [pA,pE,pB,pC,pD]
     refine tzI 81 3 ?_ ?_ (by assumption) ?_
     rotate_left
     ·intro w' hSw; (try dsimp only at hSw); go_simp; try with_reducible rfl
     try simp only [pA,pE,pB,pC,pD]
     refine tzI 82 4 ?_ ?_ (by assumption) ?_
     rotate_left
     ·intro w' hSw; (try dsimp only at hSw); go_simp; try with_reducible rfl
     try simp only [pA,pE,pB,pC,pD]
     refine tzI 83 5 ?_ ?_ (by assumption) ?_
     rotate_left
     ·intro w' hSw; (try dsimp only at hSw); go_simp; try with_reducible rfl
     try simp only [pA,pE,pB,pC,pD]
     refine tzI 84 6 ?_ ?_ (by assumption) ?_
     rotate_left
     ·intro w' hSw; (try dsimp only at hSw); go_simp; try with_reducible rfl
     try simp only [pA,pE,pB,pC,pD]
     refine tzI 85 7 ?_ ?_ (by assumption) ?_
     rotate_left
     ·intro w' hSw; (try dsimp only at hSw); go_simp; try with_reducible rfl
     try simp only [pA,pE,pB,pC,pD]
     refine tzI 86 8 ?_ ?_ (by assumption) ?_
     rotate_left
     ·intro w' hSw; (try dsimp only at hSw); go_simp; try with_reducible rfl
     try simp only [pA,pE,pB,pC,pD]
     refine tzI 87 9 ?_ ?_ (by assumption) ?_
     rotate_left
     ·intro w' hSw; (try dsimp only at hSw); go_simp; try with_reducible rfl
     try simp only [pA,pE,pB,pC,pD]
     refine rzH [10] ?_
     refine consH _ rfl (hzC 88 (Calls.mono HCk.out ?_)) AllReadyH.nil
     rintro e w5 ⟨rfl, hb5⟩
     have HK5 : Hid _ := And.intro (to_call HKd.out.1 hb5) (And.intro (kept hb5 HKd.out.2.1) (kept hb5 HKd.out.2.2))
     have hS5 : (fun w' => w'.cell? ⟨w.heap.size, 3, none⟩ = some (.slice (some ⟨p1, f1, none⟩) gn1 gc1) /\ w'.cell? ⟨w.heap.size + 1, 3, none⟩ = some (.slice (some ⟨p2, f2, none⟩) gn1 gc2) /\ w'.cell? ⟨p1, f1 + k, none⟩ = some (.slice (gv1 k).1 (gv1 k).2.1 (gv1 k).2.2) /\ w'.cell? ⟨p2, f2 + k, none⟩ = some (.slice (gv2 k).1 (gv2 k).2.1 (gv2 k).2.2)) w5 := ⟨(hb5.cell (World.block_lt_of_cell? _ _ hS.1)).trans hS.1, (hb5.cell (World.block_lt_of_cell? _ _ hS.2.1)).trans hS.2.1, (hb5.cell (World.block_lt_of_cell? _ _ hS.2.2.1)).trans hS.2.2.1, (hb5.cell (World.block_lt_of_cell? _ _ hS.2.2.2)).trans hS.2.2.2⟩
     refine ⟨_, rfl, hS5, ?_⟩
     try simp only [pA,pE,pB,pC,pD]
     refine tzI 89 11 ?_ ?_ (by assumption) ?_
     rotate_left
     ·intro w' hSw; (try dsimp only at hSw); go_simp; try with_reducible rfl
     try simp only [pA,pE,pB,pC,pD]
     refine wpAnyH_done (by kernel_rfl) ?_ _
     refine NoPanic.normal ?_
     try simp only [pA,pE,pB,pC,pD]
     clear hS hS5
     cases x
     case true =>
      have HDt : Hid (decide (gs1.drop (k + 1) = gs2.drop (k + 1)) = decide (gs1 = gs2)) := by
       have h1 := HDs.out
       rw [Bool.true_and] at h1
       unfold Hid; rw [<- h1]; exact HD.out
      go_wp2_with fail
      go_roundg g
      case measure => omega
      case rel => exact ⟨k + 1, by go_num, by have := HIG.out; omega, HK5, HDt⟩
     case false =>
      have HS : Hid (sz = false) := by
       have h1 := HDs.out
       rw [Bool.false_and] at h1
       unfold Hid; rw [HS2.out, <- HD.out]; exact h1
      go_wp2_with fail
      go_ret
      exact ⟨by rw [HS.out]; rfl, HK5.out.1⟩
    ·have hd : decide ((k : Int) < (gn1 : Int)) = false := decide_eq_false (by omega)
     have hd' : decide (k < gn1) = false := decide_eq_false (by omega)
     have HS : Hid (sz = true) := by
      have h1 := HD.out
      rw [List.drop_eq_nil_of_le (by rw [HLN.out.2.2.1]; omega), List.drop_eq_nil_of_le (by rw [HLN.out.2.2.2]; omega), decide_eq_true rfl] at h1
      unfold Hid; rw [HS2.out]; exact h1.symm
     go_wp2_with fail
     go_ret
     exact ⟨by rw [HS.out]; rfl, HK.out.1⟩
end Go.Proofs.YthmhgpadinecfaaGreat
namespace Go.Proofs.YthmhgpadinecfaaGreat
open Go.RowKit
theorem plainT_any (ao : Option Addr) (len cap : Nat) (us : List Nat) (hl : len <= 100000) (hf : numsB us = true) (w : World) (h : RdF w ao len cap us) :
  Calls Tryz.prog 68 #[.slice ao len cap] w fun e w' => e = .returned (.slice (some ⟨w.heap.size, 0, none⟩) len len) /\ RdF w' (some ⟨w.heap.size, 0, none⟩) len len (us.map plainM) /\ (∃ cur, w'.heap[w.heap.size]? = some (.cells cur 55)) /\ Below w.heap.size w w' /\ w.heap.size < w'.heap.size := by
 have HR : Hid _ := h
 have HLN : Hid _ := h.length
 have HF : Hid (∀ u ∈ us, Fin u) := by
  unfold numsB at hf
  intro u hu
  have := List.all_eq_true.1 hf u hu
  simpa using this
 clear h hf
 have hmk := makeFJ len (by omega)
 go_enter Tryz.func68, Tryz.ntmps68
 go_wp2_with fail
 clear hmk
 go_loopg [11] len (fun g iv wx => ∃ k : Nat, iv = .int .i64 k /\ k + g = len /\ Hid (∀ j, j < k -> wx.cell? ⟨w.heap.size, j, none⟩ = some (.float .f64 (plainM (us[j]?.getD 0)))) /\ Hid ((∀ j, j < len -> ∃ v, wx.cell? ⟨w.heap.size, j, none⟩ = some (.float .f64 v)) /\ (∀ j, wx.frozen? ⟨w.heap.size, j, none⟩ = false)) /\ Hid (Below w.heap.size w wx) /\ Hid (w.heap.size < wx.heap.size /\ ∃ cur, wx.heap[w.heap.size]? = some (.cells cur 55)))
 case atStart =>
  refine ⟨0, rfl, by omega, fun j hj => by omega, ⟨fun j hj => ⟨0, cellAtJ (heap_alloc_new w _) j _ (flN_at len j hj)⟩, fun j => frozen_of_row _ _ j _ _ (heap_alloc_new w _)⟩, (Below.refl _ w).alloc (Nat.le_refl _) _, ?_, _, heap_alloc_new w _⟩
  show w.heap.size < (w.alloc _).heap.size
  simp
 case round =>
  obtain ⟨k, rfl, hk, HP, HC, HB, HS⟩ := hrel
  by_cases hlt : k < len
  ·have hd : decide ((k : Int) < (len : Int)) = true := decide_eq_true (by omega)
   obtain ⟨g, rfl⟩ : ∃ g, gk = g + 1 := ⟨gk - 1, by omega⟩
   rcases (HR.out.later HB.out).cells with h0 | ⟨ab, aoff, rfl, hca⟩
   ·omega
   have ga := hca k hlt
   have hmem := getD_mem (us := us) (j := k) (by rw [HLN.out]; exact hlt)
   have hax := HR.out.lt _ hmem
   have HFx : Hid (Fin (us[k]?.getD 0)) := HF.out _ hmem
   obtain ⟨x, hx⟩ : ∃ x, us[k]?.getD 0 = x := ⟨_, rfl⟩
   have HX : Hid (us[k]?.getD 0 = x) := hx
   rw [hx] at ga hax HFx
   have HIG : Hid (k + (g + 1) = len) := hk
   clear hca hx hk hmem
   obtain ⟨pv, hpv⟩ := HC.out.1 k hlt
   have hfr := HC.out.2 k
   have hsf := run_store_f
   go_wp2_with (go_at_call 93; refine (next_plain hax HFx.out _).mono ?_; rintro e w1 ⟨rfl, hw1⟩; rw [hw1]; clear hw1 w1)
   have hcs : (wr.cell? ⟨w.heap.size, k, none⟩).isSome = true := by rw [hpv]; rfl
   have hrow : ∀ j, (wr.setCell ⟨w.heap.size, k, none⟩ (.float .f64 (plainM x))).cell? ⟨w.heap.size, j, none⟩ = if j = k then some (.float .f64 (plainM x)) else wr.cell? ⟨w.heap.size, j, none⟩ := by
    intro j
    by_cases e : j = k
    ·subst e; rw [if_pos rfl]; exact World.cell?_setCell_same' _ _ _ hcs
    ·rw [if_neg e, World.cell?_setCell_other _ _ _ _ (by intro c; cases c; exact e rfl)]
   have HP3 : Hid (∀ j, j < k + 1 -> (wr.setCell ⟨w.heap.size, k, none⟩ (.float .f64 (plainM x))).cell? ⟨w.heap.size, j, none⟩ = some (.float .f64 (plainM (us[j]?.getD 0)))) := by
    intro j hj
    rw [hrow j]
    by_cases e : j = k
    ·rw [if_pos e, e, HX.out]
    ·rw [if_neg e]; exact HP.out j (by omega)
   have HC3 : Hid ((∀ j, j < len -> ∃ v, (wr.setCell ⟨w.heap.size, k, none⟩ (.float .f64 (plainM x))).cell? ⟨w.heap.size, j, none⟩ = some (.float .f64 v)) /\ (∀ j, (wr.setCell ⟨w.heap.size, k, none⟩ (.float .f64 (plainM x))).frozen? ⟨w.heap.size, j, none⟩ = false)) := by
    refine ⟨fun j hj => ?_, fun j => by rw [World.frozen?_setCell]; exact HC.out.2 j⟩
    rw [hrow j]
    by_cases e : j = k
    ·exact ⟨_, if_pos e⟩
    ·rw [if_neg e]; exact HC.out.1 j hj
   have HB3 : Hid (Below w.heap.size w (wr.setCell ⟨w.heap.size, k, none⟩ (.float .f64 (plainM x)))) := HB.out.trans ((Below.refl w.heap.size wr).setCell (p := ⟨w.heap.size, k, none⟩) (Nat.le_refl _) _)
   have HS3 : Hid (w.heap.size < (wr.setCell ⟨w.heap.size, k, none⟩ (.float .f64 (plainM x))).heap.size /\ ∃ cur, (wr.setCell ⟨w.heap.size, k, none⟩ (.float .f64 (plainM x))).heap[w.heap.size]? = some (.cells cur 55)) := by
    have h1 : (wr.setCell ⟨w.heap.size, k, none⟩ (.float .f64 (plainM x))).heap.size = wr.heap.size := by simp
    obtain ⟨h2, cur, h3⟩ := HS.out
    exact ⟨by rw [h1]; exact h2, _, heap_setCell_same wr w.heap.size k _ _ _ h3⟩
   clear hsf hrow hcs hpv hfr ga hax HP HC
   go_roundg g
   case measure => omega
   case rel => exact ⟨k + 1, by go_num, by have := HIG.out; omega, HP3, HC3, HB3, HS3⟩
  ·have hd : decide ((k : Int) < (len : Int)) = false := decide_eq_false (by omega)
   have hd' : decide (k < len) = false := decide_eq_false (by omega)
   have hkl : k = len := by omega
   have HP2 : Hid (∀ j, j < len -> wr.cell? ⟨w.heap.size, j, none⟩ = some (.float .f64 (plainM (us[j]?.getD 0)))) := hkl ▸ HP.out
   clear hkl
   go_wp2_with fail
   go_ret
   refine ⟨rfl, ⟨by rw [List.length_map]; exact HLN.out, HR.out.max, fun u hu => ?_, .inr ⟨_, _, rfl, fun j hj => ?_⟩⟩, HS.out.2, HB.out, HS.out.1⟩
   ·obtain ⟨v, hv, rfl⟩ := List.mem_map.1 hu
    exact plainM_ltJ (HR.out.lt v hv)
   ·rw [Nat.zero_add, HP2.out j hj, List.getElem?_map, List.getElem?_eq_getElem (by rw [HLN.out]; exact hj)]; rfl
open Go.RowKit Go.Shelf
theorem Tryz.infoFsJ : (Tryz.prog.info? 22).map (fun i => (i.zero, i.size, i.bytes)) = some (some (.slice none 0 0), 1, 24) := by kernel_rfl
theorem Tryz.szFss : (Tryz.prog.info? 24).map (·.size) = some 1 := by kernel_rfl
theorem rdF_keep {w w' : World} {B len cap : Nat} {us : List Nat} (h : RdF w (some ⟨B, 0, none⟩) len cap us) (hb : w'.heap[B]? = w.heap[B]?) : RdF w' (some ⟨B, 0, none⟩) len cap us := by
 refine ⟨h.length, h.max, h.lt, ?_⟩
 rcases h.cells with h0 | ⟨b, off, ha, hc⟩
 ·exact .inl h0
 ·cases ha
  refine .inr ⟨B, 0, rfl, fun j hj => ?_⟩
  rw [World.cell?_of_block (w := w) (a := ⟨B, 0 + j, none⟩) hb]
  exact hc j hj
structure OwB (w : World) (base n b : Nat) (us : List Nat) : Prop where
 lo : base <= b
 cur : ∃ cur, w.heap[b]? = some (.cells cur 55)
 rd : RdF w (some ⟨b, 0, none⟩) n n us
theorem OwB.keep {w w' : World} {base n b : Nat} {us : List Nat} (h : OwB w base n b us) (hk : ∀ (k : Nat) (cur : Array Value), w.heap[k]? = some (.cells cur 55) -> w'.heap[k]? = w.heap[k]?) : OwB w' base n b us := by
 obtain ⟨cur, hc⟩ := h.cur
 exact ⟨h.lo, ⟨cur, (hk b cur hc).trans hc⟩, rdF_keep h.rd (hk b cur hc)⟩
theorem OwB.lt {w : World} {base n b : Nat} {us : List Nat} (h : OwB w base n b us) : b < w.heap.size := by
 obtain ⟨cur, hc⟩ := h.cur
 exact blk_lt hc
def slN (n b : Nat) : Value := .slice (some ⟨b, 0, none⟩) n n
structure ColL (w : World) (base n : Nat) (gl : List Nat) (gs : List (List Nat)) : Prop where
 len : gl.length = gs.length
 row : ∀ j, j < gl.length -> OwB w base n (gl[j]?.getD 0) (gs[j]?.getD [])
 nodup : gl.Nodup
theorem ColL.nil (w : World) (base n : Nat) : ColL w base n [] [] := ⟨rfl, fun j hj => absurd hj (Nat.not_lt_zero _), List.nodup_nil⟩
theorem ColL.keep {w w' : World} {base n : Nat} {gl : List Nat} {gs : List (List Nat)} (h : ColL w base n gl gs) (hk : ∀ (k : Nat) (cur : Array Value), w.heap[k]? = some (.cells cur 55) -> w'.heap[k]? = w.heap[k]?) : ColL w' base n gl gs :=
 ⟨h.len, fun j hj => (h.row j hj).keep hk, h.nodup⟩
theorem ColL.mem_lt {w : World} {base n : Nat} {gl : List Nat} {gs : List (List Nat)} (h : ColL w base n gl gs) {b : Nat} (hb : b ∈ gl) : b < w.heap.size := by
 obtain ⟨j, hj, rfl⟩ := List.getElem_of_mem hb
 have := (h.row j hj).lt
 rwa [List.getElem?_eq_getElem hj] at this
theorem ColL.snoc {w : World} {base n b : Nat} {gl : List Nat} {gs : List (List Nat)} {us : List Nat} (h : ColL w base n gl gs) (ho : OwB w base n b us) (hn : b ∉ gl) : ColL w base n (gl ++ [b]) (gs ++ [us]) := by
 refine ⟨by simp [h.len], fun j hj => ?_, ?_⟩
 ·by_cases e : j < gl.length
  ·rw [List.getElem?_append_left e, List.getElem?_append_left (by rw [<- h.len]; exact e)]
   exact h.row j e
  ·have ej : j = gl.length := by simp at hj; omega
   subst ej
   rw [List.getElem?_append_right (Nat.le_refl _), List.getElem?_append_right (by rw [h.len]; exact Nat.le_refl _)]
   simpa [h.len] using ho
 ·rw [List.nodup_append]
  refine ⟨h.nodup, by simp, fun a ha c hc => ?_⟩
  simp only [List.mem_cons, List.not_mem_nil, or_false] at hc
  subst hc
  exact fun e => hn (e ▸ ha)
structure FrL (w : World) (base n bc br : Nat) (cs rs : List Nat) (ids : List Int) (gs : List (List Nat)) (vi vg : Value) (gl : List Nat) : Prop where
 c : OwB w base n bc cs
 r : OwB w base n br rs
 i : w.ownsRow base 3 1 vi (ids.map (Value.int .i64)).length (ids.map (Value.int .i64))
 g : w.ownsRow base 22 1 vg (gl.map (slN n)).length (gl.map (slN n))
 col : ColL w base n gl gs
 cr : bc ≠ br
 cg : bc ∉ gl
 rg : br ∉ gl
theorem FrL.keep {w w' : World} {base n bc br : Nat} {cs rs : List Nat} {ids : List Int} {gs : List (List Nat)} {vi vg : Value} {gl : List Nat} (h : FrL w base n bc br cs rs ids gs vi vg gl) (hk : ∀ (k : Nat) (cur : Array Value) (t : TypeId), t ≠ 26 -> w.heap[k]? = some (.cells cur t) -> w'.heap[k]? = w.heap[k]?) : FrL w' base n bc br cs rs ids gs vi vg gl :=
 have hf := fun k cur => hk k cur 55 (by decide)
 ⟨h.c.keep hf, h.r.keep hf, owns_keepT h.i fun k cur => hk k cur _ (by decide), owns_keepT h.g fun k cur => hk k cur _ (by decide), h.col.keep hf, h.cr, h.cg, h.rg⟩
theorem FrL.later {w w' : World} {base n bc br : Nat} {cs rs : List Nat} {ids : List Int} {gs : List (List Nat)} {vi vg : Value} {gl : List Nat} (h : FrL w base n bc br cs rs ids gs vi vg gl) (hb : Below w.heap.size w w') : FrL w' base n bc br cs rs ids gs vi vg gl :=
 h.keep fun k cur t _ hc => hb.block k (blk_lt hc)
theorem FrL.pushI {w w' : World} {base n bc br : Nat} {cs rs : List Nat} {ids : List Int} {gs : List (List Nat)} {vi vg vi' : Value} {gl : List Nat} {x : Int} (h : FrL w base n bc br cs rs ids gs vi vg gl) (hg : Grw w w' vi.ownBlock vi'.ownBlock)
  (ho : w'.ownsRow base 3 1 vi' (ids.map (Value.int .i64) ++ [Value.int .i64 x]).length (ids.map (Value.int .i64) ++ [Value.int .i64 x])) : FrL w' base n bc br cs rs (ids ++ [x]) gs vi' vg gl := by
 have hk := grw_types h.i hg
 have hf := fun k cur => hk k cur 55 (by decide)
 refine ⟨h.c.keep hf, h.r.keep hf, ?_, owns_keepT h.g fun k cur => hk k cur _ (by decide), h.col.keep hf, h.cr, h.cg, h.rg⟩
 rw [List.map_append]
 exact ho
theorem FrL.pushG {w w' : World} {base n bc br b : Nat} {cs rs us : List Nat} {ids : List Int} {gs : List (List Nat)} {vi vg vg' : Value} {gl : List Nat} (h : FrL w base n bc br cs rs ids gs vi vg gl) (hg : Grw w w' vg.ownBlock vg'.ownBlock)
  (ho : w'.ownsRow base 22 1 vg' (gl.map (slN n) ++ [slN n b]).length (gl.map (slN n) ++ [slN n b])) (hb : OwB w base n b us) (h1 : b ≠ bc) (h2 : b ≠ br) (h3 : b ∉ gl) : FrL w' base n bc br cs rs ids (gs ++ [us]) vi vg' (gl ++ [b]) := by
 have hk := grw_types h.g hg
 have hf := fun k cur => hk k cur 55 (by decide)
 refine ⟨h.c.keep hf, h.r.keep hf, owns_keepT h.i fun k cur => hk k cur _ (by decide), ?_, (h.col.keep hf).snoc (hb.keep hf) h3, h.cr, ?_, ?_⟩
 ·rw [List.map_append]
  exact ho
 ·simp only [List.mem_append, List.mem_cons, List.not_mem_nil, or_false, not_or]
  exact ⟨h.cg, fun e => h1 e.symm⟩
 ·simp only [List.mem_append, List.mem_cons, List.not_mem_nil, or_false, not_or]
  exact ⟨h.rg, fun e => h2 e.symm⟩
theorem FrL.zr {w : World} {base n bc br : Nat} {cs rs : List Nat} {ids : List Int} {gs : List (List Nat)} {vi vg : Value} {gl : List Nat} (h : FrL w base n bc br cs rs ids gs vi vg gl) (N : Int) (bad : Bool) :
  ∃ y : ZD, (.agg #[.int .i64 N, slN n bc, vi, vg, slN n br, .bool bad] : Value) = .agg (zRow y) /\ ZR w y /\ y.N = N /\ y.bad = bad /\ y.cs = cs /\ y.rs = rs /\ y.ids = ids /\ y.gs = gs /\ y.cn = n /\ y.rn = n /\ y.dn = ids.length /\ y.gn = gs.length := by
 obtain ⟨io, dc, rfl, hm1, h1⟩ := owns_slice h.i
 obtain ⟨go, gc, rfl, hm2, h2⟩ := owns_slice h.g
 have e1 : (ids.map (Value.int .i64)).length = ids.length := List.length_map _
 have e2 : (gl.map (slN n)).length = gs.length := (List.length_map _).trans h.col.len
 rw [e1] at hm1 h1
 rw [e2] at hm2 h2
 rw [e1, e2]
 refine ⟨⟨N, some ⟨bc, 0, none⟩, n, n, io, ids.length, dc, go, gs.length, gc, some ⟨br, 0, none⟩, n, n, bad, cs, ids, fun j => (some ⟨gl[j]?.getD 0, 0, none⟩, n, n), gs, rs⟩, rfl, ⟨h.c.rd, ⟨rfl, hm1, ?_⟩, ⟨rfl, hm2, ?_, fun j hj => (h.col.row j (by rw [h.col.len]; exact hj)).rd⟩, h.r.rd⟩, rfl, rfl, rfl, rfl, rfl, rfl, rfl, rfl, rfl, rfl⟩
 ·rcases h1 with h0 | ⟨g, rfl, hc⟩
  ·exact .inl h0
  ·refine .inr ⟨g, 0, rfl, fun j hj => ?_⟩
   dsimp only at hj ⊢
   rw [Nat.zero_add, hc j hj, List.getElem?_map, List.getElem?_eq_getElem hj]
   rfl
 ·rcases h2 with h0 | ⟨g, rfl, hc⟩
  ·exact .inl h0
  ·refine .inr ⟨g, 0, rfl, fun j hj => ?_⟩
   dsimp only at hj ⊢
   have hj' : j < gl.length := by rw [h.col.len]; exact hj
   rw [Nat.zero_add, hc j hj, List.getElem?_map, List.getElem?_eq_getElem hj']
   rfl
theorem FrL.kept {W W' : World} {row : Option Nat} {base n bc br : Nat} {cs rs : List Nat} {ids : List Int} {gs : List (List Nat)} {vi vg : Value} {gl : List Nat} (h : FrL W base n bc br cs rs ids gs vi vg gl) (hg : W.grownBy W' row) (hr : ∀ r, row = some r -> ∃ o, W.heap[r]? = some o /\ o.isCells = false) : FrL W' base n bc br cs rs ids gs vi vg gl :=
 h.keep fun k cur t _ hc => (heap_keptJ hc hg hr).trans hc.symm
theorem OwB.mono {w : World} {base base' n b : Nat} {us : List Nat} (h : OwB w base n b us) (hb : base' <= base) : OwB w base' n b us := ⟨Nat.le_trans hb h.lo, h.cur, h.rd⟩
theorem OwB.later {w w' : World} {base n b : Nat} {us : List Nat} (h : OwB w base n b us) (hb : Below w.heap.size w w') : OwB w' base n b us := h.keep fun k cur hc => hb.block k (blk_lt hc)
theorem numsB_fin {us : List Nat} (h : ∀ u ∈ us, Fin u) : numsB us = true := by
 unfold numsB
 exact List.all_eq_true.2 fun u hu => decide_eq_true (h u hu)
theorem plainOwn_any (ao : Option Addr) (len cap : Nat) (us : List Nat) (hl : len <= 100000) (hf : ∀ u ∈ us, Fin u) (w : World) (h : RdF w ao len cap us) :
  Calls Tryz.prog 68 #[.slice ao len cap] w fun e w' => ∃ b, e = .returned (slN len b) /\ OwB w' w.heap.size len b (us.map plainM) /\ Below w.heap.size w w' := by
 refine Calls.mono (plainT_any ao len cap us hl (numsB_fin hf) w h) ?_
 rintro e w' ⟨rfl, h1, h2, h3, h4⟩
 exact ⟨w.heap.size, rfl, ⟨Nat.le_refl _, h2, h1⟩, h3⟩
end Go.Proofs.YthmhgpadinecfaaGreat
namespace Go.Proofs.YthmhgpadinecfaaGreat
open Go.RowKit
def OnlyN (K : Act -> World -> Prop) : Exit -> Act -> World -> Prop
 | .normal => K
 | _ => fun _ _ => False
theorem onlyN_out {K : Act -> World -> Prop} : ¬ LetsOut (OnlyN K) := by
 rintro ⟨a, w, h⟩
 exact h
def noDefer (o : Oper) : Bool := match o.op with
 | .defer _ => false
 | _ => true
theorem noDefer_ne {o : Oper} (h : noDefer o = true) : ∀ c, o.op ≠ .defer c := by
 intro c e
 unfold noDefer at h
 rw [e] at h
 cases h
theorem opsIn_round {l n : Nat} {P : Program} {ops : Array Oper} {K : Act -> World -> Prop} {Q : Exit -> Act -> World -> Prop} (hnd : ops.all noDefer = true) (hK : ∀ a w, K a w -> Q .normal a w) :
  ∀ (is : List Nat) (a : Act) (w : World), wpOps P ops (OnlyN K) is a w -> wpOpsIn (Fence.wide.inRound l) n P ops Q is a w
 | [], a, w, h => hK _ _ h
 | i :: rest, a, w, h => by
  simp only [wpOps] at h
  simp only [wpOpsIn]
  cases ho : ops[i]? with
  | none =>
   simp only [ho] at h ⊢
   exact opsIn_round hnd hK rest a w h
  | some o =>
   simp only [ho] at h ⊢
   have hne : ∀ c, o.op ≠ .defer c := by
    obtain ⟨hi, rfl⟩ := Array.getElem?_eq_some_iff.1 ho
    exact noDefer_ne (Array.all_eq_true.1 hnd i hi)
   by_cases hw : Region.wanted o (yielded ops a.tmps) = true
   ·simp only [hw, if_true] at h ⊢
    rcases h with h | ⟨_, h⟩
    ·refine ⟨fun _ _ => trivial, ?_⟩
     show Oper.uponIn _ _ _ _ _ _ _ ((o.semAt (some l) a.eval).run P w)
     rw [Oper.semAt_some l a.eval o hne]
     unfold Oper.wp at h
     generalize (execOp a.eval o).run P w = r at h ⊢
     cases r with
     | ok x w' =>
      cases x with
      | value v => exact opsIn_round hnd hK rest _ _ h
      | skip => exact opsIn_round hnd hK rest _ _ h
      | defer d => exact opsIn_round hnd hK rest _ _ h
      | enter f args =>
       refine ⟨fun hd => (by cases hd), CallsIn.inRound l ((callsIn_wide.2 h).mono ?_)⟩
       intro e w'' he
       cases e with
       | returned v => exact opsIn_round hnd hK rest _ _ he
       | panicked c => exact he.elim
       | outgrown => exact absurd he onlyN_out
      | row row args =>
       refine ⟨fun hd => (by cases hd), fun c cs _ => ?_⟩
       obtain ⟨v, w'', hR, hs⟩ := h c cs
       exact ⟨v, w'', opsIn_round hnd hK rest _ _ hR, stepsIn_wide.2 hs⟩
      | _ => exact h.elim
     | halt s w' =>
      cases s <;> first | exact h.elim
    ·exact absurd h onlyN_out
   ·simp only [hw, if_false, Bool.false_eq_true] at h ⊢
    exact ⟨fun _ _ => trivial, opsIn_round hnd hK rest _ _ h⟩
theorem wpIn_round_P {l n id : Nat} {P : Program} {ops : Array Oper} {Q : Exit -> Act -> World -> Prop} {a : Act} {w : World} (S : World -> Prop) (s : Nat) (hm : P.follows .mixedOrders = true) (hnd : ops.all noDefer = true)
  (h : wpAnyP P .any ops (OnlyN (Q .normal)) S s ops.size (Array.replicate ops.size false) a w.drew) : (Code.region id ops true).wpIn (Fence.wide.inRound l) n P Q a w :=
 wpIn_region_draw fun t => by
  simp only [Region.schedule, hm, Bool.true_or, if_true]
  exact opsIn_round hnd (fun _ _ h => h) _ _ _ (wpAny_sound ops.size t _ a _ (wpAny_of_P _ _ _ _ h))
end Go.Proofs.YthmhgpadinecfaaGreat
