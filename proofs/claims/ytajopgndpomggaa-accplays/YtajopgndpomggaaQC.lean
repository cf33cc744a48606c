import Derived.Test.YtajopgndpomggaaMX
import Derived.Test.YtajopgndpomggaaQt
namespace Go.Proofs.Ytajopgndpomggaa
open Go.RowKit
set_option linter.unusedVariables false
set_option linter.unusedSimpArgs false

/-- Where the highest bit of a row of words stands. -/
theorem high_bits {f : Nat → Nat} {k x L V : Nat} (hl : ∀ j, j < 76 → f j < 18446744073709551616) (hk : k < 76) (ht : ∀ j, k < j → j < 76 → f j = 0) (hx : f k = x) (h1 : 2 ^ L ≤ x) (h2 : x < 2 ^ (L + 1)) (hV : wv f 76 = V) : 2 ^ (64 * k + L) ≤ V ∧ V < 2 ^ (64 * k + L + 1) := by
  have e : wv f 76 = wv f k + x * 2 ^ (64 * k) := by rw [wv_top (show k + 1 ≤ 76 by omega) (fun j h1 h2 => ht j (by omega) h2), wv_succ, hx]
  have hb := wv_lt (f := f) (n := k) (fun j hj => hl j (by omega))
  rw [hV] at e
  constructor
  · rw [Nat.pow_add, e, Nat.mul_comm]
    have := Nat.mul_le_mul_right (2 ^ (64 * k)) h1
    omega
  · rw [show 64 * k + L + 1 = L + 1 + 64 * k by omega, Nat.pow_add, e]
    have := Nat.mul_le_mul_right (2 ^ (64 * k)) (show x + 1 ≤ 2 ^ (L + 1) by omega)
    rw [Nat.add_mul, Nat.one_mul] at this
    omega
theorem raised {V M b place : Nat} (h1 : 2 ^ M ≤ V) (h2 : V < 2 ^ (M + 1)) (hp : M + b = place) : 2 ^ place ≤ V * 2 ^ b ∧ V * 2 ^ b < 2 ^ (place + 1) := by
  subst hp
  constructor
  · rw [Nat.pow_add]; exact Nat.mul_le_mul_right _ h1
  · rw [show M + b + 1 = M + 1 + b by omega, Nat.pow_add (2) (M + 1) b]; exact Nat.mul_lt_mul_of_pos_right h2 (Nat.two_pow_pos _)
set_option maxRecDepth 100000 in
set_option maxHeartbeats 4000000 in
theorem raise_any (B : Nat) (f : Nat → Nat) (V place : Nat) (w : World) (hf : Wds w B f) (hV : wv f 76 = V) (h0 : V ≠ 0) (P : Nat) (hP : P = 4800) (hVP : V < 2 ^ P) (hp1 : 4799 ≤ place) (hp2 : place ≤ 4862) :
    Calls Try.prog 70 #[.pointer (some ⟨B, 0, none⟩), .int .i64 (place : Int)] w fun e w' => ∃ (b : Nat) (h : Nat → Nat), e = .returned (.int .i64 (b : Int)) ∧ Wds w' B h ∧ Chg B w w' ∧ wv h 76 = V * 2 ^ b ∧ (2 ^ place ≤ V * 2 ^ b ∧ V * 2 ^ b < 2 ^ (place + 1)) ∧ b ≤ 4862 := by
  have HF : Hid _ := hf
  have HZ : Hid (wv f 76 ≠ 0) := by rw [hV]; exact h0
  have HV : Hid (wv f 76 = V ∧ V < 2 ^ P) := ⟨hV, hVP⟩
  clear hf hV h0 hVP
  go_enter Try.func70, Try.ntmps70
  go_wp2_with fail
  refine (highest_any B f 75 (by omega) (by omega) _ HF.out).mono ?_
  rintro e w1 ⟨r, rfl, hh, rfl⟩
  have hr : 0 ≤ r := by
    apply Classical.byContradiction
    intro c
    exact HZ.out (wv_zero_iff.2 (fun j hj => hh.2.2.1 j (by omega) (by omega)))
  obtain ⟨k, rfl⟩ : ∃ k : Nat, r = (k : Int) := ⟨r.toNat, by omega⟩
  have hk : k < 76 := by have := hh.1; omega
  have hne : f k ≠ 0 := by have := hh.2.1 hr; simpa using this
  have HT : Hid (∀ j, k < j → j < 76 → f j = 0) := fun j h1 h2 => hh.2.2.1 j (by omega) (by omega)
  obtain ⟨x, hx⟩ : ∃ x, f k = x := ⟨_, rfl⟩
  have hxl : x < 18446744073709551616 := by rw [← hx]; exact HF.out.lt k hk
  obtain ⟨L, hL, hL1, hL2, hL3⟩ := bitLen_spec hxl (by rw [← hx]; exact hne)
  have g0 := HF.out.cells k hk
  rw [hx] at g0
  have hbits := high_bits HF.out.lt hk HT.out hx hL1 hL2 HV.out.1
  have hM : 64 * k + L ≤ 4799 := by
    rcases Nat.lt_or_ge 4799 (64 * k + L) with c | c
    · exfalso
      have h1 := Nat.pow_le_pow_right (n := 2) (by omega) (show P ≤ 64 * k + L by omega)
      have h2 := HV.out.2
      omega
    · exact c
  obtain ⟨b, hb⟩ : ∃ b, 64 * k + L + b = place := ⟨place - (64 * k + L), by omega⟩
  have HR : Hid _ := raised hbits.1 hbits.2 hb
  have HL : Hid _ := hL
  clear hL hbits hL1 hL2 hh hne hx
  obtain ⟨far, hfar⟩ : ∃ far, b / 64 = far := ⟨_, rfl⟩
  obtain ⟨n, hn⟩ : ∃ n, b % 64 = n := ⟨_, rfl⟩
  have HBN : Hid (b = 64 * far + n) := by unfold Hid; omega
  have hn64 : n < 64 := by omega
  have hfb : far ≤ 75 := by omega
  have i1 : (k : Int) < 76 := by omega
  have eb : (place : Int) - ((k : Int) * 64 + ((L : Int) + 1) - 1) = (b : Int) := by omega
  have qf : (b : Int) / 64 = (far : Int) := by omega
  have rf : (b : Int) % 64 = (n : Int) := by omega
  have rt : (b : Int).tmod 64 = (n : Int) := by rw [Int.tmod_eq_emod_of_nonneg (by omega)]; exact rf
  have qt : (b : Int).tdiv 64 = (far : Int) := by rw [Int.tdiv_eq_ediv_of_nonneg (by omega)]; exact qf
  have HPB : Hid (64 * k + L + b = place) := hb
  have hb9 : b ≤ 4862 := by omega
  obtain ⟨cnt, hcnt⟩ : ∃ cnt, cnt + far = 76 := ⟨76 - far, by omega⟩
  have ec : (76 : Int) - (far : Int) = (cnt : Int) := by omega
  have HCN : Hid (cnt + far = 76) := hcnt
  have en2 : (64 : Int) - (n : Int) = ((64 - n : Nat) : Int) := by omega
  clear hb hM hL3 hcnt
  go_wp2_with (first
    | (go_at_call 73; refine (len64_any x L hxl HL.out _).mono ?_; rintro e w1 ⟨rfl, rfl⟩))
  have R0 : Hid (Wds (w1.alloc (.cells Try.zeroCells63 63)) w1.heap.size (fun _ => 0)) := Wds.new w1
  have B0 : Hid (Wds (w1.alloc (.cells Try.zeroCells63 63)) B f) := HF.out.alloc _
  have L0 : Hid (Below w1.heap.size w1 (w1.alloc (.cells Try.zeroCells63 63))) := (Below.refl _ w1).alloc (Nat.le_refl _) _
  have hBl : B < w1.heap.size := HF.out.block
  obtain ⟨R, hR⟩ : ∃ R, w1.heap.size = R := ⟨_, rfl⟩
  have HRR : Hid (w1.heap.size = R) := hR
  rw [hR] at R0 L0 hBl ⊢
  clear g0 i1 eb qf rf rt qt hxl HL hk hR hfar hn
  go_loopg [10, 32] cnt (fun g ov iv wr => ∃ (i o : Nat) (h : Nat → Nat), i + g = cnt ∧ iv = .int .i64 i ∧ ov = .int .u64 o ∧ o < 18446744073709551616 ∧ Hid (o < 2 ^ n) ∧ Hid (Wds wr R h) ∧ Hid (Wds wr B f) ∧ Hid (Below R w1 wr) ∧ Hid (wv h (far + i) + o * 2 ^ (64 * (far + i)) = 2 ^ (64 * far + n) * wv f i))
  case atStart => exact ⟨0, 0, fun _ => 0, by omega, rfl, rfl, by omega, Nat.two_pow_pos _, R0, B0, L0, by unfold Hid; rw [wv_const_zero]; simp [wv]⟩
  case round =>
    clear R0 B0 L0
    obtain ⟨i, o, h, hig, rfl, rfl, ho, HO, K1, K2, K3, K4⟩ := hrel
    by_cases hlt : i < cnt
    · have hd : decide ((i : Int) < (cnt : Int)) = true := decide_eq_true (by omega)
      have hdn : decide (i < cnt) = true := decide_eq_true hlt
      obtain ⟨g, rfl⟩ : ∃ g, gk = g + 1 := ⟨gk - 1, by omega⟩
      have hi76 : i + far < 76 := by have := HCN.out; omega
      have i2 : (i : Int) + (far : Int) < 76 := by omega
      have i3 : (i : Int) < 76 := by omega
      have g0 := K2.out.cells i (by omega)
      have g1 := K1.out.cells (i + far) hi76
      have g2 := K1.out.frozen (i + far) hi76
      obtain ⟨x2, hx2⟩ : ∃ x2, f i = x2 := ⟨_, rfl⟩
      have hxl : x2 < 18446744073709551616 := by rw [← hx2]; exact K2.out.lt i (by omega)
      rw [hx2] at g0
      have HX2 : Hid _ := hx2
      clear hx2
      have s0 := wrap_shl x2 n
      have s1 := div_cast x2 (64 - n)
      generalize hu : x2 * 2 ^ n % 18446744073709551616 = u1 at s0
      generalize hd1 : x2 / 2 ^ (64 - n) = d1 at s1
      have hul : u1 < 18446744073709551616 := by rw [← hu]; exact Nat.mod_lt _ (by omega)
      have hdl : d1 < 18446744073709551616 := by rw [← hd1]; exact Nat.lt_of_le_of_lt (Nat.div_le_self _ _) hxl
      have s2 := u64_or_nat u1 o hul ho
      generalize hW : u1 ||| o = v at s2
      have HV2 : Hid (v = f i * 2 ^ n % 18446744073709551616 + o ∧ v < 18446744073709551616) := by
        have e := or_add (x := x2) hn64 HO.out
        rw [hu, hW] at e
        have e2 := word_lt (x := x2) hn64 HO.out
        rw [hu] at e2
        unfold Hid
        rw [HX2.out, hu]
        exact ⟨e, by omega⟩
      have HO' : Hid (d1 < 2 ^ n) := by rw [← hd1]; exact over_lt (by omega) hxl
      have HD1 : Hid (d1 = f i / 2 ^ (64 - n)) := by unfold Hid; rw [HX2.out, hd1]
      have K4' : Hid (wv (upd h (i + far) v) (far + (i + 1)) + d1 * 2 ^ (64 * (far + (i + 1))) = 2 ^ (64 * far + n) * wv f (i + 1)) := by
        unfold Hid
        rw [HD1.out, Nat.add_comm i far]
        exact raise_step hn64 K4.out HV2.out.1
      have K1' : Hid (Wds (wr.setCell ⟨R, i + far, none⟩ (.int .u64 (v : Int))) R (upd h (i + far) v)) := K1.out.set (i + far) v HV2.out.2 hi76
      have K2' : Hid (Wds (wr.setCell ⟨R, i + far, none⟩ (.int .u64 (v : Int))) B f) := ⟨fun j hj => by
        rw [← K2.out.cells j hj]
        exact World.cell?_setCell_other _ _ _ _ (fun c => by have := congrArg Addr.block c; simp at this; omega), fun j hj => (World.frozen?_setCell _ _ _ _).trans (K2.out.frozen j hj), K2.out.lt⟩
      have K3' : Hid (Below R w1 (wr.setCell ⟨R, i + far, none⟩ (.int .u64 (v : Int)))) := K3.out.setCell (p := ⟨R, i + far, none⟩) (Nat.le_refl _) _
      have g3 := K2'.out.cells i (by omega)
      rw [HX2.out] at g3
      clear hu hd1 hW K1 K2 K3 K4
      go_wp2_with fail
      go_roundg g
      case measure => omega
      case rel => exact ⟨i + 1, d1, upd h (i + far) v, by omega, by go_num, rfl, hdl, HO', K1', K2', K3', K4'⟩
    · have hd : decide ((i : Int) < (cnt : Int)) = false := decide_eq_false (by omega)
      have hdn : decide (i < cnt) = false := decide_eq_false hlt
      have HI : Hid (i = cnt) := by unfold Hid; omega
      have hst := store_words K2.out h
      have W2 : Hid _ := K2.out.stored (g := h) K1.out.lt
      have C2 : Hid (Chg B w1 (wr.setCells B 0 (wda h))) := (Chg.mk (K3.out.mono (by omega)) (fun b hb _ => K3.out.block b (by rw [← HRR.out]; exact hb))).setCells _ _
      have HE2 : Hid (wv h 76 = V * 2 ^ b) := by
        have h4 := K4.out
        have hf2 := HCN.out
        rw [HI.out, show cnt = 76 - far by omega] at h4
        have hz : ∀ j, 76 - far ≤ j → j < 76 → f j = 0 := fun j h1 h2 => HT.out j (by have := HPB.out; have := HBN.out; omega) h2
        obtain ⟨P2, hP2⟩ : ∃ P2, P2 = 64 * 76 := ⟨_, rfl⟩
        have e := raise_end (P := P2) (by omega) K1.out.lt h4 hz hP2 (by
          rw [HV.out.1, Nat.mul_comm, ← HBN.out]
          exact Nat.lt_of_lt_of_le HR.out.2 (Nat.pow_le_pow_right (by omega) (by omega)))
        unfold Hid
        rw [e, HV.out.1, Nat.mul_comm, ← HBN.out]
      go_wp2_with (first | (refine wpList_load_mid (by rfl) _ _ (by rfl) R 0 (by rfl) (wda h) _ K1.out.range Try.underlying63 rfl (size_wda h) ?_))
      go_ret
      exact ⟨b, h, rfl, W2.out, C2.out, HE2.out, HR.out, hb9⟩
end Go.Proofs.Ytajopgndpomggaa
