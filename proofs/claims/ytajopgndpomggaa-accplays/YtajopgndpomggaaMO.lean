import Derived.Test.YtajopgndpomggaaMQ
import Derived.Test.YtajopgndpomggaaMN
import Derived.Test.YtajopgndpomggaaMZ
import Derived.Deep.DeepMust
namespace Go.Proofs.Ytajopgndpomggaa
open Go.RowKit
set_option linter.unusedVariables false

/-- Both lie in one block. -/
def SameB (ao' ao : Option Addr) : Prop := ∀ p, ao' = some p → ∃ q, ao = some q ∧ p.block = q.block
/-- It lies in a new block. -/
def FreshB (ao' : Option Addr) (b : Nat) : Prop := ∀ p, ao' = some p → b ≤ p.block
theorem cut4F {W : World} {ao : Option Addr} {len cap : Nat} {xs : List Nat} (hr : Rd4 W ao len cap xs) (q : Nat) (hq : q ≤ len) :
    ∃ ao', (∀ w, (Instr.slice 25 (.slice ao len cap) none (some (.int .i64 q)) none).run Try.prog w = .ok (.slice ao' q cap) w) ∧ Rd4 W ao' q cap (xs.take q) ∧ SameB ao' ao := by
  refine ⟨_, fun w => ?_, hr.cut q hq, ?_⟩
  · have hle := hr.le
    rw [run_slice_h w _ _ _ _ (by rw [Try.elemU32]; exact Try.underlying25) .i64 q (by omega) (by omega), Try.elemU32, Try.sizeU32]
    simp [Result.andThen, sliced]
  · intro p hp
    split at hp
    · exact ⟨p, hp, rfl⟩
    · cases ao with
      | none => cases hp
      | some r =>
        rw [Option.map_some, Option.some.injEq] at hp
        exact ⟨r, rfl, by rw [← hp]; rfl⟩
set_option maxRecDepth 100000 in
set_option maxHeartbeats 1000000 in
theorem trimF_any (ao : Option Addr) (len cap : Nat) (xs : List Nat) (w : World) (hr : Rd4 w ao len cap xs) :
    Calls Try.prog 65 #[.slice ao len cap] w fun e w' => ∃ ao' n, e = .returned (.slice ao' n cap) ∧ w' = w ∧ Rd4 w ao' n cap (xs.take n) ∧ n ≤ len ∧ Nm (xs.take n) ∧ dig (xs.take n) = dig xs ∧ SameB ao' ao := by
  have HR : Hid _ := hr
  have HL : Hid (xs.length = len) := hr.length
  have hle := hr.le
  have hmx := hr.max
  have hcl := hr.cells
  have HLT : Hid (U4 xs) := hr.lt
  clear hr
  go_enter Try.func65, Try.ntmps65
  go_wp2_with fail
  go_loop [3] (fun i => ∃ k : Nat, k ≤ len ∧ i = .int .i64 k ∧ Hid (dig (xs.take k) = dig xs)) (fun i => (intOf i).toNat)
  case atStart => exact ⟨len, by omega, rfl, by unfold Hid; rw [← HL.out, List.take_length]⟩
  case round =>
    obtain ⟨k, hk, rfl, hD⟩ := hrel
    cases k with
    | zero =>
      obtain ⟨ao', hcut, hr', hfr⟩ := cut4F HR.out 0 (by omega)
      have HR' : Hid _ := hr'
      have HFR : Hid (SameB ao' _) := hfr
      clear hr' hfr
      have hz : ((0 : Nat) : Int) = 0 := rfl
      rw [hz] at hcut ⊢
      go_wp2
      go_ret
      exact ⟨ao', 0, rfl, rfl, HR'.out, by omega, .inl (by simp), hD.out, HFR.out⟩
    | succ k =>
      rcases hcl with h0 | ⟨b, off, rfl, hc⟩
      · omega
      have g := hc k (by omega)
      have hkl : k < xs.length := by rw [HL.out]; omega
      have hlt := HLT.out.at k
      have HDS : Hid _ := dig_take_succ hkl
      have HX : Hid (xs[k]?.getD 0 = (xs.take (k + 1))[(xs.take (k + 1)).length - 1]?.getD 0) := by
        unfold Hid; rw [List.length_take, Nat.min_eq_left (by omega), show k + 1 - 1 = k from rfl, List.getElem?_take, if_pos (by omega)]
      obtain ⟨ao', hcut, hr', hfr⟩ := cut4F HR.out (k + 1) (by omega)
      have HR' : Hid _ := hr'
      have HFR : Hid (SameB ao' _) := hfr
      clear hr' hfr hc hkl
      have hz : ((k + 1 : Nat) : Int) = (k : Int) + 1 := rfl
      rw [hz] at hcut ⊢
      by_cases hx : xs[k]?.getD 0 = 0
      · rw [hx] at g
        have g' : w.cell? ⟨b, off + k, none⟩ = some (.int .u32 0) := g
        clear g hcut
        go_wp2
        go_round
        case rel => exact ⟨k, by omega, by go_num, by unfold Hid; have h1 := HDS.out; have h2 := hD.out; rw [hx, Nat.mul_zero] at h1; omega⟩
        case measure => show ((k : Int)).toNat < ((k : Int) + 1).toNat; omega
      · generalize hxe : xs[k]?.getD 0 = x at *
        go_wp2
        go_ret
        exact ⟨ao', k + 1, rfl, rfl, HR'.out, by omega, .inr (by rw [← HX.out]; exact hx), hD.out, HFR.out⟩

set_option maxRecDepth 100000 in
set_option maxHeartbeats 2000000 in
theorem minusF_any (ao : Option Addr) (len cap : Nat) (xs : List Nat) (bo : Option Addr) (blen bcap : Nat) (ys : List Nat) (w : World) (hx : Rd4 w ao len cap xs) (hy : Rd4 w bo blen bcap ys) (hl : len ≤ 10000) (hll : blen ≤ len) (hdd : dig ys ≤ dig xs) :
    Calls Try.prog 69 #[.slice ao len cap, .slice bo blen bcap] w fun e w' => ∃ ao' k cap' zs, e = .returned (.slice ao' k cap') ∧ Rd4 w' ao' k cap' zs ∧ Nm zs ∧ dig zs = dig xs - dig ys ∧ Below w.heap.size w w' ∧ k ≤ len ∧ FreshB ao' w.heap.size := by
  have h1 := hx.le
  have h2 := hx.max
  have h3 := hy.le
  have h4 := hy.max
  obtain ⟨w1, hmk, hO, hB1⟩ := make4 w len (by omega)
  have hmk' := hmk (len : Int) rfl
  have HX : Hid _ := hx
  have HY : Hid _ := hy
  have HO : Hid _ := hO
  have HB1 : Hid _ := hB1
  clear hmk hx hy hO hB1
  go_enter Try.func69, Try.ntmps69
  go_wp2_with fail
  go_loopg [6, 7] len (fun gg c i wx => ∃ (k cc : Nat) (zs : List Nat), k ≤ len ∧ i = .int .i64 k ∧ c = .int .u64 cc ∧ cc ≤ 1 ∧ Hid (Own4 wx w.heap.size w.heap.size len zs) ∧ Hid (Below w.heap.size w wx) ∧ Hid (U4 zs) ∧ Hid (dig (xs.take k) + wd k * cc = dig (zs.take k) + dig (ys.take k)) ∧ len ≤ k + gg)
  case atStart =>
    refine ⟨0, 0, List.replicate len 0, by omega, rfl, rfl, by omega, HO, HB1, ?_, ?_, by omega⟩
    · intro x hx; rw [List.eq_of_mem_replicate hx]; decide
    · unfold Hid; simp [dig]
  case round =>
    obtain ⟨k, cc, zs, hk, rfl, rfl, hcc, HOz, HBz, HUz, HDz, hfu⟩ := hrel
    by_cases hlt : k < len
    · obtain ⟨fu, rfl⟩ : ∃ g, gk = g + 1 := ⟨gk - 1, by omega⟩
      rcases HX.out.cells with hh | ⟨b, off, rfl, hc⟩
      · omega
      have g := (HBz.out.cell (World.block_lt_of_cell? w _ (hc k hlt))).trans (hc k hlt)
      have hxb := HX.out.lt.at k
      have gz := HOz.out.cell k (by omega)
      have gf := HOz.out.frozen k
      have HSET : Hid _ := HOz.out.set k
      have HTX : Hid _ := dig_take_more (ys := xs) (k := k)
      have HTY : Hid _ := dig_take_more (ys := ys) (k := k)
      clear hc
      generalize xs[k]?.getD 0 = y at *
      by_cases hkb : k < blen
      · rcases HY.out.cells with hh | ⟨b2, off2, rfl, hc2⟩
        · omega
        have g2 := (HBz.out.cell (World.block_lt_of_cell? w _ (hc2 k hkb))).trans (hc2 k hkb)
        have hyb := HY.out.lt.at k
        clear hc2
        generalize ys[k]?.getD 0 = z at *
        obtain ⟨X, hX⟩ : ∃ X : Nat, cc + z = X := ⟨_, rfl⟩
        have hXi : (cc : Int) + z = (X : Int) := by omega
        have hXb : X ≤ 4294967296 := by omega
        by_cases hbr : y < X
        · have hv : (y : Int) + 4294967296 - (X : Int) = ((y + 4294967296 - X : Nat) : Int) := by omega
          obtain ⟨V, hV⟩ : ∃ V : Nat, y + 4294967296 - X = V := ⟨_, rfl⟩
          rw [hV] at hv
          have hVb : V < 4294967296 := by omega
          go_wp2_with fail
          go_roundg fu
          case rel =>
            refine ⟨k + 1, 1, zs.set k V, by omega, by go_num, rfl, by omega, HSET.out _, below_set HBz.out (Nat.le_refl _), HUz.out.set k _ hVb, ?_, by omega⟩
            unfold Hid
            rw [dig_take_set (by rw [HOz.out.1]; omega), HTX.out, HTY.out, wd_succ]
            have hk0 := HDz.out
            have e1 : wd k * y + wd k * 4294967296 = wd k * V + (wd k * cc + wd k * z) := by rw [← Nat.mul_add, ← Nat.mul_add, ← Nat.mul_add]; congr 1; omega
            have e2 : 4294967296 * wd k * 1 = wd k * 4294967296 := by rw [Nat.mul_one, Nat.mul_comm]
            omega
          case measure => omega
        · have hv : (y : Int) - (X : Int) = ((y - X : Nat) : Int) := by omega
          obtain ⟨V, hV⟩ : ∃ V : Nat, y - X = V := ⟨_, rfl⟩
          rw [hV] at hv
          have hVb : V < 4294967296 := by omega
          go_wp2_with fail
          go_roundg fu
          case rel =>
            refine ⟨k + 1, 0, zs.set k V, by omega, by go_num, rfl, by omega, HSET.out _, below_set HBz.out (Nat.le_refl _), HUz.out.set k _ hVb, ?_, by omega⟩
            unfold Hid
            rw [dig_take_set (by rw [HOz.out.1]; omega), HTX.out, HTY.out, wd_succ]
            have hk0 := HDz.out
            have e1 : wd k * y = wd k * V + (wd k * cc + wd k * z) := by rw [← Nat.mul_add, ← Nat.mul_add]; congr 1; omega
            have e2 : 4294967296 * wd k * 0 = 0 := Nat.mul_zero _
            omega
          case measure => omega
      · have hy0 : ys[k]?.getD 0 = 0 := by rw [List.getElem?_eq_none (by rw [HY.out.length]; omega)]; rfl
        rw [hy0] at HTY
        obtain ⟨z, hz⟩ : ∃ z : Nat, z = 0 := ⟨_, rfl⟩
        rw [← hz] at HTY
        obtain ⟨X, hX⟩ : ∃ X : Nat, X = cc := ⟨_, rfl⟩
        have hXc : cc + z = X := by omega
        clear hz
        subst hX
        by_cases hbr : y < X
        · have hv : (y : Int) + 4294967296 - (X : Int) = ((y + 4294967296 - X : Nat) : Int) := by omega
          obtain ⟨V, hV⟩ : ∃ V : Nat, y + 4294967296 - X = V := ⟨_, rfl⟩
          rw [hV] at hv
          have hVb : V < 4294967296 := by omega
          go_wp2_with fail
          go_roundg fu
          case rel =>
            refine ⟨k + 1, 1, zs.set k V, by omega, by go_num, rfl, by omega, HSET.out _, below_set HBz.out (Nat.le_refl _), HUz.out.set k _ hVb, ?_, by omega⟩
            unfold Hid
            rw [dig_take_set (by rw [HOz.out.1]; omega), HTX.out, HTY.out, wd_succ]
            have hk0 := HDz.out
            have e1 : wd k * y + wd k * 4294967296 = wd k * V + (wd k * X + wd k * z) := by rw [← Nat.mul_add, ← Nat.mul_add, ← Nat.mul_add]; congr 1; omega
            have e2 : 4294967296 * wd k * 1 = wd k * 4294967296 := by rw [Nat.mul_one, Nat.mul_comm]
            omega
          case measure => omega
        · have hv : (y : Int) - (X : Int) = ((y - X : Nat) : Int) := by omega
          obtain ⟨V, hV⟩ : ∃ V : Nat, y - X = V := ⟨_, rfl⟩
          rw [hV] at hv
          have hVb : V < 4294967296 := by omega
          go_wp2_with fail
          go_roundg fu
          case rel =>
            refine ⟨k + 1, 0, zs.set k V, by omega, by go_num, rfl, by omega, HSET.out _, below_set HBz.out (Nat.le_refl _), HUz.out.set k _ hVb, ?_, by omega⟩
            unfold Hid
            rw [dig_take_set (by rw [HOz.out.1]; omega), HTX.out, HTY.out, wd_succ]
            have hk0 := HDz.out
            have e1 : wd k * y = wd k * V + (wd k * X + wd k * z) := by rw [← Nat.mul_add, ← Nat.mul_add]; congr 1; omega
            have e2 : 4294967296 * wd k * 0 = 0 := Nat.mul_zero _
            omega
          case measure => omega
    · obtain rfl : k = len := by omega
      have HTX : Hid (xs.take k = xs) := by unfold Hid; exact List.take_of_length_le (by rw [HX.out.length]; omega)
      have HDF : Hid (dig zs = dig xs - dig ys) := by
        unfold Hid
        have e1 := HDz.out
        have e2 := dig_lt HUz.out
        rw [HOz.out.1] at e2
        rw [HTX.out, List.take_of_length_le (by rw [HOz.out.1]; omega), List.take_of_length_le (by rw [HY.out.length]; omega)] at e1
        have e3 : cc = 0 := by
          rcases Nat.eq_zero_or_pos cc with h | h
          · exact h
          · have : cc = 1 := by omega
            rw [this, Nat.mul_one] at e1; omega
        rw [e3, Nat.mul_zero] at e1
        omega
      go_wp2_with fail
      refine (trimF_any _ _ _ zs _ (Own4.rd HOz.out HUz.out (by omega))).mono ?_
      rintro e w' ⟨ao', m, rfl, rfl, hr', hm', hnm, hdg, hfr⟩
      have HFR : Hid (SameB ao' _) := hfr
      clear hfr
      go_wp2_with fail
      go_ret
      exact ⟨ao', m, _, _, rfl, hr', hnm, by rw [hdg, HDF.out], HBz.out, by omega, fun p hp => by obtain ⟨q, h1, h2⟩ := HFR.out p hp; cases h1; rw [h2]; exact Nat.le_refl _⟩
end Go.Proofs.Ytajopgndpomggaa

namespace Go.Proofs.Ytajopgndpomggaa
open Go.RowKit
set_option linter.unusedVariables false

/-- One bit more of a quotient. -/
theorem part_step {a b Q i A : Nat} (hb : 0 < b) (h1 : A = a + b * Q) (h2 : a < b * 2 ^ (i + 1)) (hq : Q % 2 ^ (i + 1) = 0) :
    (b * 2 ^ i ≤ a → A = (a - b * 2 ^ i) + b * (Q + 2 ^ i) ∧ a - b * 2 ^ i < b * 2 ^ i ∧ (Q + 2 ^ i) % 2 ^ i = 0) ∧ (¬ b * 2 ^ i ≤ a → a < b * 2 ^ i ∧ Q % 2 ^ i = 0) := by
  have e : b * 2 ^ (i + 1) = 2 * (b * 2 ^ i) := by rw [Nat.pow_succ, ← Nat.mul_assoc, Nat.mul_comm]
  have hq2 : Q % 2 ^ i = 0 := by
    have : 2 ^ i ∣ 2 ^ (i + 1) := ⟨2, by rw [Nat.pow_succ]⟩
    exact Nat.mod_eq_zero_of_dvd (Nat.dvd_trans this (Nat.dvd_of_mod_eq_zero hq))
  refine ⟨fun h => ⟨?_, by omega, ?_⟩, fun h => ⟨by omega, hq2⟩⟩
  · rw [Nat.mul_add]; omega
  · rw [Nat.add_mod, hq2, Nat.mod_self]; simp
/-- A bit is laid into the words. -/
theorem part_bit {zs : List Nat} {i : Nat} (hu : U4 zs) (hl : i / 32 < zs.length) (hz : dig zs % 2 ^ (i + 1) = 0) :
    zs[i / 32]?.getD 0 % 2 ^ (i % 32 + 1) = 0 ∧ dig (zs.set (i / 32) (zs[i / 32]?.getD 0 + 2 ^ (i % 32))) = dig zs + 2 ^ i ∧ zs[i / 32]?.getD 0 + 2 ^ (i % 32) < 4294967296 := by
  obtain ⟨q, hq⟩ : ∃ q, i / 32 = q := ⟨_, rfl⟩
  obtain ⟨r, hr⟩ : ∃ r, i % 32 = r := ⟨_, rfl⟩
  rw [hq] at hl
  rw [hq, hr]
  have hi : i = 32 * q + r := by omega
  have hr32 : r < 32 := by omega
  have hx := hu.at q
  have e1 := dig_split zs q
  rw [List.length_take, Nat.min_eq_left (by omega), dig_drop_pred] at e1
  have hlow := dig_lt (hu.take q)
  rw [List.length_take, Nat.min_eq_left (by omega)] at hlow
  generalize hxe : zs[q]?.getD 0 = x at *
  have hpow : 2 ^ (i + 1) = wd q * 2 ^ (r + 1) := by unfold wd; rw [hi, ← Nat.pow_add, Nat.add_assoc]
  have hx0 : x % 2 ^ (r + 1) = 0 := by
    rw [hpow] at hz
    obtain ⟨c, hc⟩ := Nat.dvd_of_mod_eq_zero hz
    have h32 : (4294967296 : Nat) = 2 ^ (r + 1) * 2 ^ (31 - r) := by rw [← Nat.pow_add, show r + 1 + (31 - r) = 32 by omega]
    have hl0 : dig (zs.take q) = 0 := by
      have h1 : wd q ∣ dig (zs.take q) := by
        have h2 : wd q ∣ dig zs := ⟨2 ^ (r + 1) * c, by rw [hc, Nat.mul_assoc]⟩
        have h3 : wd q ∣ wd q * (x + 4294967296 * dig (zs.drop (q + 1))) := Nat.dvd_mul_right ..
        rw [e1] at h2
        exact (Nat.dvd_add_iff_left h3).2 h2
      exact Nat.eq_zero_of_dvd_of_lt h1 hlow
    rw [hl0, Nat.zero_add] at e1
    rw [e1] at hc
    have h4 : x + 4294967296 * dig (zs.drop (q + 1)) = 2 ^ (r + 1) * c := by
      refine Nat.eq_of_mul_eq_mul_left (wd_pos q) ?_
      rw [hc, Nat.mul_assoc]
    have h5 : 2 ^ (r + 1) ∣ x + 4294967296 * dig (zs.drop (q + 1)) := ⟨c, h4⟩
    have h6 : 2 ^ (r + 1) ∣ 4294967296 * dig (zs.drop (q + 1)) := by rw [h32, Nat.mul_assoc]; exact Nat.dvd_mul_right ..
    exact Nat.mod_eq_zero_of_dvd ((Nat.dvd_add_iff_left h6).2 h5)
  refine ⟨hx0, ?_, ?_⟩
  · have e2 := dig_set (xs := zs) (k := q) (v := x + 2 ^ r) hl
    have hxx : zs[q]?.getD 0 = x := hxe
    rw [hxx, Nat.mul_add] at e2
    have e3 : wd q * 2 ^ r = 2 ^ i := by unfold wd; rw [← Nat.pow_add, hi]
    omega
  · obtain ⟨c, hc⟩ := Nat.dvd_of_mod_eq_zero hx0
    have h32 : (4294967296 : Nat) = 2 ^ (r + 1) * 2 ^ (31 - r) := by rw [← Nat.pow_add, show r + 1 + (31 - r) = 32 by omega]
    have hlt : c < 2 ^ (31 - r) := by
      have hx' := hx
      rw [hc, h32] at hx'
      exact Nat.lt_of_mul_lt_mul_left hx'
    have h5 := Nat.mul_le_mul_left (2 ^ (r + 1)) (show c + 1 ≤ 2 ^ (31 - r) from hlt)
    rw [← h32, Nat.mul_add, Nat.mul_one, ← hc] at h5
    have h6 : 2 ^ (r + 1) = 2 ^ r * 2 := Nat.pow_succ ..
    have := Nat.two_pow_pos r
    omega
end Go.Proofs.Ytajopgndpomggaa

namespace Go.Proofs.Ytajopgndpomggaa
open Go.RowKit
set_option linter.unusedVariables false

theorem Own4.later {w w' : World} {base g n : Nat} {xs : List Nat} (h : Own4 w base g n xs) (hb : Below w.heap.size w w') : Own4 w' base g n xs := by
  refine ⟨h.1, h.2.1, ?_⟩
  rcases h.2.2 with h2 | ⟨g2, cap2, cur, hv, hg, hh, r⟩
  · exact .inl h2
  · exact .inr ⟨g2, cap2, cur, hv, hg, by rw [hb.block g2 (Array.getElem?_eq_some_iff.1 hh).1]; exact hh, r⟩
theorem Own4.lt {w : World} {base g n : Nat} {xs : List Nat} (h : Own4 w base g n xs) : g < w.heap.size := by
  rcases h.2.2 with ⟨h1, _⟩ | ⟨g2, cap2, cur2, hv, hg2, hh, _⟩
  · simp at h1
  · simp only [Value.slice.injEq, Option.some.injEq, Addr.mk.injEq, and_true, true_and] at hv
    obtain ⟨rfl, rfl⟩ := hv
    exact (Array.getElem?_eq_some_iff.1 hh).1
/-- It lies in another block. -/
def NotB (ao : Option Addr) (g : Nat) : Prop := ∀ p, ao = some p → p.block ≠ g
theorem rd4_set {w : World} {g i : Nat} (x : Value) {ao : Option Addr} {len cap : Nat} {xs : List Nat} (h : Rd4 w ao len cap xs) (hn : NotB ao g) : Rd4 (w.setCell ⟨g, i, none⟩ x) ao len cap xs := by
  refine ⟨h.length, h.le, h.max, h.lt, h.nil, ?_⟩
  rcases h.cells with h0 | ⟨b, off, ha, hc⟩
  · exact .inl h0
  · refine .inr ⟨b, off, ha, fun j hj => ?_⟩
    have hne : b ≠ g := hn _ ha
    rw [World.cell?_setCell_other _ _ _ _ (fun e => hne (by have := congrArg Addr.block e; first | exact this | exact this.symm))]
    exact hc j hj
/-- How far a quotient's first bit is off. -/
theorem part_start {A B n : Nat} (hA : A ≠ 0) (hB : B ≠ 0) (hn : bl A = n + bl B) : A < B * 2 ^ (n + 1) := by
  have h1 := (bl_spec hA).2.1
  have h2 := bl_spec hB
  rw [hn] at h1
  obtain ⟨k, hk⟩ : ∃ k, bl B = k + 1 := ⟨bl B - 1, by omega⟩
  rw [hk] at h1 h2
  simp only [Nat.add_sub_cancel] at h2
  have h3 := Nat.mul_le_mul_right (2 ^ (n + 1)) h2.1
  rw [← Nat.pow_add] at h3
  rw [show n + (k + 1) = k + (n + 1) by omega] at h1
  omega
theorem part_small {A B : Nat} (hA : A ≠ 0) (h : bl A < bl B) : A < B := by
  have h1 := (bl_spec hA).2.1
  have hB : B ≠ 0 := by rintro rfl; rw [bl_zero] at h; omega
  have h2 := (bl_spec hB).1
  have h3 : 2 ^ bl A ≤ 2 ^ (bl B - 1) := Nat.pow_le_pow_right (by omega) (by omega)
  omega
theorem part_end {A B a Q : Nat} (h : A = a + B * Q) (hlt : a < B * 2 ^ 0) : A / B = Q ∧ A % B = a := by
  rw [Nat.pow_zero, Nat.mul_one] at hlt
  have hB : 0 < B := by omega
  rw [h]
  exact ⟨by rw [Nat.add_mul_div_left _ _ hB, Nat.div_eq_of_lt hlt, Nat.zero_add], by rw [Nat.add_mul_mod_self_left, Nat.mod_eq_of_lt hlt]⟩
def PartRes (A B : Nat) (w : World) (e' : Ending) (w' : World) : Prop := ∃ v', e' = .returned (.tuple #[v', .bool (nz (A % B))]) ∧ NumV w' v' false (A / B) 0 ∧ Below w.heap.size w w'
def lowE (ex ey : Int) : Int := min ex ey
set_option maxRecDepth 100000 in
set_option maxHeartbeats 2000000 in
theorem part_any (v u : Value) (nx ny : Bool) (mx my : Nat) (ex ey : Int) (w : World) (hx : NumV w v nx mx ex) (hy : NumV w u ny my ey) (hex : -20000 ≤ ex ∧ ex ≤ 20000) (hey : -20000 ≤ ey ∧ ey ≤ 20000) (hbx : bl mx ≤ 40000) (hby : bl my ≤ 40000) (hx0 : mx ≠ 0) (hy0 : my ≠ 0) :
    Calls Try.prog 87 #[v, u] w fun e' w' => PartRes (mx * 2 ^ (ex - lowE ex ey).toNat) (my * 2 ^ (ey - lowE ex ey).toNat) w e' w' := by
  obtain ⟨ao, len, cap, xs, rfl, hr, hnm, hm⟩ := hx
  obtain ⟨bo, blen, bcap, ys, rfl, hr2, hnm2, hm2⟩ := hy
  obtain ⟨p0, p1, p2, pz, pb⟩ := alloc3_facts w (Obj.cells #[Value.bool nx, Value.slice ao len cap, Value.int IntKind.i64 ex] 27) (Obj.cells #[Value.bool ny, Value.slice bo blen bcap, Value.int IntKind.i64 ey] 27) (Obj.cells #[Value.bool false, Value.slice none 0 0, Value.int IntKind.i64 0] 27)
  have P2 : Hid _ := p2
  have PZ : Hid _ := pz
  have PB : Hid _ := pb
  have HR : Hid _ := hr
  have HR2 : Hid _ := hr2
  clear p0 p1 p2 pz pb hr hr2
  obtain ⟨A0, hA0⟩ : ∃ A, mx * 2 ^ (ex - lowE ex ey).toNat = A := ⟨_, rfl⟩
  obtain ⟨B0, hB0⟩ : ∃ B, my * 2 ^ (ey - lowE ex ey).toNat = B := ⟨_, rfl⟩
  rw [hA0, hB0]
  have HA0 : Hid (mx * 2 ^ (ex - lowE ex ey).toNat = A0) := hA0
  have HB0' : Hid (my * 2 ^ (ey - lowE ex ey).toNat = B0) := hB0
  clear hA0 hB0
  go_enter Try.func87, Try.ntmps87
  go_wp2_with fail
  refine (level_any _ _ nx ny mx my ex ey _ ⟨ao, len, cap, xs, rfl, HR.out.later PB.out, hnm, hm⟩ ⟨bo, blen, bcap, ys, rfl, HR2.out.later PB.out, hnm2, hm2⟩ hex hey (by omega) (by omega)).mono ?_
  rintro e2 w2 ⟨a1, l1, c1, xs1, a2, l2, c2, ys1, A, B, e, rfl, r1, r2, n1, n2, d1, d2, hL, hb2⟩
  obtain ⟨bA, bB, zA, nA, zB, nB⟩ := level_bounds hL hex hey hbx hby
  have hAn := nA hx0
  have hBn := nB hx0 hy0
  have hAB : A0 = A ∧ B0 = B := by
    rcases hL with ⟨h, -⟩ | ⟨-, h, -⟩ | ⟨-, -, he, hA, hB⟩
    · exact absurd h hx0
    · exact absurd h hy0
    · rw [← HA0.out, ← HB0'.out, hA, hB, he]; exact ⟨rfl, rfl⟩
  obtain ⟨rfl, rfl⟩ := hAB
  have hl1 : l1 ≤ 10000 := by have := len_bl r1.length r1.lt n1; rw [d1] at this; omega
  have hl2 : l2 ≤ 5000 := by have := len_bl r2.length r2.lt n2; rw [d2] at this; omega
  have lz1 := len_zero r1.length r1.lt n1
  rw [d1] at lz1
  have hl0 : ((l1 : Int) == 0) = false := by rw [beq_eq_false_iff_ne]; omega
  have hlp : 0 < l1 := by omega
  have q2 := (hb2.block (w.heap.size + 1 + 1) (by rw [PZ.out]; omega)).trans P2.out
  have hsz : w.heap.size + 3 ≤ w2.heap.size := by have := hb2.size; rw [PZ.out] at this; exact this
  have HB2 : Hid (Below w.heap.size w w2) := PB.out.trans (hb2.mono (by rw [PZ.out]; omega))
  have R1 : Hid (Rd4 w2 a1 l1 c1 xs1) := r1
  have R2 : Hid (Rd4 w2 a2 l2 c2 ys1) := r2
  have Q2 : Hid _ := q2
  have N1 : Hid (Nm xs1) := n1
  have N2 : Hid (Nm ys1) := n2
  have HNB : Hid (NotB a1 w2.heap.size) := by
    intro p hp
    rcases r1.cells with h | ⟨b, off, h, hc⟩
    · omega
    · rw [h, Option.some.injEq] at hp
      have := World.block_lt_of_cell? w2 _ (hc 0 hlp)
      rw [← hp]; show b ≠ _; show b ≠ w2.heap.size
      have h9 : b < w2.heap.size := this
      omega
  clear r1 r2 hL hb2 q2 n1 n2 lz1 zA nA zB nB P2 PZ PB HR HR2 HA0 HB0' hbx hby hex hey hx0 hy0 hnm hnm2 hm hm2
  go_wp2_with fail
  refine (length_any a1 l1 c1 xs1 _ R1.out N1.out).mono ?_
  rintro e3 w3 ⟨rfl, hw3⟩
  rw [hw3, d1]
  clear hw3
  go_wp2_with fail
  refine (length_any a2 l2 c2 ys1 _ R2.out N2.out).mono ?_
  rintro e3 w3 ⟨rfl, hw3⟩
  rw [hw3, d2]
  clear hw3
  by_cases hneg : bl A0 < bl B0
  · have hsm := part_small hAn hneg
    have hw : wrap64 ((bl A0 : Int) - (bl B0 : Int)) = (bl A0 : Int) - (bl B0 : Int) := by unfold wrap64; omega
    have hlt : (bl A0 : Int) - (bl B0 : Int) < 0 := by omega
    have hdt : decide ((bl A0 : Int) - (bl B0 : Int) < 0) = true := decide_eq_true hlt
    obtain ⟨z0, z1, z2⟩ := three_cells Q2.out
    have fz := fun j => frozen_of_row _ _ j _ _ Q2.out
    have HD : Hid (A0 / B0 = 0 ∧ nz (A0 % B0) = true) := by
      unfold Hid
      rw [Nat.div_eq_of_lt hsm, Nat.mod_eq_of_lt hsm]
      exact ⟨rfl, by unfold nz; rw [bne_iff_ne]; exact hAn⟩
    clear hsm
    generalize (bl A0 : Int) - (bl B0 : Int) = nn at *
    go_wp2_with fail
    refine bodyPost_ret (v := .tuple #[.agg #[.bool false, .slice none 0 0, .int .i64 0], .bool true]) (res_num2 _ 4 5 (by kernel_rfl) _ _ (w.heap.size + 1 + 1) _ _ _ _ (by rfl) (by rfl) (set3_heap _ _ _ Q2.out)) rfl ⟨_, by rw [HD.out.2], ?_, ?_⟩
    · rw [HD.out.1]; exact ⟨none, 0, 0, [], rfl, rd4_none' _, .inl rfl, rfl⟩
    · exact below_set3 _ _ _ HB2.out (by omega)
  · obtain ⟨n, hn⟩ : ∃ n : Nat, bl A0 = n + bl B0 := ⟨bl A0 - bl B0, by omega⟩
    have hsub : (bl A0 : Int) - (bl B0 : Int) = (n : Int) := by omega
    have hdf : decide ((n : Int) < 0) = false := decide_eq_false (by omega)
    have hnb : n ≤ 80000 := by omega
    have HST : Hid (A0 < B0 * 2 ^ (n + 1)) := part_start hAn hBn hn
    obtain ⟨q, hq⟩ : ∃ q : Nat, n / 32 = q := ⟨_, rfl⟩
    have hqi : (n : Int) / 32 = (q : Int) := by omega
    have hqt : (n : Int).tdiv 32 = (q : Int) := by rw [Int.tdiv_eq_ediv_of_nonneg (by omega)]; omega
    obtain ⟨w3, hmk, hO, hB3⟩ := make4 w2 (q + 1) (by omega)
    have hmk' := hmk ((q : Int) + 1) (by omega)
    have HO : Hid (Own4 w3 w2.heap.size w2.heap.size (q + 1) (List.replicate (q + 1) 0)) := hO
    have HB3 : Hid (Below w2.heap.size w2 w3) := hB3
    clear hmk hO hB3 hn hneg
    go_wp2_with fail
    go_loopg [6, 11] (n + 1) (fun gg av iv wx => ∃ (k : Nat) (ac : Option Addr) (la ca : Nat) (us zs : List Nat), k ≤ n + 1 ∧ iv = .int .i64 ((k : Int) - 1) ∧ av = .slice ac la ca ∧ Hid (Rd4 wx ac la ca us) ∧ Hid (Nm us) ∧ la ≤ 10000 ∧ Hid (NotB ac w2.heap.size) ∧ Hid (Own4 wx w2.heap.size w2.heap.size (q + 1) zs) ∧ Hid (Below w2.heap.size w2 wx) ∧ Hid (U4 zs) ∧ Hid (A0 = dig us + B0 * dig zs) ∧ Hid (dig us < B0 * 2 ^ k) ∧ Hid (dig zs % 2 ^ k = 0) ∧ k ≤ gg)
    case atStart =>
      refine ⟨n + 1, a1, l1, c1, xs1, List.replicate (q + 1) 0, by omega, by congr 1; omega, rfl, R1.out.later HB3.out, N1, hl1, HNB, HO, HB3, ?_, ?_, ?_, ?_, by omega⟩
      · intro x hx; rw [List.eq_of_mem_replicate hx]; decide
      · unfold Hid; rw [dig_zeros, d1]; omega
      · unfold Hid; rw [d1]; exact HST.out
      · unfold Hid; rw [dig_zeros]; exact Nat.zero_mod _
    case round =>
      obtain ⟨k, ac, la, ca, us, zs, hk, rfl, rfl, RA, NA', hla, HN, HOz, HBz, HUz, HQ, HLT, HM, hfu⟩ := hrel
      have HBW : Hid (Below w.heap.size w wr) := HB2.out.trans (HBz.out.mono (by omega))
      cases k with
      | zero =>
        have hz : ((0 : Nat) : Int) - 1 = -1 := rfl
        rw [hz]
        obtain ⟨pe1, pe2⟩ := part_end HQ.out HLT.out
        have lza := len_zero RA.out.length RA.out.lt NA'.out
        have HNZ : Hid (nz (A0 % B0) = decide (0 < la)) := by
          unfold Hid; rw [pe2]; unfold nz
          by_cases h : 0 < la
          · rw [decide_eq_true h, bne_iff_ne]; omega
          · rw [decide_eq_false h, bne_eq_false_iff_eq]; omega
        have PE1 : Hid (A0 / B0 = dig zs) := pe1
        have g2 := (HBz.out.block (w.heap.size + 1 + 1) (by omega)).trans Q2.out
        obtain ⟨z0, z1, z2⟩ := three_cells g2
        have fz := fun j => frozen_of_row _ _ j _ _ g2
        have G2 : Hid _ := g2
        clear pe1 pe2 lza g2
        go_wp2_with fail
        refine (trim_any _ _ _ zs _ (Own4.rd HOz.out HUz.out (by omega))).mono ?_
        rintro e9 w9 ⟨at', mt, rfl, hw9, hr', hm', hnm', hdg⟩
        rw [hw9]
        clear hw9
        have RT : Hid _ := hr'
        clear hr'
        go_wp2_with fail
        refine bodyPost_ret (v := .tuple #[.agg #[.bool false, .slice at' mt (q + 1), .int .i64 0], .bool (decide (0 < la))]) (res_num2 _ 4 5 (by kernel_rfl) _ _ (w.heap.size + 1 + 1) _ _ _ _ (by rfl) (by rfl) (set3_heap _ _ _ G2.out)) rfl ⟨_, by rw [HNZ.out], ?_, ?_⟩
        · exact ⟨at', mt, q + 1, _, rfl, rd4_set3 _ _ _ ⟨_, _, _, _, _, G2.out⟩ RT.out, hnm', by rw [hdg, PE1.out]⟩
        · exact below_set3 _ _ _ HBW.out (by omega)
      | succ k =>
        obtain ⟨fu, rfl⟩ : ∃ g, gk = g + 1 := ⟨gk - 1, by omega⟩
        have hz : ((k + 1 : Nat) : Int) - 1 = (k : Int) := by omega
        rw [hz]
        clear hz
        go_wp2_with fail
        refine (left_any a2 l2 c2 ys1 k _ (R2.out.later HBz.out) (by omega) (by omega)).mono ?_
        rintro e4 w4 ⟨ac2, lc, cc2, cs, rfl, rc, nc, dc, hb4, kc⟩
        have RC : Hid (Rd4 w4 ac2 lc cc2 cs) := rc
        have NC : Hid (Nm cs) := nc
        have DC : Hid (dig cs = B0 * 2 ^ k) := by unfold Hid; rw [dc, d2]
        have RA4 : Hid (Rd4 w4 ac la ca us) := RA.out.later hb4
        have HO4 : Hid (Own4 w4 w2.heap.size w2.heap.size (q + 1) zs) := HOz.out.later hb4
        have hzw : w2.heap.size < wr.heap.size := HOz.out.lt
        have HB4 : Hid (Below w2.heap.size w2 w4) := HBz.out.trans (hb4.mono (by omega))
        have hs4 : w2.heap.size < w4.heap.size := Nat.lt_of_lt_of_le hzw hb4.size
        clear rc nc dc hb4
        go_wp2_with fail
        refine (cmp_any ac la ca us ac2 lc cc2 cs _ RA4.out RC.out NA'.out NC.out).mono ?_
        rintro e5 w5 ⟨rfl, hb5⟩
        rw [DC.out]
        have RC5 : Hid (Rd4 w5 ac2 lc cc2 cs) := RC.out.later hb5
        have RA5 : Hid (Rd4 w5 ac la ca us) := RA4.out.later hb5
        have HO5 : Hid (Own4 w5 w2.heap.size w2.heap.size (q + 1) zs) := HO4.out.later hb5
        have HB5 : Hid (Below w2.heap.size w2 w5) := HB4.out.trans (hb5.mono (by omega))
        have hs5 : w2.heap.size < w5.heap.size := Nat.lt_of_lt_of_le hs4 hb5.size
        clear hb5
        obtain ⟨st1, st2⟩ := part_step (A := A0) (Nat.pos_of_ne_zero hBn) HQ.out HLT.out HM.out
        by_cases hge : B0 * 2 ^ k ≤ dig us
        · obtain ⟨s1, s2, s3⟩ := st1 hge
          have hc0 : 0 ≤ cmpN (dig us) (B0 * 2 ^ k) := by unfold cmpN; rw [if_neg (by omega)]; split <;> omega
          have hcd : decide (0 ≤ cmpN (dig us) (B0 * 2 ^ k)) = true := decide_eq_true hc0
          have hll : lc ≤ la := by
            rcases Nat.lt_or_ge la lc with h | h
            · have := shorter_lt RA.out.lt RC.out.lt NC.out (by rw [RA.out.length, RC.out.length]; exact h)
              rw [DC.out] at this; omega
            · exact h
          have S1 : Hid _ := s1
          have S2 : Hid _ := s2
          have S3 : Hid _ := s3
          have HGE : Hid (B0 * 2 ^ k ≤ dig us) := hge
          clear s1 s2 s3 st1 st2 hge
          go_wp2_with fail
          refine (minusF_any ac la ca us ac2 lc cc2 cs _ RA5.out RC5.out hla hll (by rw [DC.out]; exact HGE.out)).mono ?_
          rintro e6 w6 ⟨ad, ld, cd, ds, rfl, rd, nd, dd, hb6, kd, hfr⟩
          have RD : Hid (Rd4 w6 ad ld cd ds) := rd
          have ND : Hid (Nm ds) := nd
          have DD : Hid (dig ds = dig us - B0 * 2 ^ k) := by unfold Hid; rw [dd, DC.out]
          have HN6 : Hid (NotB ad w2.heap.size) := fun p hp => by have h1 := hfr p hp; omega
          have HO6 : Hid (Own4 w6 w2.heap.size w2.heap.size (q + 1) zs) := HO5.out.later hb6
          have HB6 : Hid (Below w2.heap.size w2 w6) := HB5.out.trans (hb6.mono (by omega))
          obtain ⟨qk, hqk⟩ : ∃ z : Nat, k / 32 = z := ⟨_, rfl⟩
          obtain ⟨sk, hsk⟩ : ∃ z : Nat, k % 32 = z := ⟨_, rfl⟩
          have hqk1 : (k : Int) / 32 = (qk : Int) := by omega
          have hqk2 : (k : Int).tdiv 32 = (qk : Int) := by rw [Int.tdiv_eq_ediv_of_nonneg (by omega)]; omega
          have hsk1 : (k : Int) % 32 = (sk : Int) := by omega
          have hsk2 : (k : Int).tmod 32 = (sk : Int) := by rw [Int.tmod_eq_emod_of_nonneg (by omega)]; omega
          have hs32 : sk < 32 := by omega
          have hqkb : qk < q + 1 := by omega
          obtain ⟨pb1, pb2, pb3⟩ := part_bit (zs := zs) (i := k) HUz.out (by rw [HOz.out.1]; omega) HM.out
          rw [hqk, hsk] at pb1 pb2 pb3
          have gz := HO6.out.cell qk hqkb
          have gf := HO6.out.frozen qk
          have HSET : Hid _ := HO6.out.set qk
          have hxu := HUz.out.at qk
          obtain ⟨x, hxe⟩ : ∃ x, zs[qk]?.getD 0 = x := ⟨_, rfl⟩
          rw [hxe] at gz pb1 pb2 pb3 hxu
          obtain ⟨PP, hPP⟩ : ∃ P : Nat, 2 ^ sk = P := ⟨_, rfl⟩
          have hPb : PP < 4294967296 := by
            rw [← hPP, show (4294967296 : Nat) = 2 ^ 32 by decide]; exact Nat.pow_lt_pow_right (by omega) (by omega)
          have hPi : ((2 : Int) ^ sk) = (PP : Int) := by rw [← hPP, Int.natCast_pow]; rfl
          have hPw : IntKind.u32.wrap ((1 : Int) * 2 ^ sk) = (PP : Int) := by rw [Int.one_mul, hPi, IntKind.wrap_u32]; omega
          have hPm : ((2 : Int) ^ sk) % 4294967296 = (PP : Int) := by rw [hPi]; omega
          obtain ⟨V, hV⟩ : ∃ V : Nat, x + PP = V := ⟨_, rfl⟩
          have hor : bits .or .u32 (x : Int) (PP : Int) = (V : Int) := by
            rw [u32_or_nat _ _ hxu hPb]
            congr 1
            obtain ⟨c, hc⟩ := Nat.dvd_of_mod_eq_zero pb1
            have h9 := Nat.two_pow_add_eq_or_of_lt (i := sk + 1) (b := PP) (by rw [← hPP]; exact Nat.pow_lt_pow_right (by omega) (by omega)) c
            rw [hc, ← h9, ← hV, hc]
          rw [hPP, hV] at pb2 pb3
          have PB2 : Hid (dig (zs.set qk V) = dig zs + 2 ^ k) := pb2
          have PB3 : Hid (V < 4294967296) := pb3
          clear pb1 pb2 pb3 hqk hsk hV hPP hxe
          go_wp2_with fail
          go_region
          go_wp2_with fail
          go_roundg fu
          case rel =>
            refine ⟨k, ad, ld, cd, ds, zs.set qk V, by omega, by go_num, rfl, (rd4_set _ RD.out HN6.out).later (Below.refl _ _).drew, ND, by omega, HN6, (HSET.out V).later (Below.refl _ _).drew, (below_set HB6.out (Nat.le_refl _)).drew, HUz.out.set qk V PB3.out, ?_, ?_, ?_, by omega⟩
            · unfold Hid; rw [DD.out, PB2.out]; exact S1.out
            · unfold Hid; rw [DD.out]; exact S2.out
            · unfold Hid; rw [PB2.out]; exact S3.out
          case measure => omega
        · obtain ⟨s1, s2⟩ := st2 hge
          have hc0 : cmpN (dig us) (B0 * 2 ^ k) = -1 := by unfold cmpN; rw [if_pos (by omega)]
          rw [hc0]
          have S1 : Hid _ := s1
          have S2 : Hid _ := s2
          clear s1 s2 st1 st2 hge hc0
          go_wp2_with fail
          go_roundg fu
          case rel =>
            exact ⟨k, ac, la, ca, us, zs, by omega, by go_num, rfl, RA5, NA', hla, HN, HO5, HB5, HUz, HQ, S1, S2, by omega⟩
          case measure => omega
end Go.Proofs.Ytajopgndpomggaa

namespace Go.Proofs.Ytajopgndpomggaa
open Go.RowKit
set_option linter.unusedVariables false

theorem rP_tell (d : Int) (hd : d = 0 ∨ d = 1 ∨ d = 2) (neg rest : Bool) (n D ee h : Nat) (hf : ee = 0 ∨ 4503599627370496 ≤ h / 2)
    (k1 : nearK n D (ee * 4503599627370496 + h / 2) = ee * 4503599627370496 + (h / 2 + (decide (h % 2 = 1) && (rest || decide (h / 2 % 2 = 1))).toNat)) (k2 : upK n D (ee * 4503599627370496 + h / 2) = ee * 4503599627370496 + (h / 2 + (decide (h % 2 = 1) || rest).toNat)) :
    rP d neg rest h ((ee : Int) - 1074) = tellK d neg n D (ee * 4503599627370496 + h / 2) := by
  have hov : (971 : Int) < (ee : Int) - 1074 → infK ≤ ee * 4503599627370496 + h / 2 := by intro h; unfold infK; omega
  unfold rP tellK
  rw [k1, k2, show ((ee : Int) - 1074 + 1074).toNat = ee by omega]
  have hM : (9218868437227405311 : Nat) = infK - 1 := by decide
  have hi : 0 < infK := by decide
  rw [hM]
  generalize infK = I at *
  have hbt : ∀ b : Bool, b.toNat = 0 ∨ b.toNat = 1 := fun b => by cases b <;> simp
  rcases hd with rfl | rfl | rfl
  · have e1 : moreR 0 neg rest h = (decide (h % 2 = 1) && (rest || decide (h / 2 % 2 = 1))) := by unfold moreR; simp
    rw [e1]
    generalize (decide (h % 2 = 1) && (rest || decide (h / 2 % 2 = 1))) = b
    rw [if_pos rfl, Nat.add_assoc]
    by_cases c : ee * 4503599627370496 + (h / 2 + b.toNat) < I
    · rw [if_neg (by omega), if_pos c]
    · rw [if_pos (by omega), if_pos (.inl rfl), if_neg c]
  · rw [if_neg (show ¬ ((1 : Int) = 0) by decide)]
    cases neg
    · have e1 : moreR 1 false rest h = (decide (h % 2 = 1) || rest) := by unfold moreR; simp
      rw [e1, if_pos (show (1 : Int) = 1 ∧ false = false ∨ (1 : Int) = 2 ∧ false = true from .inl ⟨rfl, rfl⟩)]
      generalize (decide (h % 2 = 1) || rest) = b
      rw [Nat.add_assoc]
      by_cases c : ee * 4503599627370496 + (h / 2 + b.toNat) < I
      · rw [if_neg (by omega), if_pos c]
      · rw [if_pos (by omega), if_pos (by simp), if_neg c]
    · have e1 : moreR 1 true rest h = false := by unfold moreR; simp
      rw [e1, if_neg (show ¬ ((1 : Int) = 1 ∧ true = false ∨ (1 : Int) = 2 ∧ true = true) by simp), if_pos (show (1 : Int) = 1 ∨ (1 : Int) = 2 from .inl rfl)]
      by_cases c : ee * 4503599627370496 + h / 2 < I
      · rw [if_neg (by simp only [Bool.toNat_false]; omega), Bool.toNat_false, Nat.add_zero, Nat.min_eq_left (by omega)]
      · rw [if_pos (by simp only [Bool.toNat_false]; omega), if_neg (by simp), Nat.min_eq_right (by omega)]
  · rw [if_neg (show ¬ ((2 : Int) = 0) by decide)]
    cases neg
    · have e1 : moreR 2 false rest h = false := by unfold moreR; simp
      rw [e1, if_neg (show ¬ ((2 : Int) = 1 ∧ false = false ∨ (2 : Int) = 2 ∧ false = true) by simp), if_pos (show (2 : Int) = 1 ∨ (2 : Int) = 2 from .inr rfl)]
      by_cases c : ee * 4503599627370496 + h / 2 < I
      · rw [if_neg (by simp only [Bool.toNat_false]; omega), Bool.toNat_false, Nat.add_zero, Nat.min_eq_left (by omega)]
      · rw [if_pos (by simp only [Bool.toNat_false]; omega), if_neg (by simp), Nat.min_eq_right (by omega)]
    · have e1 : moreR 2 true rest h = (decide (h % 2 = 1) || rest) := by unfold moreR; simp
      rw [e1, if_pos (show (2 : Int) = 1 ∧ true = false ∨ (2 : Int) = 2 ∧ true = true from .inr ⟨rfl, rfl⟩)]
      generalize (decide (h % 2 = 1) || rest) = b
      rw [Nat.add_assoc]
      by_cases c : ee * 4503599627370496 + (h / 2 + b.toNat) < I
      · rw [if_neg (by omega), if_pos c]
      · rw [if_pos (by omega), if_pos (by simp), if_neg c]
/-- Two quotients of one ratio. -/
theorem same_quot {A B Y V : Nat} (hB : 0 < B) (hV : 0 < V) (h : A * V = Y * B) : A / B = Y / V ∧ (A % B = 0 ↔ Y % V = 0) := by
  have e1 : A / B = A * V / (B * V) := (Nat.mul_div_mul_right _ _ hV).symm
  have e2 : Y / V = Y * B / (V * B) := (Nat.mul_div_mul_right _ _ hB).symm
  have e3 : A * V % (B * V) = A % B * V := Nat.mul_mod_mul_right ..
  have e4 : Y * B % (V * B) = Y % V * B := Nat.mul_mod_mul_right ..
  refine ⟨by rw [e1, e2, h, Nat.mul_comm B V], ?_⟩
  rw [h, Nat.mul_comm B V, e4] at e3
  constructor
  · intro h1; rw [h1, Nat.zero_mul] at e3
    rcases Nat.mul_eq_zero.1 e3 with h2 | h2 <;> omega
  · intro h1; rw [h1, Nat.zero_mul] at e3
    rcases Nat.mul_eq_zero.1 e3.symm with h2 | h2 <;> omega
/-- Whether mx 2^ex is below my 2^(ey + k). -/
def ltQ (mx my : Nat) (ex ey k : Int) : Prop := mx * 2 ^ (ex - lowE ex (ey + k)).toNat < my * 2 ^ (ey + k - lowE ex (ey + k)).toNat
theorem ltQ_iff {mx my : Nat} {ex ey k : Int} (s : Nat) (h1 : -(s : Int) ≤ ex) (h2 : -(s : Int) ≤ ey + k) : ltQ mx my ex ey k ↔ mx * 2 ^ (ex + s).toNat < my * 2 ^ (ey + k + s).toNat := by
  unfold ltQ lowE
  have hp := Nat.two_pow_pos (min ex (ey + k) + s).toNat
  have e1 : 2 ^ (ex + s).toNat = 2 ^ (ex - min ex (ey + k)).toNat * 2 ^ (min ex (ey + k) + s).toNat := by rw [← Nat.pow_add]; congr 1; omega
  have e2 : 2 ^ (ey + k + s).toNat = 2 ^ (ey + k - min ex (ey + k)).toNat * 2 ^ (min ex (ey + k) + s).toNat := by rw [← Nat.pow_add]; congr 1; omega
  rw [e1, e2, ← Nat.mul_assoc, ← Nat.mul_assoc]
  exact (Nat.mul_lt_mul_right hp).symm
/-- The first place of a quotient. -/
theorem quo_place {mx my : Nat} {ex ey : Int} (hx : mx ≠ 0) (hy : my ≠ 0) (s : Nat) (hs : -(s : Int) + 5000 ≤ ex ∧ -(s : Int) + 5000 ≤ ey) (hb : bl mx ≤ 60 ∧ bl my ≤ 60) (hd : -3000 ≤ ex - ey ∧ ex - ey ≤ 3000) :
    ¬ ltQ mx my ex ey ((bl mx : Int) + ex - bl my - ey - 1) ∧ ltQ mx my ex ey ((bl mx : Int) + ex - bl my - ey + 1) := by
  have b1 := bl_spec hx
  have b2 := bl_spec hy
  obtain ⟨p, hp⟩ : ∃ p, bl mx = p + 1 := ⟨bl mx - 1, by omega⟩
  obtain ⟨q, hq⟩ : ∃ q, bl my = q + 1 := ⟨bl my - 1, by omega⟩
  rw [hp] at b1 hb ⊢
  rw [hq] at b2 hb ⊢
  simp only [Nat.add_sub_cancel] at b1 b2
  rw [ltQ_iff s (by omega) (by omega), ltQ_iff s (by omega) (by omega)]
  constructor
  · intro h
    have h1 : 2 ^ p * 2 ^ (ex + s).toNat ≤ mx * 2 ^ (ex + s).toNat := Nat.mul_le_mul_right _ b1.1
    have h2 : my * 2 ^ (ey + ((p + 1 : Nat) + ex - (q + 1 : Nat) - ey - 1) + s).toNat < 2 ^ (q + 1) * 2 ^ (ey + ((p + 1 : Nat) + ex - (q + 1 : Nat) - ey - 1) + s).toNat := Nat.mul_lt_mul_of_pos_right b2.2.1 (Nat.two_pow_pos _)
    rw [← Nat.pow_add] at h1 h2
    rw [show q + 1 + (ey + (((p + 1 : Nat) : Int) + ex - ((q + 1 : Nat) : Int) - ey - 1) + s).toNat = p + (ex + s).toNat by omega] at h2
    omega
  · have h1 : mx * 2 ^ (ex + s).toNat < 2 ^ (p + 1) * 2 ^ (ex + s).toNat := Nat.mul_lt_mul_of_pos_right b1.2.1 (Nat.two_pow_pos _)
    have h2 : 2 ^ q * 2 ^ (ey + ((p + 1 : Nat) + ex - (q + 1 : Nat) - ey + 1) + s).toNat ≤ my * 2 ^ (ey + ((p + 1 : Nat) + ex - (q + 1 : Nat) - ey + 1) + s).toNat := Nat.mul_le_mul_right _ b2.1
    rw [← Nat.pow_add] at h1 h2
    rw [show q + (ey + (((p + 1 : Nat) : Int) + ex - ((q + 1 : Nat) : Int) - ey + 1) + s).toNat = p + 1 + (ex + s).toNat by omega] at h2
    omega
/-- What is told of a quotient, by its halves. -/
theorem over_math (d : Int) (hd : d = 0 ∨ d = 1 ∨ d = 2) (neg : Bool) {mx my : Nat} {ex ey k : Int} (hx : mx ≠ 0) (hy : my ≠ 0) (h1 : ¬ ltQ mx my ex ey k) (h2 : ltQ mx my ex ey (k + 1)) (s : Nat) (hs1 : -(s : Int) ≤ ex) (hs2 : -(s : Int) ≤ ey + k) (hs3 : -(s : Int) ≤ ey + (max (k - 52) (-1074) - 1)) :
    let e := max (k - 52) (-1074)
    let lo := lowE ex (ey + (e - 1))
    let A := mx * 2 ^ (ex - lo).toNat
    let B := my * 2 ^ (ey + (e - 1) - lo).toNat
    A / B < 18014398509481984 ∧ (e = -1074 ∨ 4503599627370496 ≤ A / B / 2) ∧ Rnd d neg (mx * 2 ^ (ex - ey + 1074).toNat) (my * 2 ^ (-(ex - ey + 1074)).toNat) (rP d neg (nz (A % B)) (A / B) e) := by
  intro e lo A B
  have hB : 0 < B := Nat.mul_pos (Nat.pos_of_ne_zero hy) (Nat.two_pow_pos _)
  have hlo : lo = min ex (ey + (e - 1)) := rfl
  have he : e = max (k - 52) (-1074) := rfl
  rw [ltQ_iff s hs1 hs2] at h1
  rw [ltQ_iff s hs1 (by omega)] at h2
  have hpl := Nat.two_pow_pos (lo + s).toNat
  have eA : A * 2 ^ (lo + s).toNat = mx * 2 ^ (ex + s).toNat := by
    show mx * _ * _ = _
    rw [Nat.mul_assoc, ← Nat.pow_add]; congr 2; omega
  have eB : ∀ j : Nat, B * 2 ^ j * 2 ^ (lo + s).toNat = my * 2 ^ (ey + (e - 1) + j + s).toNat := by
    intro j
    show my * _ * _ * _ = _
    rw [Nat.mul_assoc, Nat.mul_assoc, ← Nat.pow_add, ← Nat.pow_add]; congr 2; omega
  have hlt : A < B * 2 ^ 54 := by
    refine Nat.lt_of_mul_lt_mul_right (a := 2 ^ (lo + s).toNat) ?_
    rw [eA, eB]
    refine Nat.lt_of_lt_of_le h2 (Nat.mul_le_mul_left _ (Nat.pow_le_pow_right (by omega) (by omega)))
  have hh : A / B < 18014398509481984 := by
    rw [Nat.div_lt_iff_lt_mul hB, Nat.mul_comm, show (18014398509481984 : Nat) = 2 ^ 54 by decide]; exact hlt
  have hform : e = -1074 ∨ 4503599627370496 ≤ A / B / 2 := by
    by_cases hee : e = -1074
    · exact .inl hee
    · right
      have hge : B * 2 ^ 53 ≤ A := by
        refine Nat.le_of_mul_le_mul_right (c := 2 ^ (lo + s).toNat) ?_ hpl
        rw [eA, eB, show ey + (e - 1) + ((53 : Nat) : Int) + s = ey + k + s by omega]
        omega
      have h3 : 2 ^ 53 ≤ A / B := (Nat.le_div_iff_mul_le hB).2 (by rw [Nat.mul_comm]; exact hge)
      have h4 : (2 : Nat) ^ 53 = 9007199254740992 := by decide
      omega
  refine ⟨hh, hform, ?_⟩
  obtain ⟨ee, hee⟩ : ∃ ee : Nat, e = (ee : Int) - 1074 := ⟨(e + 1074).toNat, by omega⟩
  have hD : 0 < my * 2 ^ (-(ex - ey + 1074)).toNat := Nat.mul_pos (Nat.pos_of_ne_zero hy) (Nat.two_pow_pos _)
  have hV : 0 < my * 2 ^ (-(ex - ey + 1074)).toNat * 2 ^ ee := Nat.mul_pos hD (Nat.two_pow_pos _)
  have hsame := same_quot (A := A) (B := B) (Y := 2 * (mx * 2 ^ (ex - ey + 1074).toNat)) (V := my * 2 ^ (-(ex - ey + 1074)).toNat * 2 ^ ee) hB hV (by
    show mx * _ * _ = 2 * _ * (my * _)
    have e1 : mx * 2 ^ (ex - lo).toNat * (my * 2 ^ (-(ex - ey + 1074)).toNat * 2 ^ ee) = mx * my * 2 ^ ((ex - lo).toNat + (-(ex - ey + 1074)).toNat + ee) := by
      rw [Nat.pow_add, Nat.pow_add]; simp only [Nat.mul_comm, Nat.mul_left_comm, Nat.mul_assoc]
    have e2 : 2 * (mx * 2 ^ (ex - ey + 1074).toNat) * (my * 2 ^ (ey + (e - 1) - lo).toNat) = mx * my * 2 ^ (1 + (ex - ey + 1074).toNat + (ey + (e - 1) - lo).toNat) := by
      rw [Nat.pow_add, Nat.pow_add]; simp only [Nat.mul_left_comm, Nat.mul_assoc, Nat.pow_one]
    rw [e1, e2]; congr 2; omega)
  have hq := halves_quot (n := mx * 2 ^ (ex - ey + 1074).toNat) (e := ee) (h := A / B) (rest := nz (A % B)) hD hsame.1 (by unfold nz; rw [bne_iff_ne]; exact not_congr hsame.2) (by omega) hh
  refine ⟨_, hq.1, ?_⟩
  rw [hee]
  exact rP_tell d hd neg _ _ _ ee (A / B) (by omega) hq.2.1 hq.2.2
end Go.Proofs.Ytajopgndpomggaa

namespace Go.Proofs.Ytajopgndpomggaa
open Go.RowKit
set_option linter.unusedVariables false

/-- A variable that holds a number: its block, and what it stands for. -/
structure VarN (W : World) (B : Nat) (n : Bool) (a : Option Addr) (l c : Nat) (e : Int) (m : Nat) : Prop where
  heap : W.heap[B]? = some (.cells #[.bool n, .slice a l c, .int .i64 e] 27)
  num : NumV W (.agg #[.bool n, .slice a l c, .int .i64 e]) n m e
theorem heap_lt {W : World} {B : Nat} {o : Obj} (h : W.heap[B]? = some o) : B < W.heap.size := by
  rcases Nat.lt_or_ge B W.heap.size with h1 | h1
  · exact h1
  · rw [Array.getElem?_eq_none h1] at h; cases h
theorem VarN.lt {W : World} {B : Nat} {n : Bool} {a : Option Addr} {l c : Nat} {e : Int} {m : Nat} (h : VarN W B n a l c e m) : B < W.heap.size := by
  rcases Nat.lt_or_ge B W.heap.size with h1 | h1
  · exact h1
  · have := h.heap; rw [Array.getElem?_eq_none h1] at this; cases this
theorem VarN.later {W W' : World} {B : Nat} {n : Bool} {a : Option Addr} {l c : Nat} {e : Int} {m : Nat} (h : VarN W B n a l c e m) (hb : Below W.heap.size W W') : VarN W' B n a l c e m :=
  ⟨(hb.block B h.lt).trans h.heap, h.num.later hb⟩
theorem VarN.alloc {W : World} {B : Nat} {n : Bool} {a : Option Addr} {l c : Nat} {e : Int} {m : Nat} (h : VarN W B n a l c e m) (o : Obj) : VarN (W.alloc o) B n a l c e m := h.later ((Below.refl _ _).alloc (Nat.le_refl _) o)
theorem VarN.new {W : World} {n : Bool} {a : Option Addr} {l c : Nat} {e : Int} {m : Nat} (h : NumV W (.agg #[.bool n, .slice a l c, .int .i64 e]) n m e) : VarN (W.alloc (.cells #[.bool n, .slice a l c, .int .i64 e] 27)) W.heap.size n a l c e m :=
  ⟨heap_alloc_new W _, h.later ((Below.refl _ _).alloc (Nat.le_refl _) _)⟩
theorem VarN.cells {W : World} {B : Nat} {n : Bool} {a : Option Addr} {l c : Nat} {e : Int} {m : Nat} (h : VarN W B n a l c e m) : W.cell? ⟨B, 0, none⟩ = some (.bool n) ∧ W.cell? ⟨B, 1, none⟩ = some (.slice a l c) ∧ W.cell? ⟨B, 2, none⟩ = some (.int .i64 e) := three_cells h.heap
theorem VarN.rd {W : World} {B : Nat} {n : Bool} {a : Option Addr} {l c : Nat} {e : Int} {m : Nat} (h : VarN W B n a l c e m) : ∃ xs, Rd4 W a l c xs ∧ Nm xs ∧ dig xs = m := by
  obtain ⟨a', l', c', xs, h1, h2, h3, h4⟩ := h.num
  simp only [Value.agg.injEq, Array.mk.injEq, List.cons.injEq, Value.slice.injEq, true_and, and_true] at h1
  obtain ⟨rfl, rfl, rfl⟩ := h1
  exact ⟨xs, h2, h3, h4⟩
theorem VarN.set3 {W : World} {g B : Nat} {n : Bool} {a : Option Addr} {l c : Nat} {e : Int} {m : Nat} (x y z : Value) (hg : NumB W g) (h : VarN W B n a l c e m) (hne : B ≠ g) : VarN (((W.setCell ⟨g, 0, none⟩ x).setCell ⟨g, 1, none⟩ y).setCell ⟨g, 2, none⟩ z) B n a l c e m := by
  refine ⟨?_, ?_⟩
  · rw [heap_setCell_other _ _ _ _ hne, heap_setCell_other _ _ _ _ hne, heap_setCell_other _ _ _ _ hne]; exact h.heap
  · obtain ⟨a', l', c', xs, h1, h2, h3, h4⟩ := h.num
    exact ⟨a', l', c', xs, h1, rd4_set3 x y z hg h2, h3, h4⟩
theorem VarN.own3 {W : World} {g : Nat} {n : Bool} {a : Option Addr} {l c : Nat} {e : Int} {m : Nat} {x y z : Value} (hg : NumB W g) (ho : W.heap[g]? = some (.cells #[x, y, z] 27)) (h : NumV W (.agg #[.bool n, .slice a l c, .int .i64 e]) n m e) : VarN (((W.setCell ⟨g, 0, none⟩ (.bool n)).setCell ⟨g, 1, none⟩ (.slice a l c)).setCell ⟨g, 2, none⟩ (.int .i64 e)) g n a l c e m := by
  refine ⟨set3_heap _ _ _ ho, ?_⟩
  obtain ⟨a', l', c', xs, h1, h2, h3, h4⟩ := h
  exact ⟨a', l', c', xs, h1, rd4_set3 _ _ _ hg h2, h3, h4⟩
theorem NumV.zed {w : World} {v : Value} {m : Nat} {e : Int} (h : NumV w v false m e) (s : Nat) (T : Int) (h1 : -(s : Int) ≤ e) (h2 : (bl m : Int) + e ≤ T) : NumZ w v s T ((m * 2 ^ (e + s).toNat : Nat) : Int) :=
  ⟨false, m, e, h, h1, h2, by unfold zv sv; simp only [Bool.false_eq_true, if_false]; rw [Int.natCast_mul]⟩
def OverRes (d : Int) (neg : Bool) (mx my : Nat) (t : Int) (w : World) (e' : Ending) (w' : World) : Prop := ∃ (a : Nat) (b : Bool), e' = .returned (.tuple #[.int .u64 (a : Int), .bool b]) ∧ (my ≠ 0 → Rnd d neg (mx * 2 ^ t.toNat) (my * 2 ^ (-t).toNat) (a, b)) ∧ (my = 0 → (a, b) = (0, false)) ∧ Below w.heap.size w w'
set_option maxRecDepth 100000 in
set_option maxHeartbeats 2000000 in
theorem over_any (d : Int) (v u : Value) (nx ny : Bool) (mx my : Nat) (ex ey : Int) (w : World) (hx : NumV w v nx mx ex) (hy : NumV w u ny my ey) (hex : -1074 ≤ ex ∧ ex ≤ 971) (hey : -1074 ≤ ey ∧ ey ≤ 971) (hbx : bl mx ≤ 53) (hby : bl my ≤ 53) (hd0 : -9223372036854775808 ≤ d) (hd1 : d ≤ 9223372036854775807) :
    Calls Try.prog 64 #[.int .i64 d, v, u] w fun e' w' => OverRes d (nx != ny) mx my (ex - ey + 1074) w e' w' := by
  have HXV : Hid (NumV w v nx mx ex) := hx
  have HYV : Hid (NumV w u ny my ey) := hy
  obtain ⟨ao, len, cap, xs, rfl, hr, hnm, hm⟩ := hx
  obtain ⟨bo, blen, bcap, ys, rfl, hr2, hnm2, hm2⟩ := hy
  have lz1 := len_zero hr.length hr.lt hnm
  have lz2 := len_zero hr2.length hr2.lt hnm2
  rw [hm] at lz1
  rw [hm2] at lz2
  obtain ⟨p0, p1, pz, pb⟩ := alloc2_facts w (Obj.cells #[Value.bool nx, Value.slice ao len cap, Value.int IntKind.i64 ex] 27) (Obj.cells #[Value.bool ny, Value.slice bo blen bcap, Value.int IntKind.i64 ey] 27)
  have P0 : Hid _ := p0
  have P1 : Hid _ := p1
  have PZ : Hid _ := pz
  have PB : Hid _ := pb
  clear hr hr2 hnm hnm2 hm hm2 p0 p1 pz pb
  have hD : 0 < my * 2 ^ (-(ex - ey + 1074)).toNat ∨ my = 0 := by
    rcases Nat.eq_zero_or_pos my with h | h
    · exact .inr h
    · exact .inl (Nat.mul_pos h (Nat.two_pow_pos _))
  by_cases hd : d = 0 ∨ d = 1 ∨ d = 2
  case neg =>
    have HN : Hid (my ≠ 0 → Rnd d (nx != ny) (mx * 2 ^ (ex - ey + 1074).toNat) (my * 2 ^ (-(ex - ey + 1074)).toNat) (0, false)) := fun h => rnd_none d _ _ _ (by omega) hd
    clear lz1 lz2 hD
    by_cases hneg : d < 0
    · clear hd
      go_enter Try.func64, Try.ntmps64
      go_wp2_with fail
      go_ret2
      exact ⟨0, false, rfl, HN.out, fun _ => rfl, (by first | exact PB.out | exact PB.out.drew)⟩
    · have hgt : 2 < d := by omega
      clear hd
      go_enter Try.func64, Try.ntmps64
      go_wp2_with fail
      go_ret2
      exact ⟨0, false, rfl, HN.out, fun _ => rfl, (by first | exact PB.out | exact PB.out.drew)⟩
  case pos =>
    have hda : ¬ (d < 0) := by omega
    have hdc : ¬ (2 < d) := by omega
    have hdb0 : 0 ≤ d := by omega
    have hdb2 : d ≤ 2 := by omega
    by_cases hy0 : my = 0
    · have hl0 : blen = 0 := lz2.2 hy0
      subst hl0
      have HD : Hid (d = 0 ∨ d = 1 ∨ d = 2) := hd
      have HY0 : Hid (my = 0) := hy0
      clear lz1 lz2 hD hd hy0
      go_enter Try.func64, Try.ntmps64
      go_wp2_with fail
      go_ret2
      exact ⟨0, false, rfl, fun h => absurd HY0.out h, fun _ => rfl, (by first | exact PB.out | exact PB.out.drew)⟩
    have hlb : ((blen : Int) == 0) = false := by rw [beq_eq_false_iff_ne]; omega
    by_cases hx0 : mx = 0
    · have hl0 : len = 0 := lz1.2 hx0
      subst hl0
      have HN : Hid (Rnd d (nx != ny) (mx * 2 ^ (ex - ey + 1074).toNat) (my * 2 ^ (-(ex - ey + 1074)).toNat) (0, true)) := by
        unfold Hid; rw [hx0, Nat.zero_mul]; exact rnd_nought d _ _ (by omega) hd
      have HY0 : Hid (my ≠ 0) := hy0
      clear lz1 lz2 hD hd hy0 hx0
      go_enter Try.func64, Try.ntmps64
      go_wp2_with fail
      go_ret2
      exact ⟨0, true, rfl, fun _ => HN.out, fun h => absurd h HY0.out, (by first | exact PB.out | exact PB.out.drew)⟩
    have hla : ((len : Int) == 0) = false := by rw [beq_eq_false_iff_ne]; omega
    have HD : Hid (d = 0 ∨ d = 1 ∨ d = 2) := hd
    have HX0 : Hid (mx ≠ 0) := hx0
    have HY0 : Hid (my ≠ 0) := hy0
    clear lz1 lz2 hD hd
    go_enter Try.func64, Try.ntmps64
    go_wp2_with fail
    refine (size_any _ nx mx ex _ (NumV.later HXV.out PB.out)).mono ?_
    rintro e3 w3 ⟨v3, rfl, hn3, hb3⟩
    have N3 : Hid (NumV w3 v3 false mx ex) := hn3
    obtain ⟨sa, sl, sc, sxs, rfl, -⟩ := hn3
    have XX3 : Hid (VarN w3 w.heap.size nx ao len cap ex mx) := (VarN.mk P0.out (NumV.later HXV.out PB.out)).later hb3
    have YY3 : Hid (VarN w3 (w.heap.size + 1) ny bo blen bcap ey my) := (VarN.mk P1.out (NumV.later HYV.out PB.out)).later hb3
    have HB3 : Hid (Below w.heap.size w w3) := PB.out.trans (hb3.mono (by rw [PZ.out]; omega))
    have AA4 : Hid (VarN (w3.alloc (Obj.cells #[Value.bool false, Value.slice sa sl sc, Value.int IntKind.i64 ex] 27)) w3.heap.size false sa sl sc ex mx) := VarN.new N3.out
    have XX4 : Hid (VarN (w3.alloc (Obj.cells #[Value.bool false, Value.slice sa sl sc, Value.int IntKind.i64 ex] 27)) w.heap.size nx ao len cap ex mx) := XX3.out.alloc _
    have YY4 : Hid (VarN (w3.alloc (Obj.cells #[Value.bool false, Value.slice sa sl sc, Value.int IntKind.i64 ex] 27)) (w.heap.size + 1) ny bo blen bcap ey my) := YY3.out.alloc _
    have HB4 : Hid (Below w.heap.size w (w3.alloc (Obj.cells #[Value.bool false, Value.slice sa sl sc, Value.int IntKind.i64 ex] 27))) := HB3.out.alloc HB3.out.size _
    clear hb3 P0 P1 PZ PB HXV HYV
    obtain ⟨y0, y1, y2⟩ := YY4.out.cells
    go_wp2_with fail
    refine (size_any _ ny my ey _ YY4.out.num).mono ?_
    rintro e5 w5 ⟨v5, rfl, hn5, hb5⟩
    have N5 : Hid (NumV w5 v5 false my ey) := hn5
    obtain ⟨ta, tl, tc, txs, rfl, -⟩ := hn5
    clear y0 y1 y2
    have HB5 : Hid (Below w.heap.size w w5) := HB4.out.trans (hb5.mono HB4.out.size)
    have AA6 : Hid (VarN (w5.alloc (Obj.cells #[Value.bool false, Value.slice ta tl tc, Value.int IntKind.i64 ey] 27)) w3.heap.size false sa sl sc ex mx) := (AA4.out.later hb5).alloc _
    have XX6 : Hid (VarN (w5.alloc (Obj.cells #[Value.bool false, Value.slice ta tl tc, Value.int IntKind.i64 ey] 27)) w.heap.size nx ao len cap ex mx) := (XX4.out.later hb5).alloc _
    have YY6 : Hid (VarN (w5.alloc (Obj.cells #[Value.bool false, Value.slice ta tl tc, Value.int IntKind.i64 ey] 27)) (w.heap.size + 1) ny bo blen bcap ey my) := (YY4.out.later hb5).alloc _
    have BB6 : Hid (VarN (w5.alloc (Obj.cells #[Value.bool false, Value.slice ta tl tc, Value.int IntKind.i64 ey] 27)) w5.heap.size false ta tl tc ey my) := VarN.new N5.out
    have HB6 : Hid (Below w.heap.size w (w5.alloc (Obj.cells #[Value.bool false, Value.slice ta tl tc, Value.int IntKind.i64 ey] 27))) := HB5.out.alloc HB5.out.size _
    clear hb5 N3 N5 XX3 YY3 HB3 AA4 XX4 YY4 HB4 HB5
    obtain ⟨a0, a1, a2⟩ := AA6.out.cells
    obtain ⟨b0, b1, b2⟩ := BB6.out.cells
    obtain ⟨x0, x1, x2⟩ := XX6.out.cells
    obtain ⟨y0, y1, y2⟩ := YY6.out.cells
    go_wp2_with fail
    generalize w5.alloc (Obj.cells #[Value.bool false, Value.slice ta tl tc, Value.int IntKind.i64 ey] 27) = W at *
    have hrf : Below W.heap.size W W.drew := (Below.refl _ _).drew
    have AA7 : Hid (VarN W.drew w3.heap.size false sa sl sc ex mx) := AA6.out.later hrf
    have BB7 : Hid (VarN W.drew w5.heap.size false ta tl tc ey my) := BB6.out.later hrf
    have XX7 : Hid (VarN W.drew w.heap.size nx ao len cap ex mx) := XX6.out.later hrf
    have YY7 : Hid (VarN W.drew (w.heap.size + 1) ny bo blen bcap ey my) := YY6.out.later hrf
    have HB7 : Hid (Below w.heap.size w W.drew) := HB6.out.trans (hrf.mono HB6.out.size)
    obtain ⟨sxs', sR, sN, sD⟩ := AA7.out.rd
    obtain ⟨txs', tR, tN, tD⟩ := BB7.out.rd
    have SR : Hid _ := sR
    have TR : Hid _ := tR
    have SN : Hid _ := sN
    have TN : Hid _ := tN
    have hw1 : IntKind.i64.wrap ((bl mx : Int) + ex) = (bl mx : Int) + ex := by rw [IntKind.wrap_i64]; omega
    have hw2 : IntKind.i64.wrap ((bl mx : Int) + ex - (bl my : Int)) = (bl mx : Int) + ex - (bl my : Int) := by rw [IntKind.wrap_i64]; omega
    obtain ⟨K0, hK0⟩ : ∃ K, (bl mx : Int) + ex - (bl my : Int) - ey = K := ⟨_, rfl⟩
    have hw3 : IntKind.i64.wrap ((bl mx : Int) + ex - (bl my : Int) - ey) = K0 := by rw [hK0, IntKind.wrap_i64]; omega
    have HK0 : Hid ((bl mx : Int) + ex - (bl my : Int) - ey = K0) := hK0
    have hKb : -2200 ≤ K0 ∧ K0 ≤ 2200 := by omega
    have HPL : Hid (¬ ltQ mx my ex ey (K0 - 1) ∧ ltQ mx my ex ey (K0 + 1)) := by
      unfold Hid; rw [← hK0]; exact quo_place HX0.out HY0.out 6100 (by omega) (by omega) (by omega)
    clear sR tR sN tN hrf hK0
    go_region_held3 (fun w' => w'.cell? ⟨w3.heap.size, 0, none⟩ = some (.bool false) ∧ w'.cell? ⟨w3.heap.size, 1, none⟩ = some (.slice sa sl sc) ∧ w'.cell? ⟨w3.heap.size, 2, none⟩ = some (.int .i64 ex) ∧ w'.cell? ⟨w5.heap.size, 0, none⟩ = some (.bool false) ∧ w'.cell? ⟨w5.heap.size, 1, none⟩ = some (.slice ta tl tc) ∧ w'.cell? ⟨w5.heap.size, 2, none⟩ = some (.int .i64 ey)) (go_keep)
      (first
        | (go_at_call_of 77 (Value.slice sa sl sc); refine (length_any sa sl sc sxs' _ SR.out SN.out).mono ?_; rintro ee ww ⟨rfl, hww⟩; rw [hww, sD]; clear hww)
        | (go_at_call_of 77 (Value.slice ta tl tc); refine (length_any ta tl tc txs' _ TR.out TN.out).mono ?_; rintro ee ww ⟨rfl, hww⟩; rw [hww, tD]; clear hww))
    go_wp2_with fail
    have hrf : Below W.drew.heap.size W.drew W.drew.drew := (Below.refl _ _).drew
    have AA8 : Hid (VarN W.drew.drew w3.heap.size false sa sl sc ex mx) := AA7.out.later hrf
    have BB8 : Hid (VarN W.drew.drew w5.heap.size false ta tl tc ey my) := BB7.out.later hrf
    have XX8 : Hid (VarN W.drew.drew w.heap.size nx ao len cap ex mx) := XX7.out.later hrf
    have YY8 : Hid (VarN W.drew.drew (w.heap.size + 1) ny bo blen bcap ey my) := YY7.out.later hrf
    have HB8 : Hid (Below w.heap.size w W.drew.drew) := HB7.out.trans (hrf.mono HB7.out.size)
    clear hrf
    obtain ⟨s, hs⟩ : ∃ s : Nat, s = 6100 := ⟨_, rfl⟩
    obtain ⟨g, hg⟩ : ∃ g, sgi (((mx * 2 ^ (ex + s).toNat : Nat) : Int) - ((my * 2 ^ (ey + K0 + s).toNat : Nat) : Int)) = g := ⟨_, rfl⟩
    have HG : Hid (sgi (((mx * 2 ^ (ex + s).toNat : Nat) : Int) - ((my * 2 ^ (ey + K0 + s).toNat : Nat) : Int)) = g) := hg
    have HGL : Hid (g < 0 ↔ ltQ mx my ex ey K0) := by
      unfold Hid; rw [ltQ_iff s (by omega) (by omega), ← hg]; unfold sgi
      constructor
      · intro h; split at h <;> (try split at h) <;> omega
      · intro h; rw [if_pos (by omega)]; decide
    clear hg
    go_region_held3 (fun w' => w'.cell? ⟨w3.heap.size, 0, none⟩ = some (.bool false) ∧ w'.cell? ⟨w3.heap.size, 1, none⟩ = some (.slice sa sl sc) ∧ w'.cell? ⟨w3.heap.size, 2, none⟩ = some (.int .i64 ex) ∧ w'.cell? ⟨w5.heap.size, 0, none⟩ = some (.bool false) ∧ w'.cell? ⟨w5.heap.size, 1, none⟩ = some (.slice ta tl tc) ∧ w'.cell? ⟨w5.heap.size, 2, none⟩ = some (.int .i64 ey)) (go_keep)
      (first
        | (go_at_call 44; refine (moved_any _ false my ey K0 (by omega) (by omega) _ BB8.out.num).mono ?_; rintro e9 w9 ⟨v9, rfl, hn9, hb9⟩; rw [if_neg HY0.out] at hn9; have AA9 : Hid (VarN w9 w3.heap.size false sa sl sc ex mx) := AA8.out.later hb9; obtain ⟨aa90, aa91, aa92⟩ := AA9.out.cells; have BB9 : Hid (VarN w9 w5.heap.size false ta tl tc ey my) := BB8.out.later hb9; obtain ⟨bb90, bb91, bb92⟩ := BB9.out.cells; have XX9 : Hid (VarN w9 w.heap.size nx ao len cap ex mx) := XX8.out.later hb9; obtain ⟨xx90, xx91, xx92⟩ := XX9.out.cells; have YY9 : Hid (VarN w9 (w.heap.size + 1) ny bo blen bcap ey my) := YY8.out.later hb9; obtain ⟨yy90, yy91, yy92⟩ := YY9.out.cells; have HB9 : Hid (Below w.heap.size w w9) := HB8.out.trans (hb9.mono HB8.out.size); have N9 : Hid (NumV w9 v9 false my (ey + K0)) := hn9; clear hn9 hb9)
        | (go_at_call 15; refine (cmpZ_any _ _ s 6100 _ _ _ (NumV.zed AA9.out.num s 6100 (by omega) (by omega)) (NumV.zed N9.out s 6100 (by omega) (by omega)) (by omega) (by omega)).mono ?_; rintro ep wp ⟨rfl, hbp⟩; have AAp : Hid (VarN wp w3.heap.size false sa sl sc ex mx) := AA9.out.later hbp; obtain ⟨aap0, aap1, aap2⟩ := AAp.out.cells; have BBp : Hid (VarN wp w5.heap.size false ta tl tc ey my) := BB9.out.later hbp; obtain ⟨bbp0, bbp1, bbp2⟩ := BBp.out.cells; have XXp : Hid (VarN wp w.heap.size nx ao len cap ex mx) := XX9.out.later hbp; obtain ⟨xxp0, xxp1, xxp2⟩ := XXp.out.cells; have YYp : Hid (VarN wp (w.heap.size + 1) ny bo blen bcap ey my) := YY9.out.later hbp; obtain ⟨yyp0, yyp1, yyp2⟩ := YYp.out.cells; have HBp : Hid (Below w.heap.size w wp) := HB9.out.trans (hbp.mono HB9.out.size); rw [HG.out]; clear hbp))
    obtain ⟨kk, hkk⟩ : ∃ kk, (if g < 0 then K0 - 1 else K0) = kk := ⟨_, rfl⟩
    have HKL : Hid (¬ ltQ mx my ex ey kk ∧ ltQ mx my ex ey (kk + 1)) := by
      unfold Hid; rw [← hkk]
      by_cases h : g < 0
      · rw [if_pos h]; exact ⟨HPL.out.1, by rw [show K0 - 1 + 1 = K0 by omega]; exact HGL.out.1 h⟩
      · rw [if_neg h]; exact ⟨fun c => h (HGL.out.2 c), HPL.out.2⟩
    have hkb : -2201 ≤ kk ∧ kk ≤ 2200 := by rw [← hkk]; split <;> omega
    clear HPL HGL HG AA6 AA7 AA8 AA9 BB6 BB7 BB8 BB9 XX6 XX7 XX8 XX9 YY6 YY7 YY8 YY9 HB6 HB7 HB8 HB9 N9 SR TR SN TN sD tD
    clear aa90 aa91 aa92 bb90 bb91 bb92 xx90 xx91 xx92 yy90 yy91 yy92
    have hE1 : -1074 ≤ max (kk - 52) (-1074) ∧ max (kk - 52) (-1074) ≤ 2200 := by omega
    obtain ⟨E, hE⟩ : ∃ E, max (kk - 52) (-1074) = E := ⟨_, rfl⟩
    have hEf : (if -1074 ≤ kk - 52 then kk - 52 else -1074) = E := by rw [← hE]; omega
    have HE : Hid (max (kk - 52) (-1074) = E) := hE
    have hEb : -1074 ≤ E ∧ E ≤ 2200 := by omega
    clear hE hE1
    have hM := over_math d HD.out (nx != ny) HX0.out HY0.out HKL.out.1 HKL.out.2 s (by omega) (by omega) (by omega)
    simp only [HE.out] at hM
    have HMATH : Hid _ := hM
    clear hM
    have hE1w : IntKind.i64.wrap (E - 1) = E - 1 := by rw [IntKind.wrap_i64]; omega
    have np1 : wp.heap.size ≠ w3.heap.size := Nat.ne_of_gt AAp.out.lt
    have np2 : wp.heap.size ≠ w5.heap.size := Nat.ne_of_gt BBp.out.lt
    by_cases hgl : g < 0 <;> by_cases hmx : -1074 ≤ kk - 52
    · rw [if_pos hgl] at hkk
      rw [if_pos hmx] at hEf
      subst hkk
      have HEF : Hid _ := hEf
      clear hEf
      go_wp2_with fail
      all_goals (try (exfalso; omega))
      rw [HEF.out]
      have hrf : Below wp.heap.size wp wp.drew := (Below.refl _ _).drew
      have AAq : Hid (VarN wp.drew w3.heap.size false sa sl sc ex mx) := AAp.out.later hrf
      have BBq : Hid (VarN wp.drew w5.heap.size false ta tl tc ey my) := BBp.out.later hrf
      have XXq : Hid (VarN wp.drew w.heap.size nx ao len cap ex mx) := XXp.out.later hrf
      have YYq : Hid (VarN wp.drew (w.heap.size + 1) ny bo blen bcap ey my) := YYp.out.later hrf
      have HBq : Hid (Below w.heap.size w wp.drew) := HBp.out.trans (hrf.mono HBp.out.size)
      clear hrf
      go_region_held3 (fun w' => w'.cell? ⟨w3.heap.size, 0, none⟩ = some (.bool false) ∧ w'.cell? ⟨w3.heap.size, 1, none⟩ = some (.slice sa sl sc) ∧ w'.cell? ⟨w3.heap.size, 2, none⟩ = some (.int .i64 ex) ∧ w'.cell? ⟨w5.heap.size, 0, none⟩ = some (.bool false) ∧ w'.cell? ⟨w5.heap.size, 1, none⟩ = some (.slice ta tl tc) ∧ w'.cell? ⟨w5.heap.size, 2, none⟩ = some (.int .i64 ey)) (go_keep)
        (first
          | (go_at_call 44; go_must (refine (moved_any _ false my ey (E - 1) (by omega) (by omega) _ (by first | exact BBq.out.num | exact (BBq.out.alloc _).num)).mono ?_; rintro em wm ⟨vm, rfl, hnm, hbm⟩; rw [if_neg HY0.out] at hnm; have AAm : Hid (VarN wm w3.heap.size false sa sl sc ex mx) := (by first | exact AAq.out.later hbm | exact (AAq.out.alloc _).later hbm); obtain ⟨aam0, aam1, aam2⟩ := AAm.out.cells; have BBm : Hid (VarN wm w5.heap.size false ta tl tc ey my) := (by first | exact BBq.out.later hbm | exact (BBq.out.alloc _).later hbm); obtain ⟨bbm0, bbm1, bbm2⟩ := BBm.out.cells; have XXm : Hid (VarN wm w.heap.size nx ao len cap ex mx) := (by first | exact XXq.out.later hbm | exact (XXq.out.alloc _).later hbm); obtain ⟨xxm0, xxm1, xxm2⟩ := XXm.out.cells; have YYm : Hid (VarN wm (w.heap.size + 1) ny bo blen bcap ey my) := (by first | exact YYq.out.later hbm | exact (YYq.out.alloc _).later hbm); obtain ⟨yym0, yym1, yym2⟩ := YYm.out.cells; have HBm : Hid (Below w.heap.size w wm) := (by first | exact HBq.out.trans (hbm.mono HBq.out.size) | exact (HBq.out.alloc HBq.out.size _).trans (hbm.mono (Nat.le_trans HBq.out.size (by simp)))); have nm1 : wm.heap.size ≠ w3.heap.size := Nat.ne_of_gt AAm.out.lt; have nm2 : wm.heap.size ≠ w5.heap.size := Nat.ne_of_gt BBm.out.lt; have NM : Hid (NumV wm vm false my (ey + (E - 1))) := hnm; (try (have HZ1 : Hid (wm.heap[wp.heap.size]? = some (Obj.cells #[Value.bool false, Value.slice none 0 0, Value.int IntKind.i64 0] 27)) := (hbm.block wp.heap.size (by simp)).trans (heap_alloc_new _ _))); clear hnm hbm))
          | (go_at_call 87; go_must (refine (part_any _ _ false false mx my ex (ey + (E - 1)) _ (by first | exact AAm.out.num | exact (AAm.out.alloc _).num) (by first | exact NM.out | exact NumV.later NM.out ((Below.refl _ _).alloc (Nat.le_refl _) _)) (by omega) (by omega) (by omega) (by omega) HX0.out HY0.out).mono ?_; rintro en wn ⟨vn, rfl, hvn, hbn⟩; have AAn : Hid (VarN wn w3.heap.size false sa sl sc ex mx) := (by first | exact AAm.out.later hbn | exact (AAm.out.alloc _).later hbn); obtain ⟨aan0, aan1, aan2⟩ := AAn.out.cells; have BBn : Hid (VarN wn w5.heap.size false ta tl tc ey my) := (by first | exact BBm.out.later hbn | exact (BBm.out.alloc _).later hbn); obtain ⟨bbn0, bbn1, bbn2⟩ := BBn.out.cells; have XXn : Hid (VarN wn w.heap.size nx ao len cap ex mx) := (by first | exact XXm.out.later hbn | exact (XXm.out.alloc _).later hbn); obtain ⟨xxn0, xxn1, xxn2⟩ := XXn.out.cells; have YYn : Hid (VarN wn (w.heap.size + 1) ny bo blen bcap ey my) := (by first | exact YYm.out.later hbn | exact (YYm.out.alloc _).later hbn); obtain ⟨yyn0, yyn1, yyn2⟩ := YYn.out.cells; have HBn : Hid (Below w.heap.size w wn) := (by first | exact HBm.out.trans (hbn.mono HBm.out.size) | exact (HBm.out.alloc HBm.out.size _).trans (hbn.mono (Nat.le_trans HBm.out.size (by simp)))); have nn1 : wn.heap.size ≠ w3.heap.size := Nat.ne_of_gt AAn.out.lt; have nn2 : wn.heap.size ≠ w5.heap.size := Nat.ne_of_gt BBn.out.lt; have NV : Hid (NumV wn vn false _ 0) := hvn; obtain ⟨ha, hl, hc, hxs, rfl, -⟩ := hvn; (try (have HZ2 : Hid (wn.heap[wp.heap.size]? = some (Obj.cells #[Value.bool false, Value.slice none 0 0, Value.int IntKind.i64 0] 27)) := (hbn.block wp.heap.size (heap_lt HZ1.out)).trans HZ1.out; obtain ⟨z0, z1, z2⟩ := three_cells HZ2.out; have fz := (fun j => frozen_of_row _ _ j _ _ HZ2.out))); (try (have HZ3 : Hid (wn.heap[wm.heap.size]? = some (Obj.cells #[Value.bool false, Value.slice none 0 0, Value.int IntKind.i64 0] 27)) := (hbn.block wm.heap.size (by simp)).trans (heap_alloc_new _ _); obtain ⟨z0, z1, z2⟩ := three_cells HZ3.out; have fz := (fun j => frozen_of_row _ _ j _ _ HZ3.out))); clear hbn)))
      · have HH1 : Hid (VarN (wn.alloc (Obj.cells #[Value.bool false, Value.slice ha hl hc, Value.int IntKind.i64 0] 27)) wn.heap.size false ha hl hc 0 _) := VarN.new NV.out
        have XX1 : Hid (VarN (wn.alloc (Obj.cells #[Value.bool false, Value.slice ha hl hc, Value.int IntKind.i64 0] 27)) w.heap.size nx ao len cap ex mx) := XXn.out.alloc _
        have YY1 : Hid (VarN (wn.alloc (Obj.cells #[Value.bool false, Value.slice ha hl hc, Value.int IntKind.i64 0] 27)) (w.heap.size + 1) ny bo blen bcap ey my) := YYn.out.alloc _
        have HB1 : Hid (Below w.heap.size w (wn.alloc (Obj.cells #[Value.bool false, Value.slice ha hl hc, Value.int IntKind.i64 0] 27))) := HBn.out.alloc HBn.out.size _
        have hne1 : wn.heap.size ≠ w.heap.size := Nat.ne_of_gt XXn.out.lt
        clear aap0 aap1 aap2 bbp0 bbp1 bbp2 xxp0 xxp1 xxp2 yyp0 yyp1 yyp2 aam0 aam1 aam2 bbm0 bbm1 bbm2 xxm0 xxm1 xxm2 yym0 yym1 yym2 aan0 aan1 aan2 bbn0 bbn1 bbn2 xxn0 xxn1 xxn2 yyn0 yyn1 yyn2
        clear nm1 nm2 nn1 nn2 np1 np2 AAp AAq AAm AAn BBp BBq BBm BBn XXp XXq XXm YYp YYq YYm HBp HBq HBm
        generalize (wn.alloc (Obj.cells #[Value.bool false, Value.slice ha hl hc, Value.int IntKind.i64 0] 27)) = W1 at *
        obtain ⟨h0, h1, h2⟩ := HH1.out.cells
        obtain ⟨u0, u1, u2⟩ := XX1.out.cells
        obtain ⟨v0, v1, v2⟩ := YY1.out.cells
        clear h0 h2 u1 u2 v1 v2
        obtain ⟨zs, hr3, hnm3, hm3⟩ := HH1.out.rd
        have hl3 : hl ≤ 2 := two_words hr3.length hr3.lt hnm3 hm3 HMATH.out.1
        have HR3 : Hid _ := hr3
        have HM3 : Hid _ := hm3
        clear hr3 hm3 hnm3
        go_wp2_with fail
        obtain ⟨Q, hQ⟩ : ∃ Q, mx * 2 ^ (ex - lowE ex (ey + (E - 1))).toNat / (my * 2 ^ (ey + (E - 1) - lowE ex (ey + (E - 1))).toNat) = Q := ⟨_, rfl⟩
        obtain ⟨R, hR⟩ : ∃ R, nz (mx * 2 ^ (ex - lowE ex (ey + (E - 1))).toNat % (my * 2 ^ (ey + (E - 1) - lowE ex (ey + (E - 1))).toNat)) = R := ⟨_, rfl⟩
        rw [hR]
        rw [hQ] at HM3
        have hM2 := HMATH.out
        rw [hQ, hR] at hM2
        have WC : ∀ W, Below W1.heap.size W1 W → Calls Try.prog 80 #[.slice ha hl hc] W fun e' w' => e' = .returned (.int .u64 ((Q : Nat) : Int)) ∧ w' = W := fun W hW => by
          have := word_any ha hl hc zs W (HR3.out.later hW) hl3
          rw [HM3.out] at this
          exact this
        have TC : ∀ W, Calls Try.prog 79 #[.int .i64 d, .bool (nx != ny), .int .u64 ((Q : Nat) : Int), .bool R, .int .i64 E] W fun e' w' => e' = .returned (.tuple #[.int .u64 ((rP d (nx != ny) R Q E).1 : Int), .bool (rP d (nx != ny) R Q E).2]) ∧ w' = W :=
          fun W => rtold_any d (nx != ny) R Q E HD.out hM2.1 (by omega) hM2.2.1 W _ rfl
        have HRN : Hid _ := hM2.2.2
        clear HMATH hM2 hl3 HH1 HR3 HM3 NV hQ hR
        generalize rP d (nx != ny) R Q E = pp at *
        obtain ⟨pa, pb⟩ := pp
        simp only at TC
        go_region_held3 (fun w' => w'.cell? ⟨w.heap.size, 0, none⟩ = some (.bool nx) ∧ w'.cell? ⟨w.heap.size + 1, 0, none⟩ = some (.bool ny) ∧ w'.cell? ⟨wn.heap.size, 1, none⟩ = some (.slice ha hl hc)) (go_keep)
          (first
            | (go_at_call 80; go_must (refine (WC _ ?_).mono ?_; exact (Below.refl _ _).drew; rintro ee ww ⟨rfl, rfl⟩))
            | (go_at_call 79; go_must (refine (TC _).mono ?_; rintro ee ww ⟨rfl, rfl⟩)))
        all_goals go_wp2_with fail
        all_goals
          go_ret2
          exact ⟨pa, pb, rfl, fun _ => HRN.out, fun h => absurd h HY0.out, HB1.out.drew⟩
      · have HNB : Hid (NumB wn wm.heap.size) := ⟨_, _, _, _, _, HZ3.out⟩
        have HH1 : Hid (VarN (((wn.setCell ⟨wm.heap.size, 0, none⟩ (.bool false)).setCell ⟨wm.heap.size, 1, none⟩ (.slice ha hl hc)).setCell ⟨wm.heap.size, 2, none⟩ (.int .i64 0)) wm.heap.size false ha hl hc 0 _) := VarN.own3 HNB.out HZ3.out NV.out
        have XX1 : Hid (VarN (((wn.setCell ⟨wm.heap.size, 0, none⟩ (.bool false)).setCell ⟨wm.heap.size, 1, none⟩ (.slice ha hl hc)).setCell ⟨wm.heap.size, 2, none⟩ (.int .i64 0)) w.heap.size nx ao len cap ex mx) := VarN.set3 _ _ _ HNB.out XXn.out (Nat.ne_of_lt XXm.out.lt)
        have YY1 : Hid (VarN (((wn.setCell ⟨wm.heap.size, 0, none⟩ (.bool false)).setCell ⟨wm.heap.size, 1, none⟩ (.slice ha hl hc)).setCell ⟨wm.heap.size, 2, none⟩ (.int .i64 0)) (w.heap.size + 1) ny bo blen bcap ey my) := VarN.set3 _ _ _ HNB.out YYn.out (Nat.ne_of_lt YYm.out.lt)
        have HB1 : Hid (Below w.heap.size w (((wn.setCell ⟨wm.heap.size, 0, none⟩ (.bool false)).setCell ⟨wm.heap.size, 1, none⟩ (.slice ha hl hc)).setCell ⟨wm.heap.size, 2, none⟩ (.int .i64 0))) := ((HBn.out.setCell (Nat.le_of_lt XXm.out.lt) _).setCell (Nat.le_of_lt XXm.out.lt) _).setCell (Nat.le_of_lt XXm.out.lt) _
        have hne1 : wm.heap.size ≠ w.heap.size := Nat.ne_of_gt XXm.out.lt
        clear aap0 aap1 aap2 bbp0 bbp1 bbp2 xxp0 xxp1 xxp2 yyp0 yyp1 yyp2 aam0 aam1 aam2 bbm0 bbm1 bbm2 xxm0 xxm1 xxm2 yym0 yym1 yym2 aan0 aan1 aan2 bbn0 bbn1 bbn2 xxn0 xxn1 xxn2 yyn0 yyn1 yyn2
        clear nm1 nm2 nn1 nn2 np1 np2 AAp AAq AAm AAn BBp BBq BBm BBn XXp XXq XXm YYp YYq YYm HBp HBq HBm
        clear z0 z1 z2 fz
        generalize (((wn.setCell ⟨wm.heap.size, 0, none⟩ (.bool false)).setCell ⟨wm.heap.size, 1, none⟩ (.slice ha hl hc)).setCell ⟨wm.heap.size, 2, none⟩ (.int .i64 0)) = W1 at *
        obtain ⟨h0, h1, h2⟩ := HH1.out.cells
        obtain ⟨u0, u1, u2⟩ := XX1.out.cells
        obtain ⟨v0, v1, v2⟩ := YY1.out.cells
        clear h0 h2 u1 u2 v1 v2
        obtain ⟨zs, hr3, hnm3, hm3⟩ := HH1.out.rd
        have hl3 : hl ≤ 2 := two_words hr3.length hr3.lt hnm3 hm3 HMATH.out.1
        have HR3 : Hid _ := hr3
        have HM3 : Hid _ := hm3
        clear hr3 hm3 hnm3
        go_wp2_with fail
        obtain ⟨Q, hQ⟩ : ∃ Q, mx * 2 ^ (ex - lowE ex (ey + (E - 1))).toNat / (my * 2 ^ (ey + (E - 1) - lowE ex (ey + (E - 1))).toNat) = Q := ⟨_, rfl⟩
        obtain ⟨R, hR⟩ : ∃ R, nz (mx * 2 ^ (ex - lowE ex (ey + (E - 1))).toNat % (my * 2 ^ (ey + (E - 1) - lowE ex (ey + (E - 1))).toNat)) = R := ⟨_, rfl⟩
        rw [hR]
        rw [hQ] at HM3
        have hM2 := HMATH.out
        rw [hQ, hR] at hM2
        have WC : ∀ W, Below W1.heap.size W1 W → Calls Try.prog 80 #[.slice ha hl hc] W fun e' w' => e' = .returned (.int .u64 ((Q : Nat) : Int)) ∧ w' = W := fun W hW => by
          have := word_any ha hl hc zs W (HR3.out.later hW) hl3
          rw [HM3.out] at this
          exact this
        have TC : ∀ W, Calls Try.prog 79 #[.int .i64 d, .bool (nx != ny), .int .u64 ((Q : Nat) : Int), .bool R, .int .i64 E] W fun e' w' => e' = .returned (.tuple #[.int .u64 ((rP d (nx != ny) R Q E).1 : Int), .bool (rP d (nx != ny) R Q E).2]) ∧ w' = W :=
          fun W => rtold_any d (nx != ny) R Q E HD.out hM2.1 (by omega) hM2.2.1 W _ rfl
        have HRN : Hid _ := hM2.2.2
        clear HMATH hM2 hl3 HH1 HR3 HM3 NV hQ hR
        generalize rP d (nx != ny) R Q E = pp at *
        obtain ⟨pa, pb⟩ := pp
        simp only at TC
        go_region_held3 (fun w' => w'.cell? ⟨w.heap.size, 0, none⟩ = some (.bool nx) ∧ w'.cell? ⟨w.heap.size + 1, 0, none⟩ = some (.bool ny) ∧ w'.cell? ⟨wm.heap.size, 1, none⟩ = some (.slice ha hl hc)) (go_keep)
          (first
            | (go_at_call 80; go_must (refine (WC _ ?_).mono ?_; exact (Below.refl _ _).drew; rintro ee ww ⟨rfl, rfl⟩))
            | (go_at_call 79; go_must (refine (TC _).mono ?_; rintro ee ww ⟨rfl, rfl⟩)))
        all_goals go_wp2_with fail
        all_goals
          go_ret2
          exact ⟨pa, pb, rfl, fun _ => HRN.out, fun h => absurd h HY0.out, HB1.out.drew⟩
      · have HNB : Hid (NumB wn wp.heap.size) := ⟨_, _, _, _, _, HZ2.out⟩
        have HH1 : Hid (VarN (((wn.setCell ⟨wp.heap.size, 0, none⟩ (.bool false)).setCell ⟨wp.heap.size, 1, none⟩ (.slice ha hl hc)).setCell ⟨wp.heap.size, 2, none⟩ (.int .i64 0)) wp.heap.size false ha hl hc 0 _) := VarN.own3 HNB.out HZ2.out NV.out
        have XX1 : Hid (VarN (((wn.setCell ⟨wp.heap.size, 0, none⟩ (.bool false)).setCell ⟨wp.heap.size, 1, none⟩ (.slice ha hl hc)).setCell ⟨wp.heap.size, 2, none⟩ (.int .i64 0)) w.heap.size nx ao len cap ex mx) := VarN.set3 _ _ _ HNB.out XXn.out (Nat.ne_of_lt XXp.out.lt)
        have YY1 : Hid (VarN (((wn.setCell ⟨wp.heap.size, 0, none⟩ (.bool false)).setCell ⟨wp.heap.size, 1, none⟩ (.slice ha hl hc)).setCell ⟨wp.heap.size, 2, none⟩ (.int .i64 0)) (w.heap.size + 1) ny bo blen bcap ey my) := VarN.set3 _ _ _ HNB.out YYn.out (Nat.ne_of_lt YYp.out.lt)
        have HB1 : Hid (Below w.heap.size w (((wn.setCell ⟨wp.heap.size, 0, none⟩ (.bool false)).setCell ⟨wp.heap.size, 1, none⟩ (.slice ha hl hc)).setCell ⟨wp.heap.size, 2, none⟩ (.int .i64 0))) := ((HBn.out.setCell (Nat.le_of_lt XXp.out.lt) _).setCell (Nat.le_of_lt XXp.out.lt) _).setCell (Nat.le_of_lt XXp.out.lt) _
        have hne1 : wp.heap.size ≠ w.heap.size := Nat.ne_of_gt XXp.out.lt
        clear aap0 aap1 aap2 bbp0 bbp1 bbp2 xxp0 xxp1 xxp2 yyp0 yyp1 yyp2 aam0 aam1 aam2 bbm0 bbm1 bbm2 xxm0 xxm1 xxm2 yym0 yym1 yym2 aan0 aan1 aan2 bbn0 bbn1 bbn2 xxn0 xxn1 xxn2 yyn0 yyn1 yyn2
        clear nm1 nm2 nn1 nn2 np1 np2 AAp AAq AAm AAn BBp BBq BBm BBn XXp XXq XXm YYp YYq YYm HBp HBq HBm
        clear z0 z1 z2 fz
        generalize (((wn.setCell ⟨wp.heap.size, 0, none⟩ (.bool false)).setCell ⟨wp.heap.size, 1, none⟩ (.slice ha hl hc)).setCell ⟨wp.heap.size, 2, none⟩ (.int .i64 0)) = W1 at *
        obtain ⟨h0, h1, h2⟩ := HH1.out.cells
        obtain ⟨u0, u1, u2⟩ := XX1.out.cells
        obtain ⟨v0, v1, v2⟩ := YY1.out.cells
        clear h0 h2 u1 u2 v1 v2
        obtain ⟨zs, hr3, hnm3, hm3⟩ := HH1.out.rd
        have hl3 : hl ≤ 2 := two_words hr3.length hr3.lt hnm3 hm3 HMATH.out.1
        have HR3 : Hid _ := hr3
        have HM3 : Hid _ := hm3
        clear hr3 hm3 hnm3
        go_wp2_with fail
        obtain ⟨Q, hQ⟩ : ∃ Q, mx * 2 ^ (ex - lowE ex (ey + (E - 1))).toNat / (my * 2 ^ (ey + (E - 1) - lowE ex (ey + (E - 1))).toNat) = Q := ⟨_, rfl⟩
        obtain ⟨R, hR⟩ : ∃ R, nz (mx * 2 ^ (ex - lowE ex (ey + (E - 1))).toNat % (my * 2 ^ (ey + (E - 1) - lowE ex (ey + (E - 1))).toNat)) = R := ⟨_, rfl⟩
        rw [hR]
        rw [hQ] at HM3
        have hM2 := HMATH.out
        rw [hQ, hR] at hM2
        have WC : ∀ W, Below W1.heap.size W1 W → Calls Try.prog 80 #[.slice ha hl hc] W fun e' w' => e' = .returned (.int .u64 ((Q : Nat) : Int)) ∧ w' = W := fun W hW => by
          have := word_any ha hl hc zs W (HR3.out.later hW) hl3
          rw [HM3.out] at this
          exact this
        have TC : ∀ W, Calls Try.prog 79 #[.int .i64 d, .bool (nx != ny), .int .u64 ((Q : Nat) : Int), .bool R, .int .i64 E] W fun e' w' => e' = .returned (.tuple #[.int .u64 ((rP d (nx != ny) R Q E).1 : Int), .bool (rP d (nx != ny) R Q E).2]) ∧ w' = W :=
          fun W => rtold_any d (nx != ny) R Q E HD.out hM2.1 (by omega) hM2.2.1 W _ rfl
        have HRN : Hid _ := hM2.2.2
        clear HMATH hM2 hl3 HH1 HR3 HM3 NV hQ hR
        generalize rP d (nx != ny) R Q E = pp at *
        obtain ⟨pa, pb⟩ := pp
        simp only at TC
        go_region_held3 (fun w' => w'.cell? ⟨w.heap.size, 0, none⟩ = some (.bool nx) ∧ w'.cell? ⟨w.heap.size + 1, 0, none⟩ = some (.bool ny) ∧ w'.cell? ⟨wp.heap.size, 1, none⟩ = some (.slice ha hl hc)) (go_keep)
          (first
            | (go_at_call 80; go_must (refine (WC _ ?_).mono ?_; exact (Below.refl _ _).drew; rintro ee ww ⟨rfl, rfl⟩))
            | (go_at_call 79; go_must (refine (TC _).mono ?_; rintro ee ww ⟨rfl, rfl⟩)))
        all_goals go_wp2_with fail
        all_goals
          go_ret2
          exact ⟨pa, pb, rfl, fun _ => HRN.out, fun h => absurd h HY0.out, HB1.out.drew⟩
    · rw [if_pos hgl] at hkk
      rw [if_neg hmx] at hEf
      subst hkk
      have HEF : Hid _ := hEf
      clear hEf
      go_wp2_with fail
      all_goals (try (exfalso; omega))
      rw [HEF.out]
      have hrf : Below wp.heap.size wp wp.drew := (Below.refl _ _).drew
      have AAq : Hid (VarN wp.drew w3.heap.size false sa sl sc ex mx) := AAp.out.later hrf
      have BBq : Hid (VarN wp.drew w5.heap.size false ta tl tc ey my) := BBp.out.later hrf
      have XXq : Hid (VarN wp.drew w.heap.size nx ao len cap ex mx) := XXp.out.later hrf
      have YYq : Hid (VarN wp.drew (w.heap.size + 1) ny bo blen bcap ey my) := YYp.out.later hrf
      have HBq : Hid (Below w.heap.size w wp.drew) := HBp.out.trans (hrf.mono HBp.out.size)
      clear hrf
      go_region_held3 (fun w' => w'.cell? ⟨w3.heap.size, 0, none⟩ = some (.bool false) ∧ w'.cell? ⟨w3.heap.size, 1, none⟩ = some (.slice sa sl sc) ∧ w'.cell? ⟨w3.heap.size, 2, none⟩ = some (.int .i64 ex) ∧ w'.cell? ⟨w5.heap.size, 0, none⟩ = some (.bool false) ∧ w'.cell? ⟨w5.heap.size, 1, none⟩ = some (.slice ta tl tc) ∧ w'.cell? ⟨w5.heap.size, 2, none⟩ = some (.int .i64 ey)) (go_keep)
        (first
          | (go_at_call 44; go_must (refine (moved_any _ false my ey (E - 1) (by omega) (by omega) _ (by first | exact BBq.out.num | exact (BBq.out.alloc _).num)).mono ?_; rintro em wm ⟨vm, rfl, hnm, hbm⟩; rw [if_neg HY0.out] at hnm; have AAm : Hid (VarN wm w3.heap.size false sa sl sc ex mx) := (by first | exact AAq.out.later hbm | exact (AAq.out.alloc _).later hbm); obtain ⟨aam0, aam1, aam2⟩ := AAm.out.cells; have BBm : Hid (VarN wm w5.heap.size false ta tl tc ey my) := (by first | exact BBq.out.later hbm | exact (BBq.out.alloc _).later hbm); obtain ⟨bbm0, bbm1, bbm2⟩ := BBm.out.cells; have XXm : Hid (VarN wm w.heap.size nx ao len cap ex mx) := (by first | exact XXq.out.later hbm | exact (XXq.out.alloc _).later hbm); obtain ⟨xxm0, xxm1, xxm2⟩ := XXm.out.cells; have YYm : Hid (VarN wm (w.heap.size + 1) ny bo blen bcap ey my) := (by first | exact YYq.out.later hbm | exact (YYq.out.alloc _).later hbm); obtain ⟨yym0, yym1, yym2⟩ := YYm.out.cells; have HBm : Hid (Below w.heap.size w wm) := (by first | exact HBq.out.trans (hbm.mono HBq.out.size) | exact (HBq.out.alloc HBq.out.size _).trans (hbm.mono (Nat.le_trans HBq.out.size (by simp)))); have nm1 : wm.heap.size ≠ w3.heap.size := Nat.ne_of_gt AAm.out.lt; have nm2 : wm.heap.size ≠ w5.heap.size := Nat.ne_of_gt BBm.out.lt; have NM : Hid (NumV wm vm false my (ey + (E - 1))) := hnm; (try (have HZ1 : Hid (wm.heap[wp.heap.size]? = some (Obj.cells #[Value.bool false, Value.slice none 0 0, Value.int IntKind.i64 0] 27)) := (hbm.block wp.heap.size (by simp)).trans (heap_alloc_new _ _))); clear hnm hbm))
          | (go_at_call 87; go_must (refine (part_any _ _ false false mx my ex (ey + (E - 1)) _ (by first | exact AAm.out.num | exact (AAm.out.alloc _).num) (by first | exact NM.out | exact NumV.later NM.out ((Below.refl _ _).alloc (Nat.le_refl _) _)) (by omega) (by omega) (by omega) (by omega) HX0.out HY0.out).mono ?_; rintro en wn ⟨vn, rfl, hvn, hbn⟩; have AAn : Hid (VarN wn w3.heap.size false sa sl sc ex mx) := (by first | exact AAm.out.later hbn | exact (AAm.out.alloc _).later hbn); obtain ⟨aan0, aan1, aan2⟩ := AAn.out.cells; have BBn : Hid (VarN wn w5.heap.size false ta tl tc ey my) := (by first | exact BBm.out.later hbn | exact (BBm.out.alloc _).later hbn); obtain ⟨bbn0, bbn1, bbn2⟩ := BBn.out.cells; have XXn : Hid (VarN wn w.heap.size nx ao len cap ex mx) := (by first | exact XXm.out.later hbn | exact (XXm.out.alloc _).later hbn); obtain ⟨xxn0, xxn1, xxn2⟩ := XXn.out.cells; have YYn : Hid (VarN wn (w.heap.size + 1) ny bo blen bcap ey my) := (by first | exact YYm.out.later hbn | exact (YYm.out.alloc _).later hbn); obtain ⟨yyn0, yyn1, yyn2⟩ := YYn.out.cells; have HBn : Hid (Below w.heap.size w wn) := (by first | exact HBm.out.trans (hbn.mono HBm.out.size) | exact (HBm.out.alloc HBm.out.size _).trans (hbn.mono (Nat.le_trans HBm.out.size (by simp)))); have nn1 : wn.heap.size ≠ w3.heap.size := Nat.ne_of_gt AAn.out.lt; have nn2 : wn.heap.size ≠ w5.heap.size := Nat.ne_of_gt BBn.out.lt; have NV : Hid (NumV wn vn false _ 0) := hvn; obtain ⟨ha, hl, hc, hxs, rfl, -⟩ := hvn; (try (have HZ2 : Hid (wn.heap[wp.heap.size]? = some (Obj.cells #[Value.bool false, Value.slice none 0 0, Value.int IntKind.i64 0] 27)) := (hbn.block wp.heap.size (heap_lt HZ1.out)).trans HZ1.out; obtain ⟨z0, z1, z2⟩ := three_cells HZ2.out; have fz := (fun j => frozen_of_row _ _ j _ _ HZ2.out))); (try (have HZ3 : Hid (wn.heap[wm.heap.size]? = some (Obj.cells #[Value.bool false, Value.slice none 0 0, Value.int IntKind.i64 0] 27)) := (hbn.block wm.heap.size (by simp)).trans (heap_alloc_new _ _); obtain ⟨z0, z1, z2⟩ := three_cells HZ3.out; have fz := (fun j => frozen_of_row _ _ j _ _ HZ3.out))); clear hbn)))
      · have HH1 : Hid (VarN (wn.alloc (Obj.cells #[Value.bool false, Value.slice ha hl hc, Value.int IntKind.i64 0] 27)) wn.heap.size false ha hl hc 0 _) := VarN.new NV.out
        have XX1 : Hid (VarN (wn.alloc (Obj.cells #[Value.bool false, Value.slice ha hl hc, Value.int IntKind.i64 0] 27)) w.heap.size nx ao len cap ex mx) := XXn.out.alloc _
        have YY1 : Hid (VarN (wn.alloc (Obj.cells #[Value.bool false, Value.slice ha hl hc, Value.int IntKind.i64 0] 27)) (w.heap.size + 1) ny bo blen bcap ey my) := YYn.out.alloc _
        have HB1 : Hid (Below w.heap.size w (wn.alloc (Obj.cells #[Value.bool false, Value.slice ha hl hc, Value.int IntKind.i64 0] 27))) := HBn.out.alloc HBn.out.size _
        have hne1 : wn.heap.size ≠ w.heap.size := Nat.ne_of_gt XXn.out.lt
        clear aap0 aap1 aap2 bbp0 bbp1 bbp2 xxp0 xxp1 xxp2 yyp0 yyp1 yyp2 aam0 aam1 aam2 bbm0 bbm1 bbm2 xxm0 xxm1 xxm2 yym0 yym1 yym2 aan0 aan1 aan2 bbn0 bbn1 bbn2 xxn0 xxn1 xxn2 yyn0 yyn1 yyn2
        clear nm1 nm2 nn1 nn2 np1 np2 AAp AAq AAm AAn BBp BBq BBm BBn XXp XXq XXm YYp YYq YYm HBp HBq HBm
        generalize (wn.alloc (Obj.cells #[Value.bool false, Value.slice ha hl hc, Value.int IntKind.i64 0] 27)) = W1 at *
        obtain ⟨h0, h1, h2⟩ := HH1.out.cells
        obtain ⟨u0, u1, u2⟩ := XX1.out.cells
        obtain ⟨v0, v1, v2⟩ := YY1.out.cells
        clear h0 h2 u1 u2 v1 v2
        obtain ⟨zs, hr3, hnm3, hm3⟩ := HH1.out.rd
        have hl3 : hl ≤ 2 := two_words hr3.length hr3.lt hnm3 hm3 HMATH.out.1
        have HR3 : Hid _ := hr3
        have HM3 : Hid _ := hm3
        clear hr3 hm3 hnm3
        go_wp2_with fail
        obtain ⟨Q, hQ⟩ : ∃ Q, mx * 2 ^ (ex - lowE ex (ey + (E - 1))).toNat / (my * 2 ^ (ey + (E - 1) - lowE ex (ey + (E - 1))).toNat) = Q := ⟨_, rfl⟩
        obtain ⟨R, hR⟩ : ∃ R, nz (mx * 2 ^ (ex - lowE ex (ey + (E - 1))).toNat % (my * 2 ^ (ey + (E - 1) - lowE ex (ey + (E - 1))).toNat)) = R := ⟨_, rfl⟩
        rw [hR]
        rw [hQ] at HM3
        have hM2 := HMATH.out
        rw [hQ, hR] at hM2
        have WC : ∀ W, Below W1.heap.size W1 W → Calls Try.prog 80 #[.slice ha hl hc] W fun e' w' => e' = .returned (.int .u64 ((Q : Nat) : Int)) ∧ w' = W := fun W hW => by
          have := word_any ha hl hc zs W (HR3.out.later hW) hl3
          rw [HM3.out] at this
          exact this
        have TC : ∀ W, Calls Try.prog 79 #[.int .i64 d, .bool (nx != ny), .int .u64 ((Q : Nat) : Int), .bool R, .int .i64 E] W fun e' w' => e' = .returned (.tuple #[.int .u64 ((rP d (nx != ny) R Q E).1 : Int), .bool (rP d (nx != ny) R Q E).2]) ∧ w' = W :=
          fun W => rtold_any d (nx != ny) R Q E HD.out hM2.1 (by omega) hM2.2.1 W _ rfl
        have HRN : Hid _ := hM2.2.2
        clear HMATH hM2 hl3 HH1 HR3 HM3 NV hQ hR
        generalize rP d (nx != ny) R Q E = pp at *
        obtain ⟨pa, pb⟩ := pp
        simp only at TC
        go_region_held3 (fun w' => w'.cell? ⟨w.heap.size, 0, none⟩ = some (.bool nx) ∧ w'.cell? ⟨w.heap.size + 1, 0, none⟩ = some (.bool ny) ∧ w'.cell? ⟨wn.heap.size, 1, none⟩ = some (.slice ha hl hc)) (go_keep)
          (first
            | (go_at_call 80; go_must (refine (WC _ ?_).mono ?_; exact (Below.refl _ _).drew; rintro ee ww ⟨rfl, rfl⟩))
            | (go_at_call 79; go_must (refine (TC _).mono ?_; rintro ee ww ⟨rfl, rfl⟩)))
        all_goals go_wp2_with fail
        all_goals
          go_ret2
          exact ⟨pa, pb, rfl, fun _ => HRN.out, fun h => absurd h HY0.out, HB1.out.drew⟩
      · have HNB : Hid (NumB wn wm.heap.size) := ⟨_, _, _, _, _, HZ3.out⟩
        have HH1 : Hid (VarN (((wn.setCell ⟨wm.heap.size, 0, none⟩ (.bool false)).setCell ⟨wm.heap.size, 1, none⟩ (.slice ha hl hc)).setCell ⟨wm.heap.size, 2, none⟩ (.int .i64 0)) wm.heap.size false ha hl hc 0 _) := VarN.own3 HNB.out HZ3.out NV.out
        have XX1 : Hid (VarN (((wn.setCell ⟨wm.heap.size, 0, none⟩ (.bool false)).setCell ⟨wm.heap.size, 1, none⟩ (.slice ha hl hc)).setCell ⟨wm.heap.size, 2, none⟩ (.int .i64 0)) w.heap.size nx ao len cap ex mx) := VarN.set3 _ _ _ HNB.out XXn.out (Nat.ne_of_lt XXm.out.lt)
        have YY1 : Hid (VarN (((wn.setCell ⟨wm.heap.size, 0, none⟩ (.bool false)).setCell ⟨wm.heap.size, 1, none⟩ (.slice ha hl hc)).setCell ⟨wm.heap.size, 2, none⟩ (.int .i64 0)) (w.heap.size + 1) ny bo blen bcap ey my) := VarN.set3 _ _ _ HNB.out YYn.out (Nat.ne_of_lt YYm.out.lt)
        have HB1 : Hid (Below w.heap.size w (((wn.setCell ⟨wm.heap.size, 0, none⟩ (.bool false)).setCell ⟨wm.heap.size, 1, none⟩ (.slice ha hl hc)).setCell ⟨wm.heap.size, 2, none⟩ (.int .i64 0))) := ((HBn.out.setCell (Nat.le_of_lt XXm.out.lt) _).setCell (Nat.le_of_lt XXm.out.lt) _).setCell (Nat.le_of_lt XXm.out.lt) _
        have hne1 : wm.heap.size ≠ w.heap.size := Nat.ne_of_gt XXm.out.lt
        clear aap0 aap1 aap2 bbp0 bbp1 bbp2 xxp0 xxp1 xxp2 yyp0 yyp1 yyp2 aam0 aam1 aam2 bbm0 bbm1 bbm2 xxm0 xxm1 xxm2 yym0 yym1 yym2 aan0 aan1 aan2 bbn0 bbn1 bbn2 xxn0 xxn1 xxn2 yyn0 yyn1 yyn2
        clear nm1 nm2 nn1 nn2 np1 np2 AAp AAq AAm AAn BBp BBq BBm BBn XXp XXq XXm YYp YYq YYm HBp HBq HBm
        clear z0 z1 z2 fz
        generalize (((wn.setCell ⟨wm.heap.size, 0, none⟩ (.bool false)).setCell ⟨wm.heap.size, 1, none⟩ (.slice ha hl hc)).setCell ⟨wm.heap.size, 2, none⟩ (.int .i64 0)) = W1 at *
        obtain ⟨h0, h1, h2⟩ := HH1.out.cells
        obtain ⟨u0, u1, u2⟩ := XX1.out.cells
        obtain ⟨v0, v1, v2⟩ := YY1.out.cells
        clear h0 h2 u1 u2 v1 v2
        obtain ⟨zs, hr3, hnm3, hm3⟩ := HH1.out.rd
        have hl3 : hl ≤ 2 := two_words hr3.length hr3.lt hnm3 hm3 HMATH.out.1
        have HR3 : Hid _ := hr3
        have HM3 : Hid _ := hm3
        clear hr3 hm3 hnm3
        go_wp2_with fail
        obtain ⟨Q, hQ⟩ : ∃ Q, mx * 2 ^ (ex - lowE ex (ey + (E - 1))).toNat / (my * 2 ^ (ey + (E - 1) - lowE ex (ey + (E - 1))).toNat) = Q := ⟨_, rfl⟩
        obtain ⟨R, hR⟩ : ∃ R, nz (mx * 2 ^ (ex - lowE ex (ey + (E - 1))).toNat % (my * 2 ^ (ey + (E - 1) - lowE ex (ey + (E - 1))).toNat)) = R := ⟨_, rfl⟩
        rw [hR]
        rw [hQ] at HM3
        have hM2 := HMATH.out
        rw [hQ, hR] at hM2
        have WC : ∀ W, Below W1.heap.size W1 W → Calls Try.prog 80 #[.slice ha hl hc] W fun e' w' => e' = .returned (.int .u64 ((Q : Nat) : Int)) ∧ w' = W := fun W hW => by
          have := word_any ha hl hc zs W (HR3.out.later hW) hl3
          rw [HM3.out] at this
          exact this
        have TC : ∀ W, Calls Try.prog 79 #[.int .i64 d, .bool (nx != ny), .int .u64 ((Q : Nat) : Int), .bool R, .int .i64 E] W fun e' w' => e' = .returned (.tuple #[.int .u64 ((rP d (nx != ny) R Q E).1 : Int), .bool (rP d (nx != ny) R Q E).2]) ∧ w' = W :=
          fun W => rtold_any d (nx != ny) R Q E HD.out hM2.1 (by omega) hM2.2.1 W _ rfl
        have HRN : Hid _ := hM2.2.2
        clear HMATH hM2 hl3 HH1 HR3 HM3 NV hQ hR
        generalize rP d (nx != ny) R Q E = pp at *
        obtain ⟨pa, pb⟩ := pp
        simp only at TC
        go_region_held3 (fun w' => w'.cell? ⟨w.heap.size, 0, none⟩ = some (.bool nx) ∧ w'.cell? ⟨w.heap.size + 1, 0, none⟩ = some (.bool ny) ∧ w'.cell? ⟨wm.heap.size, 1, none⟩ = some (.slice ha hl hc)) (go_keep)
          (first
            | (go_at_call 80; go_must (refine (WC _ ?_).mono ?_; exact (Below.refl _ _).drew; rintro ee ww ⟨rfl, rfl⟩))
            | (go_at_call 79; go_must (refine (TC _).mono ?_; rintro ee ww ⟨rfl, rfl⟩)))
        all_goals go_wp2_with fail
        all_goals
          go_ret2
          exact ⟨pa, pb, rfl, fun _ => HRN.out, fun h => absurd h HY0.out, HB1.out.drew⟩
      · have HNB : Hid (NumB wn wp.heap.size) := ⟨_, _, _, _, _, HZ2.out⟩
        have HH1 : Hid (VarN (((wn.setCell ⟨wp.heap.size, 0, none⟩ (.bool false)).setCell ⟨wp.heap.size, 1, none⟩ (.slice ha hl hc)).setCell ⟨wp.heap.size, 2, none⟩ (.int .i64 0)) wp.heap.size false ha hl hc 0 _) := VarN.own3 HNB.out HZ2.out NV.out
        have XX1 : Hid (VarN (((wn.setCell ⟨wp.heap.size, 0, none⟩ (.bool false)).setCell ⟨wp.heap.size, 1, none⟩ (.slice ha hl hc)).setCell ⟨wp.heap.size, 2, none⟩ (.int .i64 0)) w.heap.size nx ao len cap ex mx) := VarN.set3 _ _ _ HNB.out XXn.out (Nat.ne_of_lt XXp.out.lt)
        have YY1 : Hid (VarN (((wn.setCell ⟨wp.heap.size, 0, none⟩ (.bool false)).setCell ⟨wp.heap.size, 1, none⟩ (.slice ha hl hc)).setCell ⟨wp.heap.size, 2, none⟩ (.int .i64 0)) (w.heap.size + 1) ny bo blen bcap ey my) := VarN.set3 _ _ _ HNB.out YYn.out (Nat.ne_of_lt YYp.out.lt)
        have HB1 : Hid (Below w.heap.size w (((wn.setCell ⟨wp.heap.size, 0, none⟩ (.bool false)).setCell ⟨wp.heap.size, 1, none⟩ (.slice ha hl hc)).setCell ⟨wp.heap.size, 2, none⟩ (.int .i64 0))) := ((HBn.out.setCell (Nat.le_of_lt XXp.out.lt) _).setCell (Nat.le_of_lt XXp.out.lt) _).setCell (Nat.le_of_lt XXp.out.lt) _
        have hne1 : wp.heap.size ≠ w.heap.size := Nat.ne_of_gt XXp.out.lt
        clear aap0 aap1 aap2 bbp0 bbp1 bbp2 xxp0 xxp1 xxp2 yyp0 yyp1 yyp2 aam0 aam1 aam2 bbm0 bbm1 bbm2 xxm0 xxm1 xxm2 yym0 yym1 yym2 aan0 aan1 aan2 bbn0 bbn1 bbn2 xxn0 xxn1 xxn2 yyn0 yyn1 yyn2
        clear nm1 nm2 nn1 nn2 np1 np2 AAp AAq AAm AAn BBp BBq BBm BBn XXp XXq XXm YYp YYq YYm HBp HBq HBm
        clear z0 z1 z2 fz
        generalize (((wn.setCell ⟨wp.heap.size, 0, none⟩ (.bool false)).setCell ⟨wp.heap.size, 1, none⟩ (.slice ha hl hc)).setCell ⟨wp.heap.size, 2, none⟩ (.int .i64 0)) = W1 at *
        obtain ⟨h0, h1, h2⟩ := HH1.out.cells
        obtain ⟨u0, u1, u2⟩ := XX1.out.cells
        obtain ⟨v0, v1, v2⟩ := YY1.out.cells
        clear h0 h2 u1 u2 v1 v2
        obtain ⟨zs, hr3, hnm3, hm3⟩ := HH1.out.rd
        have hl3 : hl ≤ 2 := two_words hr3.length hr3.lt hnm3 hm3 HMATH.out.1
        have HR3 : Hid _ := hr3
        have HM3 : Hid _ := hm3
        clear hr3 hm3 hnm3
        go_wp2_with fail
        obtain ⟨Q, hQ⟩ : ∃ Q, mx * 2 ^ (ex - lowE ex (ey + (E - 1))).toNat / (my * 2 ^ (ey + (E - 1) - lowE ex (ey + (E - 1))).toNat) = Q := ⟨_, rfl⟩
        obtain ⟨R, hR⟩ : ∃ R, nz (mx * 2 ^ (ex - lowE ex (ey + (E - 1))).toNat % (my * 2 ^ (ey + (E - 1) - lowE ex (ey + (E - 1))).toNat)) = R := ⟨_, rfl⟩
        rw [hR]
        rw [hQ] at HM3
        have hM2 := HMATH.out
        rw [hQ, hR] at hM2
        have WC : ∀ W, Below W1.heap.size W1 W → Calls Try.prog 80 #[.slice ha hl hc] W fun e' w' => e' = .returned (.int .u64 ((Q : Nat) : Int)) ∧ w' = W := fun W hW => by
          have := word_any ha hl hc zs W (HR3.out.later hW) hl3
          rw [HM3.out] at this
          exact this
        have TC : ∀ W, Calls Try.prog 79 #[.int .i64 d, .bool (nx != ny), .int .u64 ((Q : Nat) : Int), .bool R, .int .i64 E] W fun e' w' => e' = .returned (.tuple #[.int .u64 ((rP d (nx != ny) R Q E).1 : Int), .bool (rP d (nx != ny) R Q E).2]) ∧ w' = W :=
          fun W => rtold_any d (nx != ny) R Q E HD.out hM2.1 (by omega) hM2.2.1 W _ rfl
        have HRN : Hid _ := hM2.2.2
        clear HMATH hM2 hl3 HH1 HR3 HM3 NV hQ hR
        generalize rP d (nx != ny) R Q E = pp at *
        obtain ⟨pa, pb⟩ := pp
        simp only at TC
        go_region_held3 (fun w' => w'.cell? ⟨w.heap.size, 0, none⟩ = some (.bool nx) ∧ w'.cell? ⟨w.heap.size + 1, 0, none⟩ = some (.bool ny) ∧ w'.cell? ⟨wp.heap.size, 1, none⟩ = some (.slice ha hl hc)) (go_keep)
          (first
            | (go_at_call 80; go_must (refine (WC _ ?_).mono ?_; exact (Below.refl _ _).drew; rintro ee ww ⟨rfl, rfl⟩))
            | (go_at_call 79; go_must (refine (TC _).mono ?_; rintro ee ww ⟨rfl, rfl⟩)))
        all_goals go_wp2_with fail
        all_goals
          go_ret2
          exact ⟨pa, pb, rfl, fun _ => HRN.out, fun h => absurd h HY0.out, HB1.out.drew⟩
    · rw [if_neg hgl] at hkk
      rw [if_pos hmx] at hEf
      subst hkk
      have HEF : Hid _ := hEf
      clear hEf
      go_wp2_with fail
      all_goals (try (exfalso; omega))
      rw [HEF.out]
      have hrf : Below wp.heap.size wp wp.drew := (Below.refl _ _).drew
      have AAq : Hid (VarN wp.drew w3.heap.size false sa sl sc ex mx) := AAp.out.later hrf
      have BBq : Hid (VarN wp.drew w5.heap.size false ta tl tc ey my) := BBp.out.later hrf
      have XXq : Hid (VarN wp.drew w.heap.size nx ao len cap ex mx) := XXp.out.later hrf
      have YYq : Hid (VarN wp.drew (w.heap.size + 1) ny bo blen bcap ey my) := YYp.out.later hrf
      have HBq : Hid (Below w.heap.size w wp.drew) := HBp.out.trans (hrf.mono HBp.out.size)
      clear hrf
      go_region_held3 (fun w' => w'.cell? ⟨w3.heap.size, 0, none⟩ = some (.bool false) ∧ w'.cell? ⟨w3.heap.size, 1, none⟩ = some (.slice sa sl sc) ∧ w'.cell? ⟨w3.heap.size, 2, none⟩ = some (.int .i64 ex) ∧ w'.cell? ⟨w5.heap.size, 0, none⟩ = some (.bool false) ∧ w'.cell? ⟨w5.heap.size, 1, none⟩ = some (.slice ta tl tc) ∧ w'.cell? ⟨w5.heap.size, 2, none⟩ = some (.int .i64 ey)) (go_keep)
        (first
          | (go_at_call 44; go_must (refine (moved_any _ false my ey (E - 1) (by omega) (by omega) _ (by first | exact BBq.out.num | exact (BBq.out.alloc _).num)).mono ?_; rintro em wm ⟨vm, rfl, hnm, hbm⟩; rw [if_neg HY0.out] at hnm; have AAm : Hid (VarN wm w3.heap.size false sa sl sc ex mx) := (by first | exact AAq.out.later hbm | exact (AAq.out.alloc _).later hbm); obtain ⟨aam0, aam1, aam2⟩ := AAm.out.cells; have BBm : Hid (VarN wm w5.heap.size false ta tl tc ey my) := (by first | exact BBq.out.later hbm | exact (BBq.out.alloc _).later hbm); obtain ⟨bbm0, bbm1, bbm2⟩ := BBm.out.cells; have XXm : Hid (VarN wm w.heap.size nx ao len cap ex mx) := (by first | exact XXq.out.later hbm | exact (XXq.out.alloc _).later hbm); obtain ⟨xxm0, xxm1, xxm2⟩ := XXm.out.cells; have YYm : Hid (VarN wm (w.heap.size + 1) ny bo blen bcap ey my) := (by first | exact YYq.out.later hbm | exact (YYq.out.alloc _).later hbm); obtain ⟨yym0, yym1, yym2⟩ := YYm.out.cells; have HBm : Hid (Below w.heap.size w wm) := (by first | exact HBq.out.trans (hbm.mono HBq.out.size) | exact (HBq.out.alloc HBq.out.size _).trans (hbm.mono (Nat.le_trans HBq.out.size (by simp)))); have nm1 : wm.heap.size ≠ w3.heap.size := Nat.ne_of_gt AAm.out.lt; have nm2 : wm.heap.size ≠ w5.heap.size := Nat.ne_of_gt BBm.out.lt; have NM : Hid (NumV wm vm false my (ey + (E - 1))) := hnm; (try (have HZ1 : Hid (wm.heap[wp.heap.size]? = some (Obj.cells #[Value.bool false, Value.slice none 0 0, Value.int IntKind.i64 0] 27)) := (hbm.block wp.heap.size (by simp)).trans (heap_alloc_new _ _))); clear hnm hbm))
          | (go_at_call 87; go_must (refine (part_any _ _ false false mx my ex (ey + (E - 1)) _ (by first | exact AAm.out.num | exact (AAm.out.alloc _).num) (by first | exact NM.out | exact NumV.later NM.out ((Below.refl _ _).alloc (Nat.le_refl _) _)) (by omega) (by omega) (by omega) (by omega) HX0.out HY0.out).mono ?_; rintro en wn ⟨vn, rfl, hvn, hbn⟩; have AAn : Hid (VarN wn w3.heap.size false sa sl sc ex mx) := (by first | exact AAm.out.later hbn | exact (AAm.out.alloc _).later hbn); obtain ⟨aan0, aan1, aan2⟩ := AAn.out.cells; have BBn : Hid (VarN wn w5.heap.size false ta tl tc ey my) := (by first | exact BBm.out.later hbn | exact (BBm.out.alloc _).later hbn); obtain ⟨bbn0, bbn1, bbn2⟩ := BBn.out.cells; have XXn : Hid (VarN wn w.heap.size nx ao len cap ex mx) := (by first | exact XXm.out.later hbn | exact (XXm.out.alloc _).later hbn); obtain ⟨xxn0, xxn1, xxn2⟩ := XXn.out.cells; have YYn : Hid (VarN wn (w.heap.size + 1) ny bo blen bcap ey my) := (by first | exact YYm.out.later hbn | exact (YYm.out.alloc _).later hbn); obtain ⟨yyn0, yyn1, yyn2⟩ := YYn.out.cells; have HBn : Hid (Below w.heap.size w wn) := (by first | exact HBm.out.trans (hbn.mono HBm.out.size) | exact (HBm.out.alloc HBm.out.size _).trans (hbn.mono (Nat.le_trans HBm.out.size (by simp)))); have nn1 : wn.heap.size ≠ w3.heap.size := Nat.ne_of_gt AAn.out.lt; have nn2 : wn.heap.size ≠ w5.heap.size := Nat.ne_of_gt BBn.out.lt; have NV : Hid (NumV wn vn false _ 0) := hvn; obtain ⟨ha, hl, hc, hxs, rfl, -⟩ := hvn; (try (have HZ2 : Hid (wn.heap[wp.heap.size]? = some (Obj.cells #[Value.bool false, Value.slice none 0 0, Value.int IntKind.i64 0] 27)) := (hbn.block wp.heap.size (heap_lt HZ1.out)).trans HZ1.out; obtain ⟨z0, z1, z2⟩ := three_cells HZ2.out; have fz := (fun j => frozen_of_row _ _ j _ _ HZ2.out))); (try (have HZ3 : Hid (wn.heap[wm.heap.size]? = some (Obj.cells #[Value.bool false, Value.slice none 0 0, Value.int IntKind.i64 0] 27)) := (hbn.block wm.heap.size (by simp)).trans (heap_alloc_new _ _); obtain ⟨z0, z1, z2⟩ := three_cells HZ3.out; have fz := (fun j => frozen_of_row _ _ j _ _ HZ3.out))); clear hbn)))
      · have HH1 : Hid (VarN (wn.alloc (Obj.cells #[Value.bool false, Value.slice ha hl hc, Value.int IntKind.i64 0] 27)) wn.heap.size false ha hl hc 0 _) := VarN.new NV.out
        have XX1 : Hid (VarN (wn.alloc (Obj.cells #[Value.bool false, Value.slice ha hl hc, Value.int IntKind.i64 0] 27)) w.heap.size nx ao len cap ex mx) := XXn.out.alloc _
        have YY1 : Hid (VarN (wn.alloc (Obj.cells #[Value.bool false, Value.slice ha hl hc, Value.int IntKind.i64 0] 27)) (w.heap.size + 1) ny bo blen bcap ey my) := YYn.out.alloc _
        have HB1 : Hid (Below w.heap.size w (wn.alloc (Obj.cells #[Value.bool false, Value.slice ha hl hc, Value.int IntKind.i64 0] 27))) := HBn.out.alloc HBn.out.size _
        have hne1 : wn.heap.size ≠ w.heap.size := Nat.ne_of_gt XXn.out.lt
        clear aap0 aap1 aap2 bbp0 bbp1 bbp2 xxp0 xxp1 xxp2 yyp0 yyp1 yyp2 aam0 aam1 aam2 bbm0 bbm1 bbm2 xxm0 xxm1 xxm2 yym0 yym1 yym2 aan0 aan1 aan2 bbn0 bbn1 bbn2 xxn0 xxn1 xxn2 yyn0 yyn1 yyn2
        clear nm1 nm2 nn1 nn2 np1 np2 AAp AAq AAm AAn BBp BBq BBm BBn XXp XXq XXm YYp YYq YYm HBp HBq HBm
        generalize (wn.alloc (Obj.cells #[Value.bool false, Value.slice ha hl hc, Value.int IntKind.i64 0] 27)) = W1 at *
        obtain ⟨h0, h1, h2⟩ := HH1.out.cells
        obtain ⟨u0, u1, u2⟩ := XX1.out.cells
        obtain ⟨v0, v1, v2⟩ := YY1.out.cells
        clear h0 h2 u1 u2 v1 v2
        obtain ⟨zs, hr3, hnm3, hm3⟩ := HH1.out.rd
        have hl3 : hl ≤ 2 := two_words hr3.length hr3.lt hnm3 hm3 HMATH.out.1
        have HR3 : Hid _ := hr3
        have HM3 : Hid _ := hm3
        clear hr3 hm3 hnm3
        go_wp2_with fail
        obtain ⟨Q, hQ⟩ : ∃ Q, mx * 2 ^ (ex - lowE ex (ey + (E - 1))).toNat / (my * 2 ^ (ey + (E - 1) - lowE ex (ey + (E - 1))).toNat) = Q := ⟨_, rfl⟩
        obtain ⟨R, hR⟩ : ∃ R, nz (mx * 2 ^ (ex - lowE ex (ey + (E - 1))).toNat % (my * 2 ^ (ey + (E - 1) - lowE ex (ey + (E - 1))).toNat)) = R := ⟨_, rfl⟩
        rw [hR]
        rw [hQ] at HM3
        have hM2 := HMATH.out
        rw [hQ, hR] at hM2
        have WC : ∀ W, Below W1.heap.size W1 W → Calls Try.prog 80 #[.slice ha hl hc] W fun e' w' => e' = .returned (.int .u64 ((Q : Nat) : Int)) ∧ w' = W := fun W hW => by
          have := word_any ha hl hc zs W (HR3.out.later hW) hl3
          rw [HM3.out] at this
          exact this
        have TC : ∀ W, Calls Try.prog 79 #[.int .i64 d, .bool (nx != ny), .int .u64 ((Q : Nat) : Int), .bool R, .int .i64 E] W fun e' w' => e' = .returned (.tuple #[.int .u64 ((rP d (nx != ny) R Q E).1 : Int), .bool (rP d (nx != ny) R Q E).2]) ∧ w' = W :=
          fun W => rtold_any d (nx != ny) R Q E HD.out hM2.1 (by omega) hM2.2.1 W _ rfl
        have HRN : Hid _ := hM2.2.2
        clear HMATH hM2 hl3 HH1 HR3 HM3 NV hQ hR
        generalize rP d (nx != ny) R Q E = pp at *
        obtain ⟨pa, pb⟩ := pp
        simp only at TC
        go_region_held3 (fun w' => w'.cell? ⟨w.heap.size, 0, none⟩ = some (.bool nx) ∧ w'.cell? ⟨w.heap.size + 1, 0, none⟩ = some (.bool ny) ∧ w'.cell? ⟨wn.heap.size, 1, none⟩ = some (.slice ha hl hc)) (go_keep)
          (first
            | (go_at_call 80; go_must (refine (WC _ ?_).mono ?_; exact (Below.refl _ _).drew; rintro ee ww ⟨rfl, rfl⟩))
            | (go_at_call 79; go_must (refine (TC _).mono ?_; rintro ee ww ⟨rfl, rfl⟩)))
        all_goals go_wp2_with fail
        all_goals
          go_ret2
          exact ⟨pa, pb, rfl, fun _ => HRN.out, fun h => absurd h HY0.out, HB1.out.drew⟩
      · have HNB : Hid (NumB wn wm.heap.size) := ⟨_, _, _, _, _, HZ3.out⟩
        have HH1 : Hid (VarN (((wn.setCell ⟨wm.heap.size, 0, none⟩ (.bool false)).setCell ⟨wm.heap.size, 1, none⟩ (.slice ha hl hc)).setCell ⟨wm.heap.size, 2, none⟩ (.int .i64 0)) wm.heap.size false ha hl hc 0 _) := VarN.own3 HNB.out HZ3.out NV.out
        have XX1 : Hid (VarN (((wn.setCell ⟨wm.heap.size, 0, none⟩ (.bool false)).setCell ⟨wm.heap.size, 1, none⟩ (.slice ha hl hc)).setCell ⟨wm.heap.size, 2, none⟩ (.int .i64 0)) w.heap.size nx ao len cap ex mx) := VarN.set3 _ _ _ HNB.out XXn.out (Nat.ne_of_lt XXm.out.lt)
        have YY1 : Hid (VarN (((wn.setCell ⟨wm.heap.size, 0, none⟩ (.bool false)).setCell ⟨wm.heap.size, 1, none⟩ (.slice ha hl hc)).setCell ⟨wm.heap.size, 2, none⟩ (.int .i64 0)) (w.heap.size + 1) ny bo blen bcap ey my) := VarN.set3 _ _ _ HNB.out YYn.out (Nat.ne_of_lt YYm.out.lt)
        have HB1 : Hid (Below w.heap.size w (((wn.setCell ⟨wm.heap.size, 0, none⟩ (.bool false)).setCell ⟨wm.heap.size, 1, none⟩ (.slice ha hl hc)).setCell ⟨wm.heap.size, 2, none⟩ (.int .i64 0))) := ((HBn.out.setCell (Nat.le_of_lt XXm.out.lt) _).setCell (Nat.le_of_lt XXm.out.lt) _).setCell (Nat.le_of_lt XXm.out.lt) _
        have hne1 : wm.heap.size ≠ w.heap.size := Nat.ne_of_gt XXm.out.lt
        clear aap0 aap1 aap2 bbp0 bbp1 bbp2 xxp0 xxp1 xxp2 yyp0 yyp1 yyp2 aam0 aam1 aam2 bbm0 bbm1 bbm2 xxm0 xxm1 xxm2 yym0 yym1 yym2 aan0 aan1 aan2 bbn0 bbn1 bbn2 xxn0 xxn1 xxn2 yyn0 yyn1 yyn2
        clear nm1 nm2 nn1 nn2 np1 np2 AAp AAq AAm AAn BBp BBq BBm BBn XXp XXq XXm YYp YYq YYm HBp HBq HBm
        clear z0 z1 z2 fz
        generalize (((wn.setCell ⟨wm.heap.size, 0, none⟩ (.bool false)).setCell ⟨wm.heap.size, 1, none⟩ (.slice ha hl hc)).setCell ⟨wm.heap.size, 2, none⟩ (.int .i64 0)) = W1 at *
        obtain ⟨h0, h1, h2⟩ := HH1.out.cells
        obtain ⟨u0, u1, u2⟩ := XX1.out.cells
        obtain ⟨v0, v1, v2⟩ := YY1.out.cells
        clear h0 h2 u1 u2 v1 v2
        obtain ⟨zs, hr3, hnm3, hm3⟩ := HH1.out.rd
        have hl3 : hl ≤ 2 := two_words hr3.length hr3.lt hnm3 hm3 HMATH.out.1
        have HR3 : Hid _ := hr3
        have HM3 : Hid _ := hm3
        clear hr3 hm3 hnm3
        go_wp2_with fail
        obtain ⟨Q, hQ⟩ : ∃ Q, mx * 2 ^ (ex - lowE ex (ey + (E - 1))).toNat / (my * 2 ^ (ey + (E - 1) - lowE ex (ey + (E - 1))).toNat) = Q := ⟨_, rfl⟩
        obtain ⟨R, hR⟩ : ∃ R, nz (mx * 2 ^ (ex - lowE ex (ey + (E - 1))).toNat % (my * 2 ^ (ey + (E - 1) - lowE ex (ey + (E - 1))).toNat)) = R := ⟨_, rfl⟩
        rw [hR]
        rw [hQ] at HM3
        have hM2 := HMATH.out
        rw [hQ, hR] at hM2
        have WC : ∀ W, Below W1.heap.size W1 W → Calls Try.prog 80 #[.slice ha hl hc] W fun e' w' => e' = .returned (.int .u64 ((Q : Nat) : Int)) ∧ w' = W := fun W hW => by
          have := word_any ha hl hc zs W (HR3.out.later hW) hl3
          rw [HM3.out] at this
          exact this
        have TC : ∀ W, Calls Try.prog 79 #[.int .i64 d, .bool (nx != ny), .int .u64 ((Q : Nat) : Int), .bool R, .int .i64 E] W fun e' w' => e' = .returned (.tuple #[.int .u64 ((rP d (nx != ny) R Q E).1 : Int), .bool (rP d (nx != ny) R Q E).2]) ∧ w' = W :=
          fun W => rtold_any d (nx != ny) R Q E HD.out hM2.1 (by omega) hM2.2.1 W _ rfl
        have HRN : Hid _ := hM2.2.2
        clear HMATH hM2 hl3 HH1 HR3 HM3 NV hQ hR
        generalize rP d (nx != ny) R Q E = pp at *
        obtain ⟨pa, pb⟩ := pp
        simp only at TC
        go_region_held3 (fun w' => w'.cell? ⟨w.heap.size, 0, none⟩ = some (.bool nx) ∧ w'.cell? ⟨w.heap.size + 1, 0, none⟩ = some (.bool ny) ∧ w'.cell? ⟨wm.heap.size, 1, none⟩ = some (.slice ha hl hc)) (go_keep)
          (first
            | (go_at_call 80; go_must (refine (WC _ ?_).mono ?_; exact (Below.refl _ _).drew; rintro ee ww ⟨rfl, rfl⟩))
            | (go_at_call 79; go_must (refine (TC _).mono ?_; rintro ee ww ⟨rfl, rfl⟩)))
        all_goals go_wp2_with fail
        all_goals
          go_ret2
          exact ⟨pa, pb, rfl, fun _ => HRN.out, fun h => absurd h HY0.out, HB1.out.drew⟩
      · have HNB : Hid (NumB wn wp.heap.size) := ⟨_, _, _, _, _, HZ2.out⟩
        have HH1 : Hid (VarN (((wn.setCell ⟨wp.heap.size, 0, none⟩ (.bool false)).setCell ⟨wp.heap.size, 1, none⟩ (.slice ha hl hc)).setCell ⟨wp.heap.size, 2, none⟩ (.int .i64 0)) wp.heap.size false ha hl hc 0 _) := VarN.own3 HNB.out HZ2.out NV.out
        have XX1 : Hid (VarN (((wn.setCell ⟨wp.heap.size, 0, none⟩ (.bool false)).setCell ⟨wp.heap.size, 1, none⟩ (.slice ha hl hc)).setCell ⟨wp.heap.size, 2, none⟩ (.int .i64 0)) w.heap.size nx ao len cap ex mx) := VarN.set3 _ _ _ HNB.out XXn.out (Nat.ne_of_lt XXp.out.lt)
        have YY1 : Hid (VarN (((wn.setCell ⟨wp.heap.size, 0, none⟩ (.bool false)).setCell ⟨wp.heap.size, 1, none⟩ (.slice ha hl hc)).setCell ⟨wp.heap.size, 2, none⟩ (.int .i64 0)) (w.heap.size + 1) ny bo blen bcap ey my) := VarN.set3 _ _ _ HNB.out YYn.out (Nat.ne_of_lt YYp.out.lt)
        have HB1 : Hid (Below w.heap.size w (((wn.setCell ⟨wp.heap.size, 0, none⟩ (.bool false)).setCell ⟨wp.heap.size, 1, none⟩ (.slice ha hl hc)).setCell ⟨wp.heap.size, 2, none⟩ (.int .i64 0))) := ((HBn.out.setCell (Nat.le_of_lt XXp.out.lt) _).setCell (Nat.le_of_lt XXp.out.lt) _).setCell (Nat.le_of_lt XXp.out.lt) _
        have hne1 : wp.heap.size ≠ w.heap.size := Nat.ne_of_gt XXp.out.lt
        clear aap0 aap1 aap2 bbp0 bbp1 bbp2 xxp0 xxp1 xxp2 yyp0 yyp1 yyp2 aam0 aam1 aam2 bbm0 bbm1 bbm2 xxm0 xxm1 xxm2 yym0 yym1 yym2 aan0 aan1 aan2 bbn0 bbn1 bbn2 xxn0 xxn1 xxn2 yyn0 yyn1 yyn2
        clear nm1 nm2 nn1 nn2 np1 np2 AAp AAq AAm AAn BBp BBq BBm BBn XXp XXq XXm YYp YYq YYm HBp HBq HBm
        clear z0 z1 z2 fz
        generalize (((wn.setCell ⟨wp.heap.size, 0, none⟩ (.bool false)).setCell ⟨wp.heap.size, 1, none⟩ (.slice ha hl hc)).setCell ⟨wp.heap.size, 2, none⟩ (.int .i64 0)) = W1 at *
        obtain ⟨h0, h1, h2⟩ := HH1.out.cells
        obtain ⟨u0, u1, u2⟩ := XX1.out.cells
        obtain ⟨v0, v1, v2⟩ := YY1.out.cells
        clear h0 h2 u1 u2 v1 v2
        obtain ⟨zs, hr3, hnm3, hm3⟩ := HH1.out.rd
        have hl3 : hl ≤ 2 := two_words hr3.length hr3.lt hnm3 hm3 HMATH.out.1
        have HR3 : Hid _ := hr3
        have HM3 : Hid _ := hm3
        clear hr3 hm3 hnm3
        go_wp2_with fail
        obtain ⟨Q, hQ⟩ : ∃ Q, mx * 2 ^ (ex - lowE ex (ey + (E - 1))).toNat / (my * 2 ^ (ey + (E - 1) - lowE ex (ey + (E - 1))).toNat) = Q := ⟨_, rfl⟩
        obtain ⟨R, hR⟩ : ∃ R, nz (mx * 2 ^ (ex - lowE ex (ey + (E - 1))).toNat % (my * 2 ^ (ey + (E - 1) - lowE ex (ey + (E - 1))).toNat)) = R := ⟨_, rfl⟩
        rw [hR]
        rw [hQ] at HM3
        have hM2 := HMATH.out
        rw [hQ, hR] at hM2
        have WC : ∀ W, Below W1.heap.size W1 W → Calls Try.prog 80 #[.slice ha hl hc] W fun e' w' => e' = .returned (.int .u64 ((Q : Nat) : Int)) ∧ w' = W := fun W hW => by
          have := word_any ha hl hc zs W (HR3.out.later hW) hl3
          rw [HM3.out] at this
          exact this
        have TC : ∀ W, Calls Try.prog 79 #[.int .i64 d, .bool (nx != ny), .int .u64 ((Q : Nat) : Int), .bool R, .int .i64 E] W fun e' w' => e' = .returned (.tuple #[.int .u64 ((rP d (nx != ny) R Q E).1 : Int), .bool (rP d (nx != ny) R Q E).2]) ∧ w' = W :=
          fun W => rtold_any d (nx != ny) R Q E HD.out hM2.1 (by omega) hM2.2.1 W _ rfl
        have HRN : Hid _ := hM2.2.2
        clear HMATH hM2 hl3 HH1 HR3 HM3 NV hQ hR
        generalize rP d (nx != ny) R Q E = pp at *
        obtain ⟨pa, pb⟩ := pp
        simp only at TC
        go_region_held3 (fun w' => w'.cell? ⟨w.heap.size, 0, none⟩ = some (.bool nx) ∧ w'.cell? ⟨w.heap.size + 1, 0, none⟩ = some (.bool ny) ∧ w'.cell? ⟨wp.heap.size, 1, none⟩ = some (.slice ha hl hc)) (go_keep)
          (first
            | (go_at_call 80; go_must (refine (WC _ ?_).mono ?_; exact (Below.refl _ _).drew; rintro ee ww ⟨rfl, rfl⟩))
            | (go_at_call 79; go_must (refine (TC _).mono ?_; rintro ee ww ⟨rfl, rfl⟩)))
        all_goals go_wp2_with fail
        all_goals
          go_ret2
          exact ⟨pa, pb, rfl, fun _ => HRN.out, fun h => absurd h HY0.out, HB1.out.drew⟩
    · rw [if_neg hgl] at hkk
      rw [if_neg hmx] at hEf
      subst hkk
      have HEF : Hid _ := hEf
      clear hEf
      go_wp2_with fail
      all_goals (try (exfalso; omega))
      rw [HEF.out]
      have hrf : Below wp.heap.size wp wp.drew := (Below.refl _ _).drew
      have AAq : Hid (VarN wp.drew w3.heap.size false sa sl sc ex mx) := AAp.out.later hrf
      have BBq : Hid (VarN wp.drew w5.heap.size false ta tl tc ey my) := BBp.out.later hrf
      have XXq : Hid (VarN wp.drew w.heap.size nx ao len cap ex mx) := XXp.out.later hrf
      have YYq : Hid (VarN wp.drew (w.heap.size + 1) ny bo blen bcap ey my) := YYp.out.later hrf
      have HBq : Hid (Below w.heap.size w wp.drew) := HBp.out.trans (hrf.mono HBp.out.size)
      clear hrf
      go_region_held3 (fun w' => w'.cell? ⟨w3.heap.size, 0, none⟩ = some (.bool false) ∧ w'.cell? ⟨w3.heap.size, 1, none⟩ = some (.slice sa sl sc) ∧ w'.cell? ⟨w3.heap.size, 2, none⟩ = some (.int .i64 ex) ∧ w'.cell? ⟨w5.heap.size, 0, none⟩ = some (.bool false) ∧ w'.cell? ⟨w5.heap.size, 1, none⟩ = some (.slice ta tl tc) ∧ w'.cell? ⟨w5.heap.size, 2, none⟩ = some (.int .i64 ey)) (go_keep)
        (first
          | (go_at_call 44; go_must (refine (moved_any _ false my ey (E - 1) (by omega) (by omega) _ (by first | exact BBq.out.num | exact (BBq.out.alloc _).num)).mono ?_; rintro em wm ⟨vm, rfl, hnm, hbm⟩; rw [if_neg HY0.out] at hnm; have AAm : Hid (VarN wm w3.heap.size false sa sl sc ex mx) := (by first | exact AAq.out.later hbm | exact (AAq.out.alloc _).later hbm); obtain ⟨aam0, aam1, aam2⟩ := AAm.out.cells; have BBm : Hid (VarN wm w5.heap.size false ta tl tc ey my) := (by first | exact BBq.out.later hbm | exact (BBq.out.alloc _).later hbm); obtain ⟨bbm0, bbm1, bbm2⟩ := BBm.out.cells; have XXm : Hid (VarN wm w.heap.size nx ao len cap ex mx) := (by first | exact XXq.out.later hbm | exact (XXq.out.alloc _).later hbm); obtain ⟨xxm0, xxm1, xxm2⟩ := XXm.out.cells; have YYm : Hid (VarN wm (w.heap.size + 1) ny bo blen bcap ey my) := (by first | exact YYq.out.later hbm | exact (YYq.out.alloc _).later hbm); obtain ⟨yym0, yym1, yym2⟩ := YYm.out.cells; have HBm : Hid (Below w.heap.size w wm) := (by first | exact HBq.out.trans (hbm.mono HBq.out.size) | exact (HBq.out.alloc HBq.out.size _).trans (hbm.mono (Nat.le_trans HBq.out.size (by simp)))); have nm1 : wm.heap.size ≠ w3.heap.size := Nat.ne_of_gt AAm.out.lt; have nm2 : wm.heap.size ≠ w5.heap.size := Nat.ne_of_gt BBm.out.lt; have NM : Hid (NumV wm vm false my (ey + (E - 1))) := hnm; (try (have HZ1 : Hid (wm.heap[wp.heap.size]? = some (Obj.cells #[Value.bool false, Value.slice none 0 0, Value.int IntKind.i64 0] 27)) := (hbm.block wp.heap.size (by simp)).trans (heap_alloc_new _ _))); clear hnm hbm))
          | (go_at_call 87; go_must (refine (part_any _ _ false false mx my ex (ey + (E - 1)) _ (by first | exact AAm.out.num | exact (AAm.out.alloc _).num) (by first | exact NM.out | exact NumV.later NM.out ((Below.refl _ _).alloc (Nat.le_refl _) _)) (by omega) (by omega) (by omega) (by omega) HX0.out HY0.out).mono ?_; rintro en wn ⟨vn, rfl, hvn, hbn⟩; have AAn : Hid (VarN wn w3.heap.size false sa sl sc ex mx) := (by first | exact AAm.out.later hbn | exact (AAm.out.alloc _).later hbn); obtain ⟨aan0, aan1, aan2⟩ := AAn.out.cells; have BBn : Hid (VarN wn w5.heap.size false ta tl tc ey my) := (by first | exact BBm.out.later hbn | exact (BBm.out.alloc _).later hbn); obtain ⟨bbn0, bbn1, bbn2⟩ := BBn.out.cells; have XXn : Hid (VarN wn w.heap.size nx ao len cap ex mx) := (by first | exact XXm.out.later hbn | exact (XXm.out.alloc _).later hbn); obtain ⟨xxn0, xxn1, xxn2⟩ := XXn.out.cells; have YYn : Hid (VarN wn (w.heap.size + 1) ny bo blen bcap ey my) := (by first | exact YYm.out.later hbn | exact (YYm.out.alloc _).later hbn); obtain ⟨yyn0, yyn1, yyn2⟩ := YYn.out.cells; have HBn : Hid (Below w.heap.size w wn) := (by first | exact HBm.out.trans (hbn.mono HBm.out.size) | exact (HBm.out.alloc HBm.out.size _).trans (hbn.mono (Nat.le_trans HBm.out.size (by simp)))); have nn1 : wn.heap.size ≠ w3.heap.size := Nat.ne_of_gt AAn.out.lt; have nn2 : wn.heap.size ≠ w5.heap.size := Nat.ne_of_gt BBn.out.lt; have NV : Hid (NumV wn vn false _ 0) := hvn; obtain ⟨ha, hl, hc, hxs, rfl, -⟩ := hvn; (try (have HZ2 : Hid (wn.heap[wp.heap.size]? = some (Obj.cells #[Value.bool false, Value.slice none 0 0, Value.int IntKind.i64 0] 27)) := (hbn.block wp.heap.size (heap_lt HZ1.out)).trans HZ1.out; obtain ⟨z0, z1, z2⟩ := three_cells HZ2.out; have fz := (fun j => frozen_of_row _ _ j _ _ HZ2.out))); (try (have HZ3 : Hid (wn.heap[wm.heap.size]? = some (Obj.cells #[Value.bool false, Value.slice none 0 0, Value.int IntKind.i64 0] 27)) := (hbn.block wm.heap.size (by simp)).trans (heap_alloc_new _ _); obtain ⟨z0, z1, z2⟩ := three_cells HZ3.out; have fz := (fun j => frozen_of_row _ _ j _ _ HZ3.out))); clear hbn)))
      · have HH1 : Hid (VarN (wn.alloc (Obj.cells #[Value.bool false, Value.slice ha hl hc, Value.int IntKind.i64 0] 27)) wn.heap.size false ha hl hc 0 _) := VarN.new NV.out
        have XX1 : Hid (VarN (wn.alloc (Obj.cells #[Value.bool false, Value.slice ha hl hc, Value.int IntKind.i64 0] 27)) w.heap.size nx ao len cap ex mx) := XXn.out.alloc _
        have YY1 : Hid (VarN (wn.alloc (Obj.cells #[Value.bool false, Value.slice ha hl hc, Value.int IntKind.i64 0] 27)) (w.heap.size + 1) ny bo blen bcap ey my) := YYn.out.alloc _
        have HB1 : Hid (Below w.heap.size w (wn.alloc (Obj.cells #[Value.bool false, Value.slice ha hl hc, Value.int IntKind.i64 0] 27))) := HBn.out.alloc HBn.out.size _
        have hne1 : wn.heap.size ≠ w.heap.size := Nat.ne_of_gt XXn.out.lt
        clear aap0 aap1 aap2 bbp0 bbp1 bbp2 xxp0 xxp1 xxp2 yyp0 yyp1 yyp2 aam0 aam1 aam2 bbm0 bbm1 bbm2 xxm0 xxm1 xxm2 yym0 yym1 yym2 aan0 aan1 aan2 bbn0 bbn1 bbn2 xxn0 xxn1 xxn2 yyn0 yyn1 yyn2
        clear nm1 nm2 nn1 nn2 np1 np2 AAp AAq AAm AAn BBp BBq BBm BBn XXp XXq XXm YYp YYq YYm HBp HBq HBm
        generalize (wn.alloc (Obj.cells #[Value.bool false, Value.slice ha hl hc, Value.int IntKind.i64 0] 27)) = W1 at *
        obtain ⟨h0, h1, h2⟩ := HH1.out.cells
        obtain ⟨u0, u1, u2⟩ := XX1.out.cells
        obtain ⟨v0, v1, v2⟩ := YY1.out.cells
        clear h0 h2 u1 u2 v1 v2
        obtain ⟨zs, hr3, hnm3, hm3⟩ := HH1.out.rd
        have hl3 : hl ≤ 2 := two_words hr3.length hr3.lt hnm3 hm3 HMATH.out.1
        have HR3 : Hid _ := hr3
        have HM3 : Hid _ := hm3
        clear hr3 hm3 hnm3
        go_wp2_with fail
        obtain ⟨Q, hQ⟩ : ∃ Q, mx * 2 ^ (ex - lowE ex (ey + (E - 1))).toNat / (my * 2 ^ (ey + (E - 1) - lowE ex (ey + (E - 1))).toNat) = Q := ⟨_, rfl⟩
        obtain ⟨R, hR⟩ : ∃ R, nz (mx * 2 ^ (ex - lowE ex (ey + (E - 1))).toNat % (my * 2 ^ (ey + (E - 1) - lowE ex (ey + (E - 1))).toNat)) = R := ⟨_, rfl⟩
        rw [hR]
        rw [hQ] at HM3
        have hM2 := HMATH.out
        rw [hQ, hR] at hM2
        have WC : ∀ W, Below W1.heap.size W1 W → Calls Try.prog 80 #[.slice ha hl hc] W fun e' w' => e' = .returned (.int .u64 ((Q : Nat) : Int)) ∧ w' = W := fun W hW => by
          have := word_any ha hl hc zs W (HR3.out.later hW) hl3
          rw [HM3.out] at this
          exact this
        have TC : ∀ W, Calls Try.prog 79 #[.int .i64 d, .bool (nx != ny), .int .u64 ((Q : Nat) : Int), .bool R, .int .i64 E] W fun e' w' => e' = .returned (.tuple #[.int .u64 ((rP d (nx != ny) R Q E).1 : Int), .bool (rP d (nx != ny) R Q E).2]) ∧ w' = W :=
          fun W => rtold_any d (nx != ny) R Q E HD.out hM2.1 (by omega) hM2.2.1 W _ rfl
        have HRN : Hid _ := hM2.2.2
        clear HMATH hM2 hl3 HH1 HR3 HM3 NV hQ hR
        generalize rP d (nx != ny) R Q E = pp at *
        obtain ⟨pa, pb⟩ := pp
        simp only at TC
        go_region_held3 (fun w' => w'.cell? ⟨w.heap.size, 0, none⟩ = some (.bool nx) ∧ w'.cell? ⟨w.heap.size + 1, 0, none⟩ = some (.bool ny) ∧ w'.cell? ⟨wn.heap.size, 1, none⟩ = some (.slice ha hl hc)) (go_keep)
          (first
            | (go_at_call 80; go_must (refine (WC _ ?_).mono ?_; exact (Below.refl _ _).drew; rintro ee ww ⟨rfl, rfl⟩))
            | (go_at_call 79; go_must (refine (TC _).mono ?_; rintro ee ww ⟨rfl, rfl⟩)))
        all_goals go_wp2_with fail
        all_goals
          go_ret2
          exact ⟨pa, pb, rfl, fun _ => HRN.out, fun h => absurd h HY0.out, HB1.out.drew⟩
      · have HNB : Hid (NumB wn wm.heap.size) := ⟨_, _, _, _, _, HZ3.out⟩
        have HH1 : Hid (VarN (((wn.setCell ⟨wm.heap.size, 0, none⟩ (.bool false)).setCell ⟨wm.heap.size, 1, none⟩ (.slice ha hl hc)).setCell ⟨wm.heap.size, 2, none⟩ (.int .i64 0)) wm.heap.size false ha hl hc 0 _) := VarN.own3 HNB.out HZ3.out NV.out
        have XX1 : Hid (VarN (((wn.setCell ⟨wm.heap.size, 0, none⟩ (.bool false)).setCell ⟨wm.heap.size, 1, none⟩ (.slice ha hl hc)).setCell ⟨wm.heap.size, 2, none⟩ (.int .i64 0)) w.heap.size nx ao len cap ex mx) := VarN.set3 _ _ _ HNB.out XXn.out (Nat.ne_of_lt XXm.out.lt)
        have YY1 : Hid (VarN (((wn.setCell ⟨wm.heap.size, 0, none⟩ (.bool false)).setCell ⟨wm.heap.size, 1, none⟩ (.slice ha hl hc)).setCell ⟨wm.heap.size, 2, none⟩ (.int .i64 0)) (w.heap.size + 1) ny bo blen bcap ey my) := VarN.set3 _ _ _ HNB.out YYn.out (Nat.ne_of_lt YYm.out.lt)
        have HB1 : Hid (Below w.heap.size w (((wn.setCell ⟨wm.heap.size, 0, none⟩ (.bool false)).setCell ⟨wm.heap.size, 1, none⟩ (.slice ha hl hc)).setCell ⟨wm.heap.size, 2, none⟩ (.int .i64 0))) := ((HBn.out.setCell (Nat.le_of_lt XXm.out.lt) _).setCell (Nat.le_of_lt XXm.out.lt) _).setCell (Nat.le_of_lt XXm.out.lt) _
        have hne1 : wm.heap.size ≠ w.heap.size := Nat.ne_of_gt XXm.out.lt
        clear aap0 aap1 aap2 bbp0 bbp1 bbp2 xxp0 xxp1 xxp2 yyp0 yyp1 yyp2 aam0 aam1 aam2 bbm0 bbm1 bbm2 xxm0 xxm1 xxm2 yym0 yym1 yym2 aan0 aan1 aan2 bbn0 bbn1 bbn2 xxn0 xxn1 xxn2 yyn0 yyn1 yyn2
        clear nm1 nm2 nn1 nn2 np1 np2 AAp AAq AAm AAn BBp BBq BBm BBn XXp XXq XXm YYp YYq YYm HBp HBq HBm
        clear z0 z1 z2 fz
        generalize (((wn.setCell ⟨wm.heap.size, 0, none⟩ (.bool false)).setCell ⟨wm.heap.size, 1, none⟩ (.slice ha hl hc)).setCell ⟨wm.heap.size, 2, none⟩ (.int .i64 0)) = W1 at *
        obtain ⟨h0, h1, h2⟩ := HH1.out.cells
        obtain ⟨u0, u1, u2⟩ := XX1.out.cells
        obtain ⟨v0, v1, v2⟩ := YY1.out.cells
        clear h0 h2 u1 u2 v1 v2
        obtain ⟨zs, hr3, hnm3, hm3⟩ := HH1.out.rd
        have hl3 : hl ≤ 2 := two_words hr3.length hr3.lt hnm3 hm3 HMATH.out.1
        have HR3 : Hid _ := hr3
        have HM3 : Hid _ := hm3
        clear hr3 hm3 hnm3
        go_wp2_with fail
        obtain ⟨Q, hQ⟩ : ∃ Q, mx * 2 ^ (ex - lowE ex (ey + (E - 1))).toNat / (my * 2 ^ (ey + (E - 1) - lowE ex (ey + (E - 1))).toNat) = Q := ⟨_, rfl⟩
        obtain ⟨R, hR⟩ : ∃ R, nz (mx * 2 ^ (ex - lowE ex (ey + (E - 1))).toNat % (my * 2 ^ (ey + (E - 1) - lowE ex (ey + (E - 1))).toNat)) = R := ⟨_, rfl⟩
        rw [hR]
        rw [hQ] at HM3
        have hM2 := HMATH.out
        rw [hQ, hR] at hM2
        have WC : ∀ W, Below W1.heap.size W1 W → Calls Try.prog 80 #[.slice ha hl hc] W fun e' w' => e' = .returned (.int .u64 ((Q : Nat) : Int)) ∧ w' = W := fun W hW => by
          have := word_any ha hl hc zs W (HR3.out.later hW) hl3
          rw [HM3.out] at this
          exact this
        have TC : ∀ W, Calls Try.prog 79 #[.int .i64 d, .bool (nx != ny), .int .u64 ((Q : Nat) : Int), .bool R, .int .i64 E] W fun e' w' => e' = .returned (.tuple #[.int .u64 ((rP d (nx != ny) R Q E).1 : Int), .bool (rP d (nx != ny) R Q E).2]) ∧ w' = W :=
          fun W => rtold_any d (nx != ny) R Q E HD.out hM2.1 (by omega) hM2.2.1 W _ rfl
        have HRN : Hid _ := hM2.2.2
        clear HMATH hM2 hl3 HH1 HR3 HM3 NV hQ hR
        generalize rP d (nx != ny) R Q E = pp at *
        obtain ⟨pa, pb⟩ := pp
        simp only at TC
        go_region_held3 (fun w' => w'.cell? ⟨w.heap.size, 0, none⟩ = some (.bool nx) ∧ w'.cell? ⟨w.heap.size + 1, 0, none⟩ = some (.bool ny) ∧ w'.cell? ⟨wm.heap.size, 1, none⟩ = some (.slice ha hl hc)) (go_keep)
          (first
            | (go_at_call 80; go_must (refine (WC _ ?_).mono ?_; exact (Below.refl _ _).drew; rintro ee ww ⟨rfl, rfl⟩))
            | (go_at_call 79; go_must (refine (TC _).mono ?_; rintro ee ww ⟨rfl, rfl⟩)))
        all_goals go_wp2_with fail
        all_goals
          go_ret2
          exact ⟨pa, pb, rfl, fun _ => HRN.out, fun h => absurd h HY0.out, HB1.out.drew⟩
      · have HNB : Hid (NumB wn wp.heap.size) := ⟨_, _, _, _, _, HZ2.out⟩
        have HH1 : Hid (VarN (((wn.setCell ⟨wp.heap.size, 0, none⟩ (.bool false)).setCell ⟨wp.heap.size, 1, none⟩ (.slice ha hl hc)).setCell ⟨wp.heap.size, 2, none⟩ (.int .i64 0)) wp.heap.size false ha hl hc 0 _) := VarN.own3 HNB.out HZ2.out NV.out
        have XX1 : Hid (VarN (((wn.setCell ⟨wp.heap.size, 0, none⟩ (.bool false)).setCell ⟨wp.heap.size, 1, none⟩ (.slice ha hl hc)).setCell ⟨wp.heap.size, 2, none⟩ (.int .i64 0)) w.heap.size nx ao len cap ex mx) := VarN.set3 _ _ _ HNB.out XXn.out (Nat.ne_of_lt XXp.out.lt)
        have YY1 : Hid (VarN (((wn.setCell ⟨wp.heap.size, 0, none⟩ (.bool false)).setCell ⟨wp.heap.size, 1, none⟩ (.slice ha hl hc)).setCell ⟨wp.heap.size, 2, none⟩ (.int .i64 0)) (w.heap.size + 1) ny bo blen bcap ey my) := VarN.set3 _ _ _ HNB.out YYn.out (Nat.ne_of_lt YYp.out.lt)
        have HB1 : Hid (Below w.heap.size w (((wn.setCell ⟨wp.heap.size, 0, none⟩ (.bool false)).setCell ⟨wp.heap.size, 1, none⟩ (.slice ha hl hc)).setCell ⟨wp.heap.size, 2, none⟩ (.int .i64 0))) := ((HBn.out.setCell (Nat.le_of_lt XXp.out.lt) _).setCell (Nat.le_of_lt XXp.out.lt) _).setCell (Nat.le_of_lt XXp.out.lt) _
        have hne1 : wp.heap.size ≠ w.heap.size := Nat.ne_of_gt XXp.out.lt
        clear aap0 aap1 aap2 bbp0 bbp1 bbp2 xxp0 xxp1 xxp2 yyp0 yyp1 yyp2 aam0 aam1 aam2 bbm0 bbm1 bbm2 xxm0 xxm1 xxm2 yym0 yym1 yym2 aan0 aan1 aan2 bbn0 bbn1 bbn2 xxn0 xxn1 xxn2 yyn0 yyn1 yyn2
        clear nm1 nm2 nn1 nn2 np1 np2 AAp AAq AAm AAn BBp BBq BBm BBn XXp XXq XXm YYp YYq YYm HBp HBq HBm
        clear z0 z1 z2 fz
        generalize (((wn.setCell ⟨wp.heap.size, 0, none⟩ (.bool false)).setCell ⟨wp.heap.size, 1, none⟩ (.slice ha hl hc)).setCell ⟨wp.heap.size, 2, none⟩ (.int .i64 0)) = W1 at *
        obtain ⟨h0, h1, h2⟩ := HH1.out.cells
        obtain ⟨u0, u1, u2⟩ := XX1.out.cells
        obtain ⟨v0, v1, v2⟩ := YY1.out.cells
        clear h0 h2 u1 u2 v1 v2
        obtain ⟨zs, hr3, hnm3, hm3⟩ := HH1.out.rd
        have hl3 : hl ≤ 2 := two_words hr3.length hr3.lt hnm3 hm3 HMATH.out.1
        have HR3 : Hid _ := hr3
        have HM3 : Hid _ := hm3
        clear hr3 hm3 hnm3
        go_wp2_with fail
        obtain ⟨Q, hQ⟩ : ∃ Q, mx * 2 ^ (ex - lowE ex (ey + (E - 1))).toNat / (my * 2 ^ (ey + (E - 1) - lowE ex (ey + (E - 1))).toNat) = Q := ⟨_, rfl⟩
        obtain ⟨R, hR⟩ : ∃ R, nz (mx * 2 ^ (ex - lowE ex (ey + (E - 1))).toNat % (my * 2 ^ (ey + (E - 1) - lowE ex (ey + (E - 1))).toNat)) = R := ⟨_, rfl⟩
        rw [hR]
        rw [hQ] at HM3
        have hM2 := HMATH.out
        rw [hQ, hR] at hM2
        have WC : ∀ W, Below W1.heap.size W1 W → Calls Try.prog 80 #[.slice ha hl hc] W fun e' w' => e' = .returned (.int .u64 ((Q : Nat) : Int)) ∧ w' = W := fun W hW => by
          have := word_any ha hl hc zs W (HR3.out.later hW) hl3
          rw [HM3.out] at this
          exact this
        have TC : ∀ W, Calls Try.prog 79 #[.int .i64 d, .bool (nx != ny), .int .u64 ((Q : Nat) : Int), .bool R, .int .i64 E] W fun e' w' => e' = .returned (.tuple #[.int .u64 ((rP d (nx != ny) R Q E).1 : Int), .bool (rP d (nx != ny) R Q E).2]) ∧ w' = W :=
          fun W => rtold_any d (nx != ny) R Q E HD.out hM2.1 (by omega) hM2.2.1 W _ rfl
        have HRN : Hid _ := hM2.2.2
        clear HMATH hM2 hl3 HH1 HR3 HM3 NV hQ hR
        generalize rP d (nx != ny) R Q E = pp at *
        obtain ⟨pa, pb⟩ := pp
        simp only at TC
        go_region_held3 (fun w' => w'.cell? ⟨w.heap.size, 0, none⟩ = some (.bool nx) ∧ w'.cell? ⟨w.heap.size + 1, 0, none⟩ = some (.bool ny) ∧ w'.cell? ⟨wp.heap.size, 1, none⟩ = some (.slice ha hl hc)) (go_keep)
          (first
            | (go_at_call 80; go_must (refine (WC _ ?_).mono ?_; exact (Below.refl _ _).drew; rintro ee ww ⟨rfl, rfl⟩))
            | (go_at_call 79; go_must (refine (TC _).mono ?_; rintro ee ww ⟨rfl, rfl⟩)))
        all_goals go_wp2_with fail
        all_goals
          go_ret2
          exact ⟨pa, pb, rfl, fun _ => HRN.out, fun h => absurd h HY0.out, HB1.out.drew⟩
end Go.Proofs.Ytajopgndpomggaa
