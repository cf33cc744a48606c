import Derived.Test.YtbjnkefjlaplkaaChecked
import Derived.Test.YtbjnkefjlaplkaaPur
import Derived.WalkKit
import Derived.WalkSmall
import Derived.WalkLawsBesides
import Derived.Laws.BitsAll
import Derived.Laws.OwnMore
import Derived.OneCell
import Derived.Deep.RegionWith
import Derived.Deep.DeepCutAuto
import Derived.BigRegion
import Derived.BigGuard
namespace Go.Proofs.Ytbjnkefjlaplkaa
open Go.RowKit
set_option linter.unusedVariables false

theorem Try.infoU32 : (Try.prog.info? 94).map (fun i => (i.zero, i.size, i.bytes)) = some (some (.int .u32 0), 1, 4) := by kernel_rfl
theorem Try.elemU32 : Try.prog.elem 58 = 94 := by kernel_rfl
theorem Try.sizeU32 (w : World) : (sizeOf 94).run Try.prog w = .ok 1 w := by kernel_rfl

/-- THE SLICE OF WORDS '.slice ao len cap' READS AS xs. -/
structure Rd4 (w : World) (ao : Option Addr) (len cap : Nat) (xs : List Nat) : Prop where
  length : xs.length = len
  le : len ≤ cap
  max : cap ≤ 1000000
  lt : U4 xs
  nil : ao = none → cap = 0
  cells : len = 0 ∨ ∃ b off, ao = some ⟨b, off, none⟩ ∧ ∀ j, j < len → w.cell? ⟨b, off + j, none⟩ = some (.int .u32 ((xs[j]?.getD 0 : Nat) : Int))
theorem Rd4.later {w w' : World} {ao : Option Addr} {len cap : Nat} {xs : List Nat} (h : Rd4 w ao len cap xs) (hb : Below w.heap.size w w') : Rd4 w' ao len cap xs := by
  refine ⟨h.length, h.le, h.max, h.lt, h.nil, ?_⟩
  rcases h.cells with h0 | ⟨b, off, ha, hc⟩
  · exact .inl h0
  · refine .inr ⟨b, off, ha, fun j hj => ?_⟩
    have hl := World.block_lt_of_cell? w _ (hc j hj)
    rw [hb.cell (p := ⟨b, off + j, none⟩) hl]
    exact hc j hj
theorem Rd4.none (w : World) : Rd4 w none 0 0 [] := ⟨rfl, Nat.le_refl _, by decide, (fun _ h => by cases h), fun _ => rfl, .inl rfl⟩
/-- The first q words. -/
theorem Rd4.cut {W : World} {ao : Option Addr} {len cap : Nat} {xs : List Nat} (hr : Rd4 W ao len cap xs) (q : Nat) (hq : q ≤ len) :
    Rd4 W (if cap = 0 then ao else ao.map (·.add (0 * 1))) q cap (xs.take q) := by
  have hl := hr.length
  refine ⟨by simp [hl]; omega, by have := hr.le; omega, hr.max, hr.lt.take q, ?_, ?_⟩
  · intro h
    split at h
    · assumption
    · cases ao with
      | none => exact hr.nil rfl
      | some a => simp at h
  · by_cases h0 : q = 0
    · exact .inl h0
    · right
      rcases hr.cells with h1 | ⟨b, off, rfl, hc⟩
      · omega
      · refine ⟨b, off, ?_, fun j hj => ?_⟩
        · have := hr.le; rw [if_neg (by omega), Option.map_some, Addr.add_lit, Nat.zero_mul, Nat.add_zero]
        · rw [hc j (by omega), List.getElem?_take, if_pos (by omega)]
theorem cut4 {W : World} {ao : Option Addr} {len cap : Nat} {xs : List Nat} (hr : Rd4 W ao len cap xs) (q : Nat) (hq : q ≤ len) :
    ∃ ao', (∀ w, (Instr.slice 58 (.slice ao len cap) none (some (.int .i64 q)) none).run Try.prog w = .ok (.slice ao' q cap) w) ∧ Rd4 W ao' q cap (xs.take q) := by
  refine ⟨_, fun w => ?_, hr.cut q hq⟩
  have hle := hr.le
  rw [run_slice_h w _ _ _ _ (by rw [Try.elemU32]; exact Try.underlying58) .i64 q (by omega) (by omega), Try.elemU32, Try.sizeU32]
  simp [Result.andThen, sliced]

set_option maxRecDepth 100000 in
set_option maxHeartbeats 1000000 in
theorem trim_any (ao : Option Addr) (len cap : Nat) (xs : List Nat) (w : World) (hr : Rd4 w ao len cap xs) :
    Calls Try.prog 48 #[.slice ao len cap] w fun e w' => ∃ ao' n, e = .returned (.slice ao' n cap) ∧ w' = w ∧ Rd4 w ao' n cap (xs.take n) ∧ n ≤ len ∧ Nm (xs.take n) ∧ dig (xs.take n) = dig xs := by
  have HR : Hid _ := hr
  have HL : Hid (xs.length = len) := hr.length
  have hle := hr.le
  have hmx := hr.max
  have hcl := hr.cells
  have HLT : Hid (U4 xs) := hr.lt
  clear hr
  go_enter Try.func48, Try.ntmps48
  go_wp2_with fail
  go_loop [3] (fun i => ∃ k : Nat, k ≤ len ∧ i = .int .i64 k ∧ Hid (dig (xs.take k) = dig xs)) (fun i => (intOf i).toNat)
  case atStart => exact ⟨len, by omega, rfl, by unfold Hid; rw [← HL.out, List.take_length]⟩
  case round =>
    obtain ⟨k, hk, rfl, hD⟩ := hrel
    cases k with
    | zero =>
      obtain ⟨ao', hcut, hr'⟩ := cut4 HR.out 0 (by omega)
      have HR' : Hid _ := hr'
      clear hr'
      have hz : ((0 : Nat) : Int) = 0 := rfl
      rw [hz] at hcut ⊢
      go_wp2
      go_ret
      exact ⟨ao', 0, rfl, rfl, HR'.out, by omega, .inl (by simp), hD.out⟩
    | succ k =>
      rcases hcl with h0 | ⟨b, off, rfl, hc⟩
      · omega
      have g := hc k (by omega)
      have hkl : k < xs.length := by rw [HL.out]; omega
      have hlt := HLT.out.at k
      have HDS : Hid _ := dig_take_succ hkl
      have HX : Hid (xs[k]?.getD 0 = (xs.take (k + 1))[(xs.take (k + 1)).length - 1]?.getD 0) := by
        unfold Hid; rw [List.length_take, Nat.min_eq_left (by omega), show k + 1 - 1 = k from rfl, List.getElem?_take, if_pos (by omega)]
      obtain ⟨ao', hcut, hr'⟩ := cut4 HR.out (k + 1) (by omega)
      have HR' : Hid _ := hr'
      clear hr' hc hkl
      have hz : ((k + 1 : Nat) : Int) = (k : Int) + 1 := rfl
      rw [hz] at hcut ⊢
      by_cases hx : xs[k]?.getD 0 = 0
      · rw [hx] at g
        have g' : w.cell? ⟨b, off + k, none⟩ = some (.int .u32 0) := g
        clear g hcut
        go_wp2
        go_round
        case rel => exact ⟨k, by omega, by go_num, by unfold Hid; have h1 := HDS.out; have h2 := hD.out; rw [hx, Nat.mul_zero] at h1; omega⟩
        case measure => show ((k : Int)).toNat < ((k : Int) + 1).toNat; omega
      · generalize hxe : xs[k]?.getD 0 = x at *
        go_wp2
        go_ret
        exact ⟨ao', k + 1, rfl, rfl, HR'.out, by omega, .inr (by rw [← HX.out]; exact hx), hD.out⟩

set_option maxRecDepth 100000 in
set_option maxHeartbeats 1000000 in
theorem length_any (ao : Option Addr) (len cap : Nat) (xs : List Nat) (w : World) (hr : Rd4 w ao len cap xs) (hn : Nm xs) :
    Calls Try.prog 50 #[.slice ao len cap] w fun e w' => e = .returned (.int .i64 (bl (dig xs) : Nat)) ∧ w' = w := by
  have hle := hr.le
  have hmx := hr.max
  by_cases h0 : len = 0
  · subst h0
    have hx : xs = [] := List.eq_nil_of_length_eq_zero hr.length
    subst hx
    clear hr
    go_enter Try.func50, Try.ntmps50
    go_wp2
    go_ret
    exact ⟨rfl, rfl⟩
  · have hne : xs ≠ [] := by intro h; rw [h] at hr; exact h0 hr.length.symm
    have HB : Hid _ := (bl_dig hr.lt hn hne).1
    have hlen := hr.length
    rcases hr.cells with h1 | ⟨b, off, rfl, hc⟩
    · omega
    have g := hc (len - 1) (by omega)
    have ht := hr.lt.at (len - 1)
    have htb : bl (xs[len - 1]?.getD 0) ≤ 32 := by
      by_cases hz : xs[len - 1]?.getD 0 = 0
      · rw [hz, bl_zero]; omega
      · have hb := bl_spec hz
        rcases Nat.lt_or_ge 32 (bl (xs[len - 1]?.getD 0)) with h | h
        · have : 2 ^ 32 ≤ 2 ^ (bl (xs[len - 1]?.getD 0) - 1) := Nat.pow_le_pow_right (by omega) (by omega)
          have h32 : (2 : Nat) ^ 32 = 4294967296 := by decide
          omega
        · exact h
    rw [hlen] at HB
    clear hc hr hlen
    generalize xs[len - 1]?.getD 0 = t at *
    have HBL : Hid (bl (dig xs) = 32 * (len - 1) + bl t) := HB
    clear HB
    generalize hbt : bl t = B at *
    obtain ⟨L, rfl⟩ : ∃ L, len = L + 1 := ⟨len - 1, by omega⟩
    rw [show L + 1 - 1 = L from rfl] at g HBL
    have hz : ((L + 1 : Nat) : Int) = (L : Int) + 1 := rfl
    have hb0 : ((L : Int) + 1 == 0) = false := by rw [beq_eq_false_iff_ne]; omega
    go_enter Try.func50, Try.ntmps50
    go_wp2_with fail
    go_loop [3, 4] (fun n x => ∃ (c y : Nat), x = .int .u32 y ∧ y < 4294967296 ∧ n = .int .i64 (32 * (L : Int) + c) ∧ Hid (c + bl y = B) ∧ c ≤ 32) (fun _ x => (intOf x).toNat)
    case atStart => exact ⟨0, t, rfl, ht, by simp, by unfold Hid; omega, by omega⟩
    case round =>
      obtain ⟨c, y, rfl, hy, rfl, hB, hc⟩ := hrel
      by_cases hy0 : y = 0
      · subst hy0
        have hcB : c = B := by have := hB.out; rw [bl_zero] at this; omega
        have hz0 : ((0 : Nat) : Int) = 0 := rfl
        rw [hz0]
        go_wp2
        go_ret
        refine ⟨?_, rfl⟩
        rw [HBL.out, show ((32 * L + B : Nat) : Int) = 32 * (L : Int) + B by omega]
        rfl
      · have hh := bl_half hy0
        have HH : Hid (c + 1 + bl (y / 2) = B) := by unfold Hid; have := hB.out; omega
        have hcl : c + 1 ≤ 32 := by have := HH.out; omega
        clear hh
        go_wp2
        go_round
        case rel => exact ⟨c + 1, y / 2, by go_num, by omega, by go_num, HH, hcl⟩
        case measure => show (((y : Int) / 2)).toNat < ((y : Int)).toNat; omega
end Go.Proofs.Ytbjnkefjlaplkaa

namespace Go.Proofs.Ytbjnkefjlaplkaa
open Go.RowKit
set_option linter.unusedVariables false

def v4 (x : Nat) : Value := .int .u32 (x : Int)
/-- Words that the call itself made. -/
def Own4 (w : World) (base g n : Nat) (xs : List Nat) : Prop := xs.length = n ∧ w.ownsRow base 94 1 (.slice (some ⟨g, 0, none⟩) n n) n (xs.map v4)
theorem Own4.cell {w : World} {base g n : Nat} {xs : List Nat} (h : Own4 w base g n xs) (j : Nat) (hj : j < n) : w.cell? ⟨g, j, none⟩ = some (.int .u32 ((xs[j]?.getD 0 : Nat) : Int)) := by
  rw [World.ownsRow.cellAt h.2 j (by omega), List.getElem?_map, List.getElem?_eq_getElem (by rw [h.1]; exact hj)]
  rfl
theorem Own4.frozen {w : World} {base g n : Nat} {xs : List Nat} (h : Own4 w base g n xs) (j : Nat) : w.frozen? ⟨g, j, none⟩ = false := World.ownsRow.frozenAt h.2 j
theorem Own4.set {w : World} {base g n : Nat} {xs : List Nat} (h : Own4 w base g n xs) (j x : Nat) : Own4 (w.setCell ⟨g, j, none⟩ (.int .u32 (x : Int))) base g n (xs.set j x) := by
  refine ⟨by rw [List.length_set]; exact h.1, ?_⟩
  rw [List.map_set]
  exact (World.ownsRow.stored h.2 j (v4 x)).1
theorem Own4.base {w : World} {base g n : Nat} {xs : List Nat} (h : Own4 w base g n xs) : base ≤ g := by
  rcases h.2.2 with ⟨h1, _⟩ | ⟨g2, cap2, cur2, hv, hg2, _⟩
  · simp at h1
  · simp only [Value.slice.injEq, Option.some.injEq, Addr.mk.injEq, and_true, true_and] at hv
    obtain ⟨rfl, rfl⟩ := hv
    exact hg2
theorem Own4.rd {w : World} {base g n : Nat} {xs : List Nat} (h : Own4 w base g n xs) (hu : U4 xs) (hn : n ≤ 1000000) : Rd4 w (some ⟨g, 0, none⟩) n n xs :=
  ⟨h.1, Nat.le_refl _, hn, hu, (fun h => by cases h), .inr ⟨g, 0, rfl, fun j hj => by rw [Nat.zero_add]; exact h.cell j hj⟩⟩
/-- A store into the call's own words leaves what was there. -/
theorem below_set {w0 w : World} {base g j : Nat} {v : Value} (h : Below base w0 w) (hg : base ≤ g) : Below base w0 (w.setCell ⟨g, j, none⟩ v) := h.setCell (p := ⟨g, j, none⟩) hg v

/-- make([]uint32, n) -/
theorem make4 (w : World) (n : Nat) (hn : n ≤ 1000000) : ∃ w', (∀ z : Int, z = n → (Instr.makeSlice 58 (.int .i64 z) (.int .i64 z)).run Try.prog w = .ok (.slice (some ⟨w.heap.size, 0, none⟩) n n) w') ∧ Own4 w' w.heap.size w.heap.size n (List.replicate n 0) ∧ Below w.heap.size w w' := by
  obtain ⟨i0, hi, hz0, hz1, hz2⟩ := info_parts Try.infoU32
  obtain ⟨w', h1, h2, h3⟩ := run_make_full (P := Try.prog) w w.heap.size 58 94 i0 (.int .u32 0) 1 Try.underlying58 hi hz0 hz1 .i64 .i64 n (by rw [hz2]; omega) (by simp only [maxLen]; omega) (Nat.le_refl _)
  refine ⟨w', fun z hz => by rw [hz]; exact h1, ⟨List.length_replicate, ?_⟩, ?_⟩
  · have e : (madeCells (Value.int IntKind.u32 0).cells (n * 1)).toList = (List.replicate n 0).map v4 := by
      rw [List.map_replicate, Nat.mul_one]
      exact toList_madeCells_one _ _
    rw [e] at h2
    exact h2
  · exact (Below.refl _ _).grown h3 (Nat.le_refl _) (fun k hk => by cases hk)
end Go.Proofs.Ytbjnkefjlaplkaa

namespace Go.Proofs.Ytbjnkefjlaplkaa
open Go.RowKit
set_option linter.unusedVariables false

set_option maxRecDepth 100000 in
set_option maxHeartbeats 2000000 in
theorem left_any (ao : Option Addr) (len cap : Nat) (xs : List Nat) (n : Nat) (w : World) (hr : Rd4 w ao len cap xs) (hn : n ≤ 100000) (hl : len ≤ 10000) :
    Calls Try.prog 70 #[.slice ao len cap, .int .i64 n] w fun e w' => ∃ ao' k cap' zs, e = .returned (.slice ao' k cap') ∧ Rd4 w' ao' k cap' zs ∧ Nm zs ∧ dig zs = dig xs * 2 ^ n ∧ Below w.heap.size w w' ∧ k ≤ len + n / 32 + 1 := by
  have hle := hr.le
  have hmx := hr.max
  by_cases h0 : len = 0
  · subst h0
    have hx : xs = [] := List.eq_nil_of_length_eq_zero hr.length
    subst hx
    clear hr
    go_enter Try.func70, Try.ntmps70
    go_wp2
    go_ret
    exact ⟨none, 0, 0, [], rfl, Rd4.none _, .inl rfl, by simp [dig], Below.refl _ _, by omega⟩
  · have hb0 : ((len : Int) == 0) = false := by rw [beq_eq_false_iff_ne]; omega
    obtain ⟨q, hq⟩ : ∃ q : Nat, n / 32 = q := ⟨_, rfl⟩
    obtain ⟨s, hs⟩ : ∃ s : Nat, n % 32 = s := ⟨_, rfl⟩
    have hqi : (n : Int) / 32 = q := by omega
    have hsi : (n : Int) % 32 = s := by omega
    have hs32 : s < 32 := by omega
    have hqb : q ≤ 3200 := by omega
    obtain ⟨w1, hmk, hO, hB1⟩ := make4 w (len + q + 1) (by omega)
    have hmk' := hmk ((len : Int) + q + 1) (by omega)
    have HR : Hid _ := hr
    have HN : Hid (n = 32 * q + s) := by unfold Hid; omega
    have HO : Hid _ := hO
    have HB1 : Hid _ := hB1
    clear hmk hr hq hs hO hB1
    go_enter Try.func70, Try.ntmps70
    go_wp2_with fail
    go_loopg [6] len (fun gg i wx => ∃ (k : Nat) (zs : List Nat), k ≤ len ∧ i = .int .i64 k ∧ Hid (Own4 wx w.heap.size w.heap.size (len + q + 1) zs) ∧ Hid (Below w.heap.size w wx) ∧ Hid (U4 zs) ∧ Hid (dig zs = dig (xs.take k) * 2 ^ n) ∧ Hid (∀ j, k + q < j → zs[j]?.getD 0 = 0) ∧ Hid (zs[k + q]?.getD 0 < 2 ^ s) ∧ len ≤ k + gg)
    case atStart =>
      refine ⟨0, List.replicate (len + q + 1) 0, by omega, rfl, HO, HB1, ?_, ?_, ?_, ?_, by omega⟩
      · intro x hx; rw [List.eq_of_mem_replicate hx]; decide
      · unfold Hid; rw [dig_zeros]; simp [dig]
      · intro j _; by_cases hj : j < len + q + 1 <;> simp [hj]
      · unfold Hid; rw [List.getElem?_replicate, if_pos (by omega)]; exact Nat.two_pow_pos s
    case round =>
      obtain ⟨k, zs, hk, rfl, HOz, HBz, HUz, HDz, HZz, HLz, hfu⟩ := hrel
      by_cases hlt : k < len
      · obtain ⟨fu, rfl⟩ : ∃ g, gk = g + 1 := ⟨gk - 1, by omega⟩
        rcases HR.out.cells with h1 | ⟨b, off, rfl, hc⟩
        · omega
        have g := (HBz.out.cell (World.block_lt_of_cell? w _ (hc k hlt))).trans (hc k hlt)
        have hx := HR.out.lt.at k
        have gz := HOz.out.cell (k + q) (by omega)
        have gf := HOz.out.frozen
        have hz1 := HOz.out.set (k + q)
        have hzb := HUz.out.at (k + q)
        clear hc
        have hkl : k < xs.length := by rw [HR.out.length]; exact hlt
        have HTS : Hid _ := dig_take_succ hkl
        have hst := left_step (T := 2 ^ n) (D := dig (xs.take k)) (N := 0) hs32 hx (by rw [HOz.out.1]; omega) HUz.out HZz.out HLz.out HDz.out (Nat.mul_one _)
        have HST : Hid _ := hst
        have hV1 := hst.2.2.2.2.1
        have hV2 := hst.2.2.2.2.2
        clear hst hkl
        generalize hxe : xs[k]?.getD 0 = x at *
        generalize hze : zs[k + q]?.getD 0 = z at *
        have hXb : x * 2 ^ s < 9223372036854775808 := by
          have h2 : (2 : Nat) ^ s ≤ 2 ^ 31 := Nat.pow_le_pow_right (by omega) (by omega)
          have h31 : (2 : Nat) ^ 31 = 2147483648 := by decide
          have h3 : x * 2 ^ s ≤ x * 2147483648 := Nat.mul_le_mul_left _ (by omega)
          omega
        have hsh : IntKind.u64.wrap ((x : Int) * 2 ^ s) = ((x * 2 ^ s : Nat) : Int) := by
          rw [show (x : Int) * 2 ^ s = ((x * 2 ^ s : Nat) : Int) by rw [Int.natCast_mul, Int.natCast_pow]; rfl, IntKind.wrap_u64]
          omega
        have hor1 : bits .or .u32 (z : Int) (((x * 2 ^ s : Nat) : Int) % 4294967296) = ((z + x * 2 ^ s % 4294967296 : Nat) : Int) := by
          rw [show ((x * 2 ^ s : Nat) : Int) % 4294967296 = ((x * 2 ^ s % 4294967296 : Nat) : Int) by omega, u32_or_nat _ _ hzb (Nat.mod_lt _ (by decide))]
          congr 1
          have hd : (2 ^ s : Nat) ∣ x * 2 ^ s % 4294967296 := by
            rw [show (4294967296 : Nat) = 2 ^ (32 - s) * 2 ^ s by rw [← Nat.pow_add, show 32 - s + s = 32 by omega]]
            rw [Nat.mul_mod_mul_right]; exact Nat.dvd_mul_left ..
          obtain ⟨c, hc⟩ := hd
          rw [hc, Nat.or_comm, ← Nat.two_pow_add_eq_or_of_lt HLz.out, Nat.add_comm]
        have hor2 : bits .or .u32 0 (((x * 2 ^ s : Nat) : Int) / 4294967296) = ((x * 2 ^ s / 4294967296 : Nat) : Int) := by
          rw [show ((x * 2 ^ s : Nat) : Int) / 4294967296 = ((x * 2 ^ s / 4294967296 : Nat) : Int) by omega, show (0 : Int) = ((0 : Nat) : Int) from rfl, u32_or_nat _ _ (by decide) hV2, Nat.zero_or]
        have O1 := hz1 (z + x * 2 ^ s % 4294967296)
        have gz2 := O1.cell (k + q + 1) (by omega)
        rw [List.getElem?_set, if_neg (by omega), HZz.out (k + q + 1) (by omega)] at gz2
        have gf2 := O1.frozen
        have HO2 : Hid _ := O1.set (k + q + 1) (x * 2 ^ s / 4294967296)
        clear O1 hz1
        generalize hXe : x * 2 ^ s = X at *
        generalize hV1e : z + X % 4294967296 = V1 at *
        generalize hV2e : X / 4294967296 = V2 at *
        have gz2' : (wr.setCell ⟨w.heap.size, k + q, none⟩ (.int .u32 V1)).cell? ⟨w.heap.size, k + q + 1, none⟩ = some (.int .u32 0) := gz2
        clear gz2
        go_wp2_with fail
        go_roundg fu
        case rel =>
          refine ⟨k + 1, _, by omega, by go_num, HO2, ?_, HST.out.1, ?_, ?_, ?_, by omega⟩
          · exact below_set (below_set HBz.out (Nat.le_refl _)) (Nat.le_refl _)
          · unfold Hid
            rw [HST.out.2.1, HDz.out, HTS.out, Nat.add_mul, HN.out, Nat.pow_add, ← hXe]
            congr 1
            show wd (k + q) * (x * 2 ^ s) = wd k * x * (wd q * 2 ^ s)
            rw [wd_add, Nat.mul_mul_mul_comm]
          · unfold Hid; rw [show k + 1 + q = k + q + 1 by omega]; exact HST.out.2.2.1
          · unfold Hid; rw [show k + 1 + q = k + q + 1 by omega]; exact HST.out.2.2.2.1
        case measure => omega
      · obtain rfl : k = len := by omega
        have HTL : Hid (xs.take k = xs) := by unfold Hid; exact List.take_of_length_le (by rw [HR.out.length]; omega)
        go_wp2_with (go_at_call 48; refine (trim_any _ _ _ zs _ (HOz.out.rd HUz.out (by omega))).mono ?_; rintro e w' ⟨ao', m, rfl, rfl, hr', hm, hnm, hdg⟩)
        go_ret
        exact ⟨ao', m, _, _, rfl, hr', hnm, by rw [hdg, HDz.out, HTL.out], HBz.out, by have := HN.out; omega⟩
end Go.Proofs.Ytbjnkefjlaplkaa

namespace Go.Proofs.Ytbjnkefjlaplkaa
open Go.RowKit
set_option linter.unusedVariables false

/-- Is it not 0? -/
def nz (m : Nat) : Bool := m != 0
theorem nz_true {m : Nat} (h : m ≠ 0) : nz m = true := by unfold nz; rw [bne_iff_ne]; exact h
set_option maxRecDepth 100000 in
set_option maxHeartbeats 600000 in
theorem right_any (ao : Option Addr) (len cap : Nat) (xs : List Nat) (n : Nat) (w : World) (hr : Rd4 w ao len cap xs) (hn : n ≤ 100000) (hl : len ≤ 10000) :
    Calls Try.prog 71 #[.slice ao len cap, .int .i64 n] w fun e w' => ∃ ao' k cap', e = .returned (.tuple #[.slice ao' k cap', .bool (nz (dig xs % 2 ^ n))]) ∧ ∃ zs, Rd4 w' ao' k cap' zs ∧ Nm zs ∧ dig zs = dig xs / 2 ^ n ∧ Below w.heap.size w w' ∧ k ≤ len := by
  have hle := hr.le
  have hmx := hr.max
  obtain ⟨q, hq⟩ : ∃ q : Nat, n / 32 = q := ⟨_, rfl⟩
  obtain ⟨s, hs⟩ : ∃ s : Nat, n % 32 = s := ⟨_, rfl⟩
  have hqi : (n : Int) / 32 = q := by omega
  have hsi : (n : Int) % 32 = s := by omega
  have hs32 : s < 32 := by omega
  have hqb : q ≤ 3200 := by omega
  have HR : Hid _ := hr
  have HN : Hid (n = 32 * q + s) := by unfold Hid; omega
  clear hr hq hs
  go_enter Try.func71, Try.ntmps71
  go_wp2_with fail
  go_loop [6, 7] (fun r i => ∃ k : Nat, k ≤ len ∧ k ≤ q ∧ i = .int .i64 k ∧ r = .bool (nz (dig (xs.take k)))) (fun _ i => len - (intOf i).toNat)
  case atStart => exact ⟨0, by omega, by omega, rfl, rfl⟩
  case round =>
    obtain ⟨k, hk, hkq, rfl, rfl⟩ := hrel
    by_cases hlt : k < len ∧ k < q
    · obtain ⟨hlt, hlq⟩ := hlt
      rcases HR.out.cells with h1 | ⟨b, off, rfl, hc⟩
      · omega
      have g := hc k hlt
      have hx := HR.out.lt.at k
      have hkl : k < xs.length := by rw [HR.out.length]; exact hlt
      have HTS : Hid _ := dig_take_succ hkl
      have hwp := wd_pos k
      clear hc hkl
      generalize hxe : xs[k]?.getD 0 = x at *
      by_cases hd : dig (xs.take k) = 0
      · have hd1 : nz (dig (xs.take k)) = false := by rw [hd]; rfl
        rw [hd1]
        have hres : nz (dig (xs.take (k + 1))) = ((x : Int) != 0) := by
          rw [HTS.out, hd, Nat.zero_add]
          by_cases hx0 : x = 0
          · subst hx0; rfl
          · have : ((x : Int) != 0) = true := by rw [bne_iff_ne]; omega
            rw [this]; exact nz_true (by have := Nat.mul_pos hwp (show 0 < x by omega); omega)
        go_wp2_with fail
        go_round
        case rel => exact ⟨k + 1, by omega, by omega, by go_num, by rw [hres]⟩
        case measure => show len - ((k : Int) + 1).toNat < len - (k : Int).toNat; omega
      · have hd1 : nz (dig (xs.take k)) = true := nz_true hd
        rw [hd1]
        have hres : nz (dig (xs.take (k + 1))) = true := nz_true (by rw [HTS.out]; omega)
        go_wp2_with fail
        go_round
        case rel => exact ⟨k + 1, by omega, by omega, by go_num, by rw [hres]⟩
        case measure => show len - ((k : Int) + 1).toNat < len - (k : Int).toNat; omega
    · by_cases hql : len ≤ q
      · obtain rfl : k = len := by omega
        have HT : Hid (xs.take k = xs) := by unfold Hid; exact List.take_of_length_le (by rw [HR.out.length]; omega)
        have hlt2 := dig_lt HR.out.lt
        rw [HR.out.length] at hlt2
        have hw : wd k ≤ 2 ^ n := by unfold wd; exact Nat.pow_le_pow_right (by omega) (by have := HN.out; omega)
        have HM : Hid (dig xs % 2 ^ n = dig xs ∧ dig xs / 2 ^ n = 0) := ⟨Nat.mod_eq_of_lt (by omega), Nat.div_eq_of_lt (by omega)⟩
        rw [HT.out]
        clear hlt2 hw
        go_wp2_with fail
        go_ret2
        refine ⟨Option.none, 0, 0, ?_, [], Rd4.none _, .inl rfl, by rw [HM.out.2]; rfl, Below.refl _ _, by omega⟩
        rw [HM.out.1]; rfl
      · obtain rfl : k = q := by omega
        have hkl : k < len := by omega
        rcases HR.out.cells with h1 | ⟨b, off, rfl, hc⟩
        · omega
        have g := hc k hkl
        have hx := HR.out.lt.at k
        have HC : Hid _ := hc
        have hcw := cut_words HR.out.lt HN.out (by rw [HR.out.length]; omega)
        have hlb := low_bits (xs := xs) (q := k) hs32
        rw [hlb] at hcw
        have HCW : Hid _ := hcw
        clear hc hcw hlb
        generalize hxe : xs[k]?.getD 0 = x at *
        have hwp := wd_pos k
        go_upto_region 8 with fail
        go_cut [6] (fun r wx => r = .bool (nz (dig xs % 2 ^ n)) ∧ Below w.heap.size w wx ∧ wx.heap.size = w.heap.size)
        case first =>
          by_cases hd : dig (xs.take k) = 0
          · have hd1 : nz (dig (xs.take k)) = false := by rw [hd]; rfl
            rw [hd1]
            have hres : (bits .and .u32 (x : Int) ((2 ^ s - 1) % 4294967296) != 0) = nz (dig xs % 2 ^ n) := by
              rw [HCW.out.2, hd, Nat.zero_add]
              have hp : (2 : Nat) ^ s ≤ 2 ^ 31 := Nat.pow_le_pow_right (by omega) (by omega)
              have h31 : (2 : Nat) ^ 31 = 2147483648 := by decide
              have hp0 := Nat.two_pow_pos s
              have e1 : ((2 : Int) ^ s - 1) % 4294967296 = ((2 ^ s - 1 : Nat) : Int) := by
                have e0 : ((2 : Int) ^ s) = ((2 ^ s : Nat) : Int) := by rw [Int.natCast_pow]; rfl
                rw [e0]; omega
              rw [e1, u32_and_nat _ _ hx (by omega), Nat.and_two_pow_sub_one_eq_mod]
              by_cases hm : x % 2 ^ s = 0
              · rw [hm]; rfl
              · rw [nz_true (by have := Nat.mul_pos hwp (show 0 < x % 2 ^ s by omega); omega), bne_iff_ne]; omega
            go_region
            go_wp2_with fail
            go_meet
            exact ⟨rfl, (Below.refl _ _).drew, rfl⟩
          · have hd1 : nz (dig (xs.take k)) = true := nz_true hd
            rw [hd1]
            go_region
            go_wp2_with fail
            go_meet
            exact ⟨by rw [HCW.out.2, nz_true (by omega)], (Below.refl _ _).drew, rfl⟩
        case rest =>
        obtain ⟨rfl, hBc, hsz⟩ := hcut
        obtain ⟨w1, hmk, hO, hB1⟩ := make4 wc (len - k) (by omega)
        have hmk' := hmk ((len : Int) - k) (by omega)
        rw [hsz] at hO hB1 hmk'
        have HO : Hid _ := hO
        have HB1 : Hid (Below w.heap.size w w1) := hBc.trans hB1
        have HDV : Hid (dig (shr s (xs.drop k)) = dig xs / 2 ^ n) := by unfold Hid; rw [HCW.out.1, dig_shr hs32 (HR.out.lt.drop k)]
        have HSL : Hid ((shr s (xs.drop k)).length = len - k) := by unfold Hid; rw [shr_len, List.length_drop, HR.out.length]
        have HU : Hid (U4 xs) := HR.out.lt
        have HLN : Hid (xs.length = len) := HR.out.length
        clear hmk hO hB1 hBc hsz g hwp HCW hx
        have hLn : k + (len - k) = len := by omega
        have hLi : (len : Int) - k = ((len - k : Nat) : Int) := by omega
        generalize hLe : len - k = L at *
        rw [hLi] at hmk'
        have HDR : Hid (∀ j, (xs.drop k)[j]?.getD 0 = xs[j + k]?.getD 0) := by intro j; rw [List.getElem?_drop, Nat.add_comm]
        have HDL : Hid ((xs.drop k).length = L) := by unfold Hid; rw [List.length_drop, HLN.out]; omega
        go_wp2_with fail
        go_loopg [9] L (fun gg i wx => ∃ (m : Nat) (zs : List Nat), m ≤ L ∧ i = .int .i64 m ∧ Hid (Own4 wx w.heap.size w.heap.size L zs) ∧ Hid (Below w.heap.size w wx) ∧ Hid (U4 zs) ∧ Hid (∀ j, j < m → zs[j]?.getD 0 = (shr s (xs.drop k))[j]?.getD 0) ∧ L ≤ m + gg)
        case atStart =>
          refine ⟨0, List.replicate L 0, by omega, rfl, HO, HB1, ?_, ?_, by omega⟩
          · intro x hx; rw [List.eq_of_mem_replicate hx]; decide
          · intro j hj; omega
        case round =>
          obtain ⟨m, zs, hm, rfl, HOz, HBz, HUz, HZz, hfu⟩ := hrel
          by_cases hmL : m < L
          · obtain ⟨fu, rfl⟩ : ∃ g, gk = g + 1 := ⟨gk - 1, by omega⟩
            have g1 := (HBz.out.cell (World.block_lt_of_cell? w _ (HC.out (m + k) (by omega)))).trans (HC.out (m + k) (by omega))
            have hd1 := HU.out.at (m + k)
            have gz := HOz.out.cell m hmL
            have gf := HOz.out.frozen m
            have hat := shr_at s (xs.drop k) m (by rw [HDL.out]; exact hmL)
            rw [HDR.out, HDR.out, show m + 1 + k = m + k + 1 by omega] at hat
            have hset := HOz.out.set m
            have hZ2 : ∀ v, v = (shr s (xs.drop k))[m]?.getD 0 → ∀ j, j < m + 1 → (zs.set m v)[j]?.getD 0 = (shr s (xs.drop k))[j]?.getD 0 := by
              intro v hv j hj
              rw [List.getElem?_set]
              by_cases e : m = j
              · subst e; rw [if_pos rfl, if_pos (by rw [HOz.out.1]; exact hmL)]; exact hv
              · rw [if_neg e]; exact HZz.out j (by omega)
            have HZ2 : Hid _ := hZ2
            have HSET : Hid _ := hset
            clear hZ2 hset
            by_cases hm2 : m + k + 1 < len
            · have g2 := (HBz.out.cell (World.block_lt_of_cell? w _ (HC.out (m + k + 1) hm2))).trans (HC.out (m + k + 1) hm2)
              have hd2 := HU.out.at (m + k + 1)
              generalize xs[m + k]?.getD 0 = d1 at *
              generalize xs[m + k + 1]?.getD 0 = d2 at *
              have hor : bits .or .u64 (d1 : Int) ((d2 : Int) * 4294967296) = ((d1 + 4294967296 * d2 : Nat) : Int) := by
                rw [show (d2 : Int) * 4294967296 = ((4294967296 * d2 : Nat) : Int) by omega, u64_or_nat _ _ (by omega) (by omega)]
                congr 1
                have := Nat.two_pow_add_eq_or_of_lt (i := 32) (b := d1) (by omega) d2
                rw [show (2 : Nat) ^ 32 = 4294967296 by decide] at this
                rw [Nat.or_comm, ← this, Nat.add_comm]
              have hXb : d1 + 4294967296 * d2 < 18446744073709551616 := by omega
              generalize hX : d1 + 4294967296 * d2 = X at *
              go_wp2_with fail
              have hval : (X : Int) / 2 ^ s % 4294967296 = ((X / 2 ^ s % 4294967296 : Nat) : Int) := by
                rw [show ((2 : Int) ^ s) = ((2 ^ s : Nat) : Int) by rw [Int.natCast_pow]; rfl]
                rfl
              rw [hval]
              go_roundg fu
              case rel =>
                exact ⟨m + 1, _, by omega, by go_num, HSET.out _, below_set HBz.out (Nat.le_refl _), HUz.out.set m _ (Nat.mod_lt _ (by decide)), HZ2.out _ (by rw [hat]), by omega⟩
              case measure => omega
            · have hd0 : xs[m + k + 1]?.getD 0 = 0 := by rw [List.getElem?_eq_none (by rw [HLN.out]; omega)]; rfl
              rw [hd0, Nat.mul_zero, Nat.add_zero] at hat
              generalize xs[m + k]?.getD 0 = X at *
              go_wp2_with fail
              have hval : (X : Int) / 2 ^ s % 4294967296 = ((X / 2 ^ s % 4294967296 : Nat) : Int) := by
                rw [show ((2 : Int) ^ s) = ((2 ^ s : Nat) : Int) by rw [Int.natCast_pow]; rfl]
                rfl
              rw [hval]
              go_roundg fu
              case rel =>
                exact ⟨m + 1, _, by omega, by go_num, HSET.out _, below_set HBz.out (Nat.le_refl _), HUz.out.set m _ (Nat.mod_lt _ (by decide)), HZ2.out _ (by rw [hat]), by omega⟩
              case measure => omega
          · obtain rfl : m = L := by omega
            have HZE : Hid (zs = shr s (xs.drop k)) := by
              unfold Hid
              apply List.ext_getElem (by rw [HOz.out.1, HSL.out])
              intro j h1 h2
              have := HZz.out j (by rw [HOz.out.1] at h1; exact h1)
              rw [List.getElem?_eq_getElem h1, List.getElem?_eq_getElem h2] at this
              simpa using this
            go_wp2_with (go_at_call 48; refine (trim_any _ _ _ zs _ (HOz.out.rd HUz.out (by omega))).mono ?_; rintro e w' ⟨ao', mm, rfl, rfl, hr', hm', hnm, hdg⟩)
            all_goals (go_ret2; exact ⟨ao', mm, _, rfl, _, hr', hnm, by rw [hdg, HZE.out, HDV.out], HBz.out, by omega⟩)
end Go.Proofs.Ytbjnkefjlaplkaa


namespace Go.Proofs.Ytbjnkefjlaplkaa
open Go.RowKit
set_option linter.unusedVariables false

/-- v is the exact real m 2^e, turned if neg. -/
def NumV (w : World) (v : Value) (neg : Bool) (m : Nat) (e : Int) : Prop := ∃ ao len cap xs, v = .agg #[.bool neg, .slice ao len cap, .int .i64 e] ∧ Rd4 w ao len cap xs ∧ Nm xs ∧ dig xs = m
theorem NumV.later {w w' : World} {v : Value} {neg : Bool} {m : Nat} {e : Int} (h : NumV w v neg m e) (hb : Below w.heap.size w w') : NumV w' v neg m e := by
  obtain ⟨ao, len, cap, xs, h1, h2, h3, h4⟩ := h
  exact ⟨ao, len, cap, xs, h1, h2.later hb, h3, h4⟩
theorem len_zero {xs : List Nat} {len : Nat} (hl : xs.length = len) (hu : U4 xs) (hn : Nm xs) : (len = 0 ↔ dig xs = 0) := by
  constructor
  · intro h; have : xs = [] := List.eq_nil_of_length_eq_zero (by omega)
    subst this; rfl
  · intro h
    rcases Nat.eq_zero_or_pos len with h0 | h0
    · exact h0
    · exact absurd h (bl_dig hu hn (fun e => by rw [e] at hl; simp at hl; omega)).2

theorem len_bl {xs : List Nat} {len : Nat} (hl : xs.length = len) (hu : U4 xs) (hn : Nm xs) : 32 * len ≤ bl (dig xs) + 31 := by
  rcases Nat.eq_zero_or_pos len with h0 | h0
  · omega
  · have h := bl_dig hu hn (fun e => by rw [e] at hl; simp at hl; omega)
    have h1 : xs[xs.length - 1]?.getD 0 ≠ 0 := by
      rcases hn with e | e
      · rw [e] at hl; simp at hl; omega
      · exact e
    have := bl_spec h1
    rw [hl] at h this
    omega
theorem three_cells {W : World} {B : Nat} {v0 v1 v2 : Value} (h : W.heap[B]? = some (.cells #[v0, v1, v2] 60)) :
    W.cell? ⟨B, 0, none⟩ = some v0 ∧ W.cell? ⟨B, 1, none⟩ = some v1 ∧ W.cell? ⟨B, 2, none⟩ = some v2 :=
  ⟨cell_of_row _ _ 0 _ _ _ h, cell_of_row _ _ 1 _ _ _ h, cell_of_row _ _ 2 _ _ _ h⟩
theorem res_num (f : Func) (i : Nat) (hf : f.results = #[ResultVar.cell i 60]) (tmps : Array Value) (W : World) (B : Nat) (v0 v1 v2 : Value) (hp : tmps[i]? = some (.pointer (some ⟨B, 0, none⟩)))
    (h : W.heap[B]? = some (.cells #[v0, v1, v2] 60)) : (results f tmps).run Try.prog W = .ok (.agg #[v0, v1, v2]) W := by
  obtain ⟨h0, h1, h2⟩ := three_cells h
  simp [results, hf, go_sem, hp, h0, h1, h2]
theorem res_num2 (f : Func) (i j : Nat) (hf : f.results = #[ResultVar.cell i 60, ResultVar.tmp j]) (tmps : Array Value) (W : World) (B : Nat) (v0 v1 v2 u : Value) (hp : tmps[i]? = some (.pointer (some ⟨B, 0, none⟩))) (hq : tmps[j]? = some u)
    (h : W.heap[B]? = some (.cells #[v0, v1, v2] 60)) : (results f tmps).run Try.prog W = .ok (.tuple #[.agg #[v0, v1, v2], u]) W := by
  obtain ⟨h0, h1, h2⟩ := three_cells h
  simp [results, hf, go_sem, hp, hq, h0, h1, h2]

set_option maxRecDepth 100000 in
theorem moved_any (v : Value) (neg : Bool) (m : Nat) (e n : Int) (he : -1000000 ≤ e ∧ e ≤ 1000000) (hn : -1000000 ≤ n ∧ n ≤ 1000000) (w : World) (h : NumV w v neg m e) :
    Calls Try.prog 46 #[v, .int .i64 n] w fun e' w' => ∃ v', e' = .returned v' ∧ NumV w' v' neg m (if m = 0 then e else e + n) ∧ Below w.heap.size w w' := by
  obtain ⟨ao, len, cap, xs, rfl, hr, hnm, hm⟩ := h
  have hz := len_zero hr.length hr.lt hnm
  rw [hm] at hz
  have hbel : ∀ c1 c2 : Obj, Below w.heap.size w ((w.alloc c1).alloc c2) := fun c1 c2 => ((Below.refl _ _).alloc (Nat.le_refl _) _).alloc (by simp) _
  have HR : Hid _ := hr
  have HB : Hid _ := hbel
  clear hr hbel
  by_cases h0 : 0 < len
  · rw [if_neg (by omega)]
    go_enter Try.func46, Try.ntmps46
    go_wp2_with fail
    refine bodyPost_ret (v := .agg #[.bool neg, .slice ao len cap, .int .i64 (e + n)]) (res_num _ 4 (by kernel_rfl) _ _ (w.heap.size + 1) _ _ _ (by rfl) (by have := heap_alloc_new (w.alloc (Obj.cells #[Value.bool neg, Value.slice ao len cap, Value.int IntKind.i64 (e + n)] 60)) (Obj.cells #[Value.bool neg, Value.slice ao len cap, Value.int IntKind.i64 (e + n)] 60); simpa using this)) rfl ⟨_, rfl, ?_, HB.out _ _⟩
    exact ⟨ao, len, cap, xs, rfl, HR.out.later (HB.out _ _), hnm, hm⟩
  · rw [if_pos (by omega)]
    go_enter Try.func46, Try.ntmps46
    go_wp2_with fail
    refine bodyPost_ret (v := .agg #[.bool neg, .slice ao len cap, .int .i64 e]) (res_num _ 4 (by kernel_rfl) _ _ (w.heap.size + 1) _ _ _ (by rfl) (by have := heap_alloc_new (w.alloc (Obj.cells #[Value.bool neg, Value.slice ao len cap, Value.int IntKind.i64 e] 60)) (Obj.cells #[Value.bool neg, Value.slice ao len cap, Value.int IntKind.i64 e] 60); simpa using this)) rfl ⟨_, rfl, ?_, HB.out _ _⟩
    exact ⟨ao, len, cap, xs, rfl, HR.out.later (HB.out _ _), hnm, hm⟩
set_option maxRecDepth 100000 in
theorem size_any (v : Value) (neg : Bool) (m : Nat) (e : Int) (w : World) (h : NumV w v neg m e) :
    Calls Try.prog 27 #[v] w fun e' w' => ∃ v', e' = .returned v' ∧ NumV w' v' false m e ∧ Below w.heap.size w w' := by
  obtain ⟨ao, len, cap, xs, rfl, hr, hnm, hm⟩ := h
  have hbel : ∀ c1 c2 : Obj, Below w.heap.size w ((w.alloc c1).alloc c2) := fun c1 c2 => ((Below.refl _ _).alloc (Nat.le_refl _) _).alloc (by simp) _
  have HR : Hid _ := hr
  have HB : Hid _ := hbel
  clear hr hbel
  go_enter Try.func27, Try.ntmps27
  go_wp2_with fail
  refine bodyPost_ret (v := .agg #[.bool false, .slice ao len cap, .int .i64 e]) (res_num _ 2 (by kernel_rfl) _ _ (w.heap.size + 1) _ _ _ (by rfl) (by have := heap_alloc_new (w.alloc (Obj.cells #[Value.bool false, Value.slice ao len cap, Value.int IntKind.i64 e] 60)) (Obj.cells #[Value.bool false, Value.slice ao len cap, Value.int IntKind.i64 e] 60); simpa using this)) rfl ⟨_, rfl, ?_, HB.out _ _⟩
  exact ⟨ao, len, cap, xs, rfl, HR.out.later (HB.out _ _), hnm, hm⟩
end Go.Proofs.Ytbjnkefjlaplkaa

namespace Go.Proofs.Ytbjnkefjlaplkaa
open Go.RowKit
set_option linter.unusedVariables false

/-- A number's block in memory, as the call's own. -/
def NumB (w : World) (B : Nat) : Prop := ∃ neg ao len cap e, w.heap[B]? = some (.cells #[.bool neg, .slice ao len cap, .int .i64 e] 60)
theorem NumB.not {w : World} {B : Nat} (h : NumB w B) (j : Nat) (x : Int) : w.cell? ⟨B, j, none⟩ ≠ some (.int .u32 x) := by
  obtain ⟨neg, ao, len, cap, e, h⟩ := h
  match j with
  | 0 => rw [(three_cells h).1]; simp
  | 1 => rw [(three_cells h).2.1]; simp
  | 2 => rw [(three_cells h).2.2]; simp
  | j + 3 => rw [cell_of_row _ _ _ _ _ _ h]; simp
theorem set3_heap {w : World} {B : Nat} {a b c : Value} (x y z : Value) (h : w.heap[B]? = some (.cells #[a, b, c] 60)) :
    (((w.setCell ⟨B, 0, none⟩ x).setCell ⟨B, 1, none⟩ y).setCell ⟨B, 2, none⟩ z).heap[B]? = some (.cells #[x, y, z] 60) := by
  have h1 := heap_setCell_same w B 0 _ _ x h
  have h2 := heap_setCell_same _ B 1 _ _ y h1
  exact heap_setCell_same _ B 2 _ _ z h2
/-- Words stay where a number's block is written over. -/
theorem rd4_set3 {w : World} {B : Nat} (x y z : Value) (hB : NumB w B) {ao : Option Addr} {len cap : Nat} {xs : List Nat} (h : Rd4 w ao len cap xs) :
    Rd4 (((w.setCell ⟨B, 0, none⟩ x).setCell ⟨B, 1, none⟩ y).setCell ⟨B, 2, none⟩ z) ao len cap xs := by
  refine ⟨h.length, h.le, h.max, h.lt, h.nil, ?_⟩
  rcases h.cells with h0 | ⟨b, off, ha, hc⟩
  · exact .inl h0
  · refine .inr ⟨b, off, ha, fun j hj => ?_⟩
    have hne : b ≠ B := by rintro rfl; exact hB.not _ _ (hc j hj)
    rw [World.cell?_setCell_other _ _ _ _ (fun e => hne (by have := congrArg Addr.block e; first | exact this | exact this.symm)), World.cell?_setCell_other _ _ _ _ (fun e => hne (by have := congrArg Addr.block e; first | exact this | exact this.symm)), World.cell?_setCell_other _ _ _ _ (fun e => hne (by have := congrArg Addr.block e; first | exact this | exact this.symm))]
    exact hc j hj
theorem rd4_other {w w' : World} {B : Nat} (hB : NumB w B) (hs : ∀ b, b ≠ B → w'.heap[b]? = w.heap[b]?) {ao : Option Addr} {len cap : Nat} {xs : List Nat} (h : Rd4 w ao len cap xs) : Rd4 w' ao len cap xs := by
  refine ⟨h.length, h.le, h.max, h.lt, h.nil, ?_⟩
  rcases h.cells with h0 | ⟨b, off, ha, hc⟩
  · exact .inl h0
  · refine .inr ⟨b, off, ha, fun j hj => ?_⟩
    have hne : b ≠ B := by rintro rfl; exact hB.not _ _ (hc j hj)
    rw [World.cell?_of_block (w := w) (w' := w') (a := ⟨b, off + j, none⟩) (hs b hne)]
    exact hc j hj
theorem dig_drop_pred {xs : List Nat} {k : Nat} : dig (xs.drop k) = xs[k]?.getD 0 + 4294967296 * dig (xs.drop (k + 1)) := by
  rw [dig_head, List.getElem?_drop, Nat.add_zero, List.drop_drop]
set_option maxRecDepth 100000 in
set_option maxHeartbeats 1000000 in
theorem word_any (ao : Option Addr) (len cap : Nat) (xs : List Nat) (w : World) (hr : Rd4 w ao len cap xs) (hl : len ≤ 2) :
    Calls Try.prog 53 #[.slice ao len cap] w fun e w' => e = .returned (.int .u64 (dig xs : Nat)) ∧ w' = w := by
  have hle := hr.le
  have hmx := hr.max
  have HR : Hid _ := hr
  have HL : Hid (xs.length = len) := hr.length
  clear hr
  go_enter Try.func53, Try.ntmps53
  go_wp2_with fail
  go_loop [3, 4] (fun u i => ∃ k : Nat, k ≤ len ∧ i = .int .i64 ((k : Int) - 1) ∧ u = .int .u64 (dig (xs.drop k) : Nat)) (fun _ i => (intOf i + 1).toNat)
  case atStart => exact ⟨len, by omega, rfl, by rw [List.drop_of_length_le (by rw [HL.out]; omega)]; rfl⟩
  case round =>
    obtain ⟨k, hk, rfl, rfl⟩ := hrel
    cases k with
    | zero =>
      rw [List.drop_zero]
      have hz : ((0 : Nat) : Int) - 1 = -1 := rfl
      rw [hz]
      go_wp2
      go_ret
      exact ⟨rfl, rfl⟩
    | succ k =>
      rcases HR.out.cells with h0 | ⟨b, off, rfl, hc⟩
      · omega
      have g := hc k (by omega)
      have hlt := HR.out.lt.at k
      have HD : Hid _ := dig_drop_pred (xs := xs) (k := k)
      have hdl := dig_lt (HR.out.lt.drop (k + 1))
      rw [List.length_drop, HL.out] at hdl
      have hdl2 : dig (xs.drop (k + 1)) < 4294967296 := by
        have : wd (len - (k + 1)) ≤ wd 1 := by unfold wd; exact Nat.pow_le_pow_right (by omega) (by omega)
        have h1 : wd 1 = 4294967296 := by decide
        omega
      clear hc hdl
      generalize hxe : xs[k]?.getD 0 = x at *
      generalize hDe : dig (xs.drop (k + 1)) = D at *
      have hz : ((k + 1 : Nat) : Int) - 1 = (k : Int) := by omega
      rw [hz]
      have hor : bits .or .u64 ((D : Int) * 4294967296) (x : Int) = ((x + 4294967296 * D : Nat) : Int) := by
        rw [show (D : Int) * 4294967296 = ((4294967296 * D : Nat) : Int) by omega, u64_or_nat _ _ (by omega) (by omega)]
        congr 1
        have := Nat.two_pow_add_eq_or_of_lt (i := 32) (b := x) (by omega) D
        rw [show (2 : Nat) ^ 32 = 4294967296 by decide] at this
        rw [← this, Nat.add_comm]
      go_wp2_with fail
      go_round
      case rel => exact ⟨k, by omega, rfl, by rw [HD.out, Int.natCast_add, Int.natCast_mul]; rfl⟩
      case measure => show (((k : Int) - 1) + 1).toNat < ((k : Int) + 1).toNat; omega
set_option maxRecDepth 100000 in
set_option maxHeartbeats 1000000 in
theorem over2_any (v : Value) (neg : Bool) (m : Nat) (e n : Int) (he : -20000 ≤ e ∧ e ≤ 20000) (hn : -20000 ≤ n ∧ n ≤ 20000) (hb : bl m ≤ 100000) (w : World) (h : NumV w v neg m e) :
    Calls Try.prog 51 #[v, .int .i64 n] w fun e' w' => ∃ v', e' = .returned (.tuple #[v', .bool (if n ≤ e then false else nz (m % 2 ^ (n - e).toNat))]) ∧ NumV w' v' false (if n ≤ e then m * 2 ^ (e - n).toNat else m / 2 ^ (n - e).toNat) 0 ∧ Below w.heap.size w w' := by
  obtain ⟨ao, len, cap, xs, rfl, hr, hnm, hm⟩ := h
  have hl : len ≤ 10000 := by have := len_bl hr.length hr.lt hnm; rw [hm] at this; omega
  have HR : Hid _ := hr
  clear hr
  obtain ⟨d, hd⟩ : ∃ d : Nat, (if n ≤ e then (e - n).toNat else (n - e).toNat) = d := ⟨_, rfl⟩
  have hb0 : Below w.heap.size w ((w.alloc (Obj.cells #[Value.bool neg, Value.slice ao len cap, Value.int IntKind.i64 e] 60)).alloc (Obj.cells #[Value.bool false, Value.slice none 0 0, Value.int IntKind.i64 0] 60)) := ((Below.refl _ _).alloc (Nat.le_refl _) _).alloc (by simp) _
  have hg0 : ((w.alloc (Obj.cells #[Value.bool neg, Value.slice ao len cap, Value.int IntKind.i64 e] 60)).alloc (Obj.cells #[Value.bool false, Value.slice none 0 0, Value.int IntKind.i64 0] 60)).heap[w.heap.size + 1]? = some (Obj.cells #[Value.bool false, Value.slice none 0 0, Value.int IntKind.i64 0] 60) := by
    have := heap_alloc_new (w.alloc (Obj.cells #[Value.bool neg, Value.slice ao len cap, Value.int IntKind.i64 e] 60)) (Obj.cells #[Value.bool false, Value.slice none 0 0, Value.int IntKind.i64 0] 60); simpa using this
  have hz0 : ((w.alloc (Obj.cells #[Value.bool neg, Value.slice ao len cap, Value.int IntKind.i64 e] 60)).alloc (Obj.cells #[Value.bool false, Value.slice none 0 0, Value.int IntKind.i64 0] 60)).heap.size = w.heap.size + 2 := by simp
  have H0 : Hid _ := hb0
  have H1 : Hid _ := hg0
  have H2 : Hid _ := hz0
  clear hb0 hg0 hz0
  by_cases h0 : n ≤ e
  · rw [if_pos h0] at hd
    rw [if_pos h0, if_pos h0, hd]
    have hdi : e - n = (d : Int) := by omega
    go_enter Try.func51, Try.ntmps51
    go_wp2_with fail
    refine (left_any ao len cap xs d _ (HR.out.later H0.out) (by omega) hl).mono ?_
    rintro e2 w2 ⟨ao', k, cap', zs, rfl, hr2, hn2, hd2, hb2, hk2⟩
    have hg1 := (hb2.block (w.heap.size + 1) (by rw [H2.out]; omega)).trans H1.out
    have hB2 : Below w.heap.size w w2 := H0.out.trans (hb2.mono (by rw [H2.out]; omega))
    obtain ⟨c0, c1, c2⟩ := three_cells hg1
    have f1 := fun j => frozen_of_row _ _ j _ _ hg1
    have HG1 : Hid _ := hg1
    have HB2 : Hid _ := hB2
    have HR2 : Hid _ := hr2
    clear hb2 hg1 hB2 hr2
    go_wp2_with fail
    refine bodyPost_ret (v := .tuple #[.agg #[.bool false, .slice ao' k cap', .int .i64 0], .bool false]) (res_num2 _ 4 5 (by kernel_rfl) _ _ (w.heap.size + 1) _ _ _ _ (by rfl) (by rfl) (set3_heap _ _ _ HG1.out)) rfl ⟨_, rfl, ?_, ?_⟩
    · exact ⟨ao', k, cap', zs, rfl, rd4_set3 _ _ _ ⟨_, _, _, _, _, HG1.out⟩ HR2.out, hn2, by rw [hd2, hm]⟩
    · exact ((HB2.out.setCell (Nat.le_succ _) _).setCell (Nat.le_succ _) _).setCell (Nat.le_succ _) _
  · rw [if_neg h0] at hd
    rw [if_neg h0, if_neg h0, hd]
    have hdi : n - e = (d : Int) := by omega
    go_enter Try.func51, Try.ntmps51
    go_wp2_with fail
    refine (right_any ao len cap xs d _ (HR.out.later H0.out) (by omega) hl).mono ?_
    rintro e2 w2 ⟨ao', k, cap', rfl, zs, hr2, hn2, hd2, hb2, hk2⟩
    have hg1 := (hb2.block (w.heap.size + 1) (by rw [H2.out]; omega)).trans H1.out
    have hB2 : Below w.heap.size w w2 := H0.out.trans (hb2.mono (by rw [H2.out]; omega))
    obtain ⟨c0, c1, c2⟩ := three_cells hg1
    have f1 := fun j => frozen_of_row _ _ j _ _ hg1
    have HG1 : Hid _ := hg1
    have HB2 : Hid _ := hB2
    have HR2 : Hid _ := hr2
    clear hb2 hg1 hB2 hr2
    go_wp2_with fail
    refine bodyPost_ret (v := .tuple #[.agg #[.bool false, .slice ao' k cap', .int .i64 0], .bool (nz (m % 2 ^ d))]) (res_num2 _ 4 5 (by kernel_rfl) _ _ (w.heap.size + 1) _ _ _ _ (by rfl) (by rfl) (set3_heap _ _ _ HG1.out)) rfl ⟨_, rfl, ?_, ?_⟩
    · exact ⟨ao', k, cap', zs, rfl, rd4_set3 _ _ _ ⟨_, _, _, _, _, HG1.out⟩ HR2.out, hn2, by rw [hd2, hm]⟩
    · exact ((HB2.out.setCell (Nat.le_succ _) _).setCell (Nat.le_succ _) _).setCell (Nat.le_succ _) _
end Go.Proofs.Ytbjnkefjlaplkaa

namespace Go.Proofs.Ytbjnkefjlaplkaa
open Go.RowKit
set_option linter.unusedVariables false

theorem dig_take_set {zs : List Nat} {k v : Nat} (hk : k < zs.length) : dig ((zs.set k v).take (k + 1)) = dig (zs.take k) + wd k * v := by
  rw [dig_take_succ (by rw [List.length_set]; exact hk), List.take_set_of_le (by omega), List.getElem?_set, if_pos rfl, if_pos hk]
  rfl
theorem dig_take_more {ys : List Nat} {k : Nat} : dig (ys.take (k + 1)) = dig (ys.take k) + wd k * ys[k]?.getD 0 := by
  by_cases h : k < ys.length
  · exact dig_take_succ h
  · rw [List.take_of_length_le (by omega), List.take_of_length_le (by omega), List.getElem?_eq_none (by omega)]; simp
set_option maxRecDepth 100000 in
set_option maxHeartbeats 2000000 in
theorem plus_core (ao : Option Addr) (len cap : Nat) (xs : List Nat) (bo : Option Addr) (blen bcap : Nat) (ys : List Nat) (w : World) (hx : Rd4 w ao len cap xs) (hy : Rd4 w bo blen bcap ys) (hl : len ≤ 10000) (hll : blen ≤ len) :
    Calls Try.prog 42 #[.slice ao len cap, .slice bo blen bcap] w fun e w' => ∃ ao' k cap' zs, e = .returned (.slice ao' k cap') ∧ Rd4 w' ao' k cap' zs ∧ Nm zs ∧ dig zs = dig xs + dig ys ∧ Below w.heap.size w w' ∧ k ≤ len + 1 := by
  have hdl : decide (len < blen) = false := decide_eq_false (by omega)
  have h1 := hx.le
  have h2 := hx.max
  have h3 := hy.le
  have h4 := hy.max
  obtain ⟨w1, hmk, hO, hB1⟩ := make4 w (len + 1) (by omega)
  have hmk' := hmk ((len : Int) + 1) (by omega)
  have HX : Hid _ := hx
  have HY : Hid _ := hy
  have HO : Hid _ := hO
  have HB1 : Hid _ := hB1
  clear hmk hx hy hO hB1
  go_enter Try.func42, Try.ntmps42
  go_wp2_with fail
  go_loopg [6, 7] len (fun gg c i wx => ∃ (k cc : Nat) (zs : List Nat), k ≤ len ∧ i = .int .i64 k ∧ c = .int .u64 cc ∧ cc ≤ 1 ∧ Hid (Own4 wx w.heap.size w.heap.size (len + 1) zs) ∧ Hid (Below w.heap.size w wx) ∧ Hid (U4 zs) ∧ Hid (dig (zs.take k) + wd k * cc = dig (xs.take k) + dig (ys.take k)) ∧ len ≤ k + gg)
  case atStart =>
    refine ⟨0, 0, List.replicate (len + 1) 0, by omega, rfl, rfl, by omega, HO, HB1, ?_, ?_, by omega⟩
    · intro x hx; rw [List.eq_of_mem_replicate hx]; decide
    · unfold Hid; simp [dig]
  case round =>
    obtain ⟨k, cc, zs, hk, rfl, rfl, hcc, HOz, HBz, HUz, HDz, hfu⟩ := hrel
    by_cases hlt : k < len
    · obtain ⟨fu, rfl⟩ : ∃ g, gk = g + 1 := ⟨gk - 1, by omega⟩
      rcases HX.out.cells with hh | ⟨b, off, rfl, hc⟩
      · omega
      have g := (HBz.out.cell (World.block_lt_of_cell? w _ (hc k hlt))).trans (hc k hlt)
      have hxb := HX.out.lt.at k
      have gz := HOz.out.cell k (by omega)
      have gf := HOz.out.frozen k
      have HSET : Hid _ := HOz.out.set k
      have HTX : Hid _ := dig_take_more (ys := xs) (k := k)
      have HTY : Hid _ := dig_take_more (ys := ys) (k := k)
      clear hc
      generalize xs[k]?.getD 0 = x at *
      by_cases hkb : k < blen
      · rcases HY.out.cells with hh | ⟨b2, off2, rfl, hc2⟩
        · omega
        have g2 := (HBz.out.cell (World.block_lt_of_cell? w _ (hc2 k hkb))).trans (hc2 k hkb)
        have hyb := HY.out.lt.at k
        clear hc2
        generalize ys[k]?.getD 0 = y at *
        obtain ⟨S, hS⟩ : ∃ S : Nat, cc + x + y = S := ⟨_, rfl⟩
        have hSi : (cc : Int) + x + y = (S : Int) := by omega
        have hSb : S < 8589934592 := by omega
        · have HS0 : Hid _ := hS
          clear hS
          have hS := HS0.out
          go_wp2_with fail
          go_roundg fu
          case rel =>
            refine ⟨k + 1, S / 4294967296, zs.set k (S % 4294967296), by omega, by go_num, by go_num, by omega, HSET.out _, below_set HBz.out (Nat.le_refl _), HUz.out.set k _ (Nat.mod_lt _ (by decide)), ?_, by omega⟩
            unfold Hid
            rw [dig_take_set (by rw [HOz.out.1]; omega), HTX.out, HTY.out, wd_succ]
            have hk0 := HDz.out
            have e1 := Nat.div_add_mod S 4294967296
            have e2 : wd k * S = wd k * cc + wd k * x + wd k * y := by rw [← hS, Nat.mul_add, Nat.mul_add]
            have e3 : wd k * S = 4294967296 * wd k * (S / 4294967296) + wd k * (S % 4294967296) := by
              rw [Nat.mul_comm 4294967296, Nat.mul_assoc, ← Nat.mul_add, e1]
            omega
          case measure => omega
      · have hy0 : ys[k]?.getD 0 = 0 := by rw [List.getElem?_eq_none (by rw [HY.out.length]; omega)]; rfl
        rw [hy0] at HTY
        obtain ⟨y, hy⟩ : ∃ y : Nat, y = 0 := ⟨_, rfl⟩
        rw [← hy] at HTY
        obtain ⟨S, hS⟩ : ∃ S : Nat, cc + x + y = S := ⟨_, rfl⟩
        have hSi : (cc : Int) + x = (S : Int) := by omega
        have hSb : S < 8589934592 := by omega
        · clear hy
          go_wp2_with fail
          go_roundg fu
          case rel =>
            refine ⟨k + 1, S / 4294967296, zs.set k (S % 4294967296), by omega, by go_num, by go_num, by omega, HSET.out _, below_set HBz.out (Nat.le_refl _), HUz.out.set k _ (Nat.mod_lt _ (by decide)), ?_, by omega⟩
            unfold Hid
            rw [dig_take_set (by rw [HOz.out.1]; omega), HTX.out, HTY.out, wd_succ]
            have hk0 := HDz.out
            have e1 := Nat.div_add_mod S 4294967296
            have e2 : wd k * S = wd k * cc + wd k * x + wd k * y := by rw [← hS, Nat.mul_add, Nat.mul_add]
            have e3 : wd k * S = 4294967296 * wd k * (S / 4294967296) + wd k * (S % 4294967296) := by
              rw [Nat.mul_comm 4294967296, Nat.mul_assoc, ← Nat.mul_add, e1]
            omega
          case measure => omega
    · obtain rfl : k = len := by omega
      have gz := HOz.out.cell k (by omega)
      have gf := HOz.out.frozen k
      have HSET : Hid _ := HOz.out.set k cc
      have HU2 : Hid (U4 (zs.set k cc)) := HUz.out.set k cc (by omega)
      have HDF : Hid (dig (zs.set k cc) = dig xs + dig ys) := by
        unfold Hid
        have e1 := dig_take_set (zs := zs) (k := k) (v := cc) (by rw [HOz.out.1]; omega)
        rw [List.take_of_length_le (by rw [List.length_set, HOz.out.1]; exact Nat.le_refl _)] at e1
        rw [e1, HDz.out, List.take_of_length_le (by rw [HX.out.length]; exact Nat.le_refl _), List.take_of_length_le (by rw [HY.out.length]; omega)]
      have hcm : (cc : Int) % 4294967296 = (cc : Int) := by omega
      go_wp2_with fail
      refine (trim_any _ _ _ (zs.set k cc) _ (Own4.rd HSET.out HU2.out (by omega))).mono ?_
      rintro e w' ⟨ao', m, rfl, rfl, hr', hm', hnm, hdg⟩
      go_wp2_with fail
      go_ret
      exact ⟨ao', m, _, _, rfl, hr', hnm, by rw [hdg, HDF.out], below_set HBz.out (Nat.le_refl _), by omega⟩
set_option maxRecDepth 100000 in
set_option maxHeartbeats 2000000 in
theorem plus_swap (ao : Option Addr) (len cap : Nat) (xs : List Nat) (bo : Option Addr) (blen bcap : Nat) (ys : List Nat) (w : World) (hx : Rd4 w ao len cap xs) (hy : Rd4 w bo blen bcap ys) (hl : len ≤ 10000) (hll : blen < len) :
    Calls Try.prog 42 #[.slice bo blen bcap, .slice ao len cap] w fun e w' => ∃ ao' k cap' zs, e = .returned (.slice ao' k cap') ∧ Rd4 w' ao' k cap' zs ∧ Nm zs ∧ dig zs = dig xs + dig ys ∧ Below w.heap.size w w' ∧ k ≤ len + 1 := by
  have hdl : decide (blen < len) = true := decide_eq_true (by omega)
  have h1 := hx.le
  have h2 := hx.max
  have h3 := hy.le
  have h4 := hy.max
  obtain ⟨w1, hmk, hO, hB1⟩ := make4 w (len + 1) (by omega)
  have hmk' := hmk ((len : Int) + 1) (by omega)
  have HX : Hid _ := hx
  have HY : Hid _ := hy
  have HO : Hid _ := hO
  have HB1 : Hid _ := hB1
  clear hmk hx hy hO hB1
  go_enter Try.func42, Try.ntmps42
  go_wp2_with fail
  go_loopg [6, 7] len (fun gg c i wx => ∃ (k cc : Nat) (zs : List Nat), k ≤ len ∧ i = .int .i64 k ∧ c = .int .u64 cc ∧ cc ≤ 1 ∧ Hid (Own4 wx w.heap.size w.heap.size (len + 1) zs) ∧ Hid (Below w.heap.size w wx) ∧ Hid (U4 zs) ∧ Hid (dig (zs.take k) + wd k * cc = dig (xs.take k) + dig (ys.take k)) ∧ len ≤ k + gg)
  case atStart =>
    refine ⟨0, 0, List.replicate (len + 1) 0, by omega, rfl, rfl, by omega, HO, HB1, ?_, ?_, by omega⟩
    · intro x hx; rw [List.eq_of_mem_replicate hx]; decide
    · unfold Hid; simp [dig]
  case round =>
    obtain ⟨k, cc, zs, hk, rfl, rfl, hcc, HOz, HBz, HUz, HDz, hfu⟩ := hrel
    by_cases hlt : k < len
    · obtain ⟨fu, rfl⟩ : ∃ g, gk = g + 1 := ⟨gk - 1, by omega⟩
      rcases HX.out.cells with hh | ⟨b, off, rfl, hc⟩
      · omega
      have g := (HBz.out.cell (World.block_lt_of_cell? w _ (hc k hlt))).trans (hc k hlt)
      have hxb := HX.out.lt.at k
      have gz := HOz.out.cell k (by omega)
      have gf := HOz.out.frozen k
      have HSET : Hid _ := HOz.out.set k
      have HTX : Hid _ := dig_take_more (ys := xs) (k := k)
      have HTY : Hid _ := dig_take_more (ys := ys) (k := k)
      clear hc
      generalize xs[k]?.getD 0 = x at *
      by_cases hkb : k < blen
      · rcases HY.out.cells with hh | ⟨b2, off2, rfl, hc2⟩
        · omega
        have g2 := (HBz.out.cell (World.block_lt_of_cell? w _ (hc2 k hkb))).trans (hc2 k hkb)
        have hyb := HY.out.lt.at k
        clear hc2
        generalize ys[k]?.getD 0 = y at *
        obtain ⟨S, hS⟩ : ∃ S : Nat, cc + x + y = S := ⟨_, rfl⟩
        have hSi : (cc : Int) + x + y = (S : Int) := by omega
        have hSb : S < 8589934592 := by omega
        · have HS0 : Hid _ := hS
          clear hS
          have hS := HS0.out
          go_wp2_with fail
          go_roundg fu
          case rel =>
            refine ⟨k + 1, S / 4294967296, zs.set k (S % 4294967296), by omega, by go_num, by go_num, by omega, HSET.out _, below_set HBz.out (Nat.le_refl _), HUz.out.set k _ (Nat.mod_lt _ (by decide)), ?_, by omega⟩
            unfold Hid
            rw [dig_take_set (by rw [HOz.out.1]; omega), HTX.out, HTY.out, wd_succ]
            have hk0 := HDz.out
            have e1 := Nat.div_add_mod S 4294967296
            have e2 : wd k * S = wd k * cc + wd k * x + wd k * y := by rw [← hS, Nat.mul_add, Nat.mul_add]
            have e3 : wd k * S = 4294967296 * wd k * (S / 4294967296) + wd k * (S % 4294967296) := by
              rw [Nat.mul_comm 4294967296, Nat.mul_assoc, ← Nat.mul_add, e1]
            omega
          case measure => omega
      · have hy0 : ys[k]?.getD 0 = 0 := by rw [List.getElem?_eq_none (by rw [HY.out.length]; omega)]; rfl
        rw [hy0] at HTY
        obtain ⟨y, hy⟩ : ∃ y : Nat, y = 0 := ⟨_, rfl⟩
        rw [← hy] at HTY
        obtain ⟨S, hS⟩ : ∃ S : Nat, cc + x + y = S := ⟨_, rfl⟩
        have hSi : (cc : Int) + x = (S : Int) := by omega
        have hSb : S < 8589934592 := by omega
        · clear hy
          go_wp2_with fail
          go_roundg fu
          case rel =>
            refine ⟨k + 1, S / 4294967296, zs.set k (S % 4294967296), by omega, by go_num, by go_num, by omega, HSET.out _, below_set HBz.out (Nat.le_refl _), HUz.out.set k _ (Nat.mod_lt _ (by decide)), ?_, by omega⟩
            unfold Hid
            rw [dig_take_set (by rw [HOz.out.1]; omega), HTX.out, HTY.out, wd_succ]
            have hk0 := HDz.out
            have e1 := Nat.div_add_mod S 4294967296
            have e2 : wd k * S = wd k * cc + wd k * x + wd k * y := by rw [← hS, Nat.mul_add, Nat.mul_add]
            have e3 : wd k * S = 4294967296 * wd k * (S / 4294967296) + wd k * (S % 4294967296) := by
              rw [Nat.mul_comm 4294967296, Nat.mul_assoc, ← Nat.mul_add, e1]
            omega
          case measure => omega
    · obtain rfl : k = len := by omega
      have gz := HOz.out.cell k (by omega)
      have gf := HOz.out.frozen k
      have HSET : Hid _ := HOz.out.set k cc
      have HU2 : Hid (U4 (zs.set k cc)) := HUz.out.set k cc (by omega)
      have HDF : Hid (dig (zs.set k cc) = dig xs + dig ys) := by
        unfold Hid
        have e1 := dig_take_set (zs := zs) (k := k) (v := cc) (by rw [HOz.out.1]; omega)
        rw [List.take_of_length_le (by rw [List.length_set, HOz.out.1]; exact Nat.le_refl _)] at e1
        rw [e1, HDz.out, List.take_of_length_le (by rw [HX.out.length]; exact Nat.le_refl _), List.take_of_length_le (by rw [HY.out.length]; omega)]
      have hcm : (cc : Int) % 4294967296 = (cc : Int) := by omega
      go_wp2_with fail
      refine (trim_any _ _ _ (zs.set k cc) _ (Own4.rd HSET.out HU2.out (by omega))).mono ?_
      rintro e w' ⟨ao', m, rfl, rfl, hr', hm', hnm, hdg⟩
      go_wp2_with fail
      go_ret
      exact ⟨ao', m, _, _, rfl, hr', hnm, by rw [hdg, HDF.out], below_set HBz.out (Nat.le_refl _), by omega⟩
theorem plus_any (ao : Option Addr) (len cap : Nat) (xs : List Nat) (bo : Option Addr) (blen bcap : Nat) (ys : List Nat) (w : World) (hx : Rd4 w ao len cap xs) (hy : Rd4 w bo blen bcap ys) (hl : len ≤ 10000) (hl2 : blen ≤ 10000) :
    Calls Try.prog 42 #[.slice ao len cap, .slice bo blen bcap] w fun e w' => ∃ ao' k cap' zs, e = .returned (.slice ao' k cap') ∧ Rd4 w' ao' k cap' zs ∧ Nm zs ∧ dig zs = dig xs + dig ys ∧ Below w.heap.size w w' ∧ k ≤ max len blen + 1 := by
  by_cases h : blen ≤ len
  · refine (plus_core ao len cap xs bo blen bcap ys w hx hy hl h).mono ?_
    rintro e w' ⟨ao', k, cap', zs, h1, h2, h3, h4, h5, h6⟩
    exact ⟨ao', k, cap', zs, h1, h2, h3, h4, h5, by omega⟩
  · refine (plus_swap bo blen bcap ys ao len cap xs w hy hx hl2 (by omega)).mono ?_
    rintro e w' ⟨ao', k, cap', zs, h1, h2, h3, h4, h5, h6⟩
    exact ⟨ao', k, cap', zs, h1, h2, h3, by rw [h4, Nat.add_comm], h5, by omega⟩
end Go.Proofs.Ytbjnkefjlaplkaa

namespace Go.Proofs.Ytbjnkefjlaplkaa
open Go.RowKit
set_option linter.unusedVariables false

def cmpN (m n : Nat) : Int := if m < n then -1 else if m = n then 0 else 1
theorem shorter_lt {xs ys : List Nat} (hx : U4 xs) (hy : U4 ys) (hn : Nm ys) (hl : xs.length < ys.length) : dig xs < dig ys := by
  have h1 := dig_lt hx
  have e := dig_take_succ (xs := ys) (k := ys.length - 1) (by omega)
  rw [show ys.length - 1 + 1 = ys.length by omega, List.take_length] at e
  have h2 : ys[ys.length - 1]?.getD 0 ≠ 0 := by
    rcases hn with h | h
    · rw [h] at hl; simp at hl
    · exact h
  have h3 : wd (ys.length - 1) * 1 ≤ wd (ys.length - 1) * ys[ys.length - 1]?.getD 0 := Nat.mul_le_mul_left _ (by omega)
  have h4 : wd xs.length ≤ wd (ys.length - 1) := by unfold wd; exact Nat.pow_le_pow_right (by omega) (by omega)
  omega
theorem upper_lt {xs ys : List Nat} {k : Nat} (hx : U4 xs) (hy : U4 ys) (hl : k < xs.length) (hl2 : k < ys.length) (hd : dig (xs.drop (k + 1)) = dig (ys.drop (k + 1))) (h : xs[k]?.getD 0 < ys[k]?.getD 0) : dig xs < dig ys := by
  have e1 := dig_split xs k
  have e2 := dig_split ys k
  have b1 := dig_lt (hx.take k)
  rw [List.length_take, Nat.min_eq_left (by omega)] at e1 e2 b1
  rw [dig_drop_pred, hd] at e1
  rw [dig_drop_pred] at e2
  generalize xs[k]?.getD 0 = x at *
  generalize ys[k]?.getD 0 = y at *
  generalize dig (ys.drop (k + 1)) = D at *
  have h5 : wd k * (x + 4294967296 * D) + wd k ≤ wd k * (y + 4294967296 * D) := by
    rw [← Nat.mul_succ]; exact Nat.mul_le_mul_left _ (by omega)
  omega

set_option maxRecDepth 100000 in
set_option maxHeartbeats 1000000 in
theorem cmp_any (ao : Option Addr) (len cap : Nat) (xs : List Nat) (bo : Option Addr) (blen bcap : Nat) (ys : List Nat) (w : World) (hx : Rd4 w ao len cap xs) (hy : Rd4 w bo blen bcap ys) (hnx : Nm xs) (hny : Nm ys) :
    Calls Try.prog 43 #[.slice ao len cap, .slice bo blen bcap] w fun e w' => e = .returned (.int .i64 (cmpN (dig xs) (dig ys))) ∧ Below w.heap.size w w' := by
  have h1 := hx.le
  have h2 := hx.max
  have h3 := hy.le
  have h4 := hy.max
  by_cases hlt : len < blen
  · have hc : cmpN (dig xs) (dig ys) = -1 := by unfold cmpN; rw [if_pos (shorter_lt hx.lt hy.lt hny (by rw [hx.length, hy.length]; exact hlt))]
    rw [hc]
    clear hx hy hnx hny hc
    go_enter Try.func43, Try.ntmps43
    go_wp2
    go_ret
    exact ⟨rfl, Below.refl _ _⟩
  · by_cases hgt : blen < len
    · have hl := shorter_lt hy.lt hx.lt hnx (by rw [hx.length, hy.length]; exact hgt)
      have hc : cmpN (dig xs) (dig ys) = 1 := by unfold cmpN; rw [if_neg (by omega), if_neg (by omega)]
      rw [hc]
      clear hx hy hnx hny hc hl
      go_enter Try.func43, Try.ntmps43
      go_wp2
      go_ret
      exact ⟨rfl, Below.refl _ _⟩
    · obtain rfl : len = blen := by omega
      have HX : Hid _ := hx
      have HY : Hid _ := hy
      have hbb : ((len : Int) != (len : Int)) = false := by simp
      clear hx hy hlt hgt hnx hny
      go_enter Try.func43, Try.ntmps43
      go_wp2_with fail
      go_loopg [5] len (fun gg i wx => ∃ k : Nat, k ≤ len ∧ i = .int .i64 ((k : Int) - 1) ∧ Hid (dig (xs.drop k) = dig (ys.drop k)) ∧ Hid (Below w.heap.size w wx) ∧ k ≤ gg)
      case atStart => exact ⟨len, by omega, rfl, by unfold Hid; rw [List.drop_of_length_le (by rw [HX.out.length]; omega), List.drop_of_length_le (by rw [HY.out.length]; omega)], Below.refl _ _, by omega⟩
      case round =>
        obtain ⟨k, hk, rfl, HD, HB, hfu⟩ := hrel
        cases k with
        | zero =>
          have hz : ((0 : Nat) : Int) - 1 = -1 := rfl
          rw [hz]
          have hc : cmpN (dig xs) (dig ys) = 0 := by
            have := HD.out
            rw [List.drop_zero, List.drop_zero] at this
            unfold cmpN; rw [this, if_neg (by omega), if_pos rfl]
          have HCM : Hid _ := hc
          clear hc
          go_wp2_with fail
          go_ret
          exact ⟨by rw [HCM.out]; rfl, HB.out⟩
        | succ k =>
          obtain ⟨fu, rfl⟩ : ∃ g, gk = g + 1 := ⟨gk - 1, by omega⟩
          rcases HX.out.cells with hh | ⟨b, off, rfl, hc⟩
          · omega
          rcases HY.out.cells with hh | ⟨b2, off2, rfl, hc2⟩
          · omega
          have g := (HB.out.cell (World.block_lt_of_cell? w _ (hc k (by omega)))).trans (hc k (by omega))
          have g2 := (HB.out.cell (World.block_lt_of_cell? w _ (hc2 k (by omega)))).trans (hc2 k (by omega))
          have hxb := HX.out.lt.at k
          have hyb := HY.out.lt.at k
          have HLT : Hid (xs[k]?.getD 0 < ys[k]?.getD 0 → dig xs < dig ys) := fun h => upper_lt HX.out.lt HY.out.lt (by rw [HX.out.length]; omega) (by rw [HY.out.length]; omega) HD.out h
          have HGT : Hid (ys[k]?.getD 0 < xs[k]?.getD 0 → dig ys < dig xs) := fun h => upper_lt HY.out.lt HX.out.lt (by rw [HY.out.length]; omega) (by rw [HX.out.length]; omega) HD.out.symm h
          have HEQ : Hid (xs[k]?.getD 0 = ys[k]?.getD 0 → dig (xs.drop k) = dig (ys.drop k)) := fun h => by rw [dig_drop_pred, dig_drop_pred (xs := ys), h, HD.out]
          clear hc hc2
          generalize xs[k]?.getD 0 = x at *
          generalize ys[k]?.getD 0 = y at *
          have hz : ((k + 1 : Nat) : Int) - 1 = (k : Int) := by omega
          rw [hz]
          by_cases h5 : x < y
          · have hcm : cmpN (dig xs) (dig ys) = -1 := by unfold cmpN; rw [if_pos (HLT.out h5)]
            have HCM : Hid _ := hcm
            clear hcm
            go_wp2_with fail
            go_region
            go_wp2_with fail
            go_ret
            exact ⟨by rw [HCM.out]; rfl, HB.out.drew⟩
          · by_cases h6 : y < x
            · have hcm : cmpN (dig xs) (dig ys) = 1 := by have := HGT.out h6; unfold cmpN; rw [if_neg (by omega), if_neg (by omega)]
              have HCM : Hid _ := hcm
              clear hcm
              go_wp2_with fail
              go_region
              go_wp2_with fail
              go_region
              go_wp2_with fail
              go_ret
              exact ⟨by rw [HCM.out]; rfl, HB.out.drew.drew⟩
            · obtain rfl : x = y := by omega
              go_wp2_with fail
              go_region
              go_wp2_with fail
              go_region
              go_wp2_with fail
              go_roundg fu
              case rel => exact ⟨k, by omega, rfl, HEQ.out trivial, HB.out.drew.drew, by omega⟩
              case measure => omega
end Go.Proofs.Ytbjnkefjlaplkaa

namespace Go.Proofs.Ytbjnkefjlaplkaa
open Go.RowKit
set_option linter.unusedVariables false

set_option maxRecDepth 100000 in
set_option maxHeartbeats 2000000 in
theorem minus_any (ao : Option Addr) (len cap : Nat) (xs : List Nat) (bo : Option Addr) (blen bcap : Nat) (ys : List Nat) (w : World) (hx : Rd4 w ao len cap xs) (hy : Rd4 w bo blen bcap ys) (hl : len ≤ 10000) (hll : blen ≤ len) (hdd : dig ys ≤ dig xs) :
    Calls Try.prog 44 #[.slice ao len cap, .slice bo blen bcap] w fun e w' => ∃ ao' k cap' zs, e = .returned (.slice ao' k cap') ∧ Rd4 w' ao' k cap' zs ∧ Nm zs ∧ dig zs = dig xs - dig ys ∧ Below w.heap.size w w' ∧ k ≤ len := by
  have h1 := hx.le
  have h2 := hx.max
  have h3 := hy.le
  have h4 := hy.max
  obtain ⟨w1, hmk, hO, hB1⟩ := make4 w len (by omega)
  have hmk' := hmk (len : Int) rfl
  have HX : Hid _ := hx
  have HY : Hid _ := hy
  have HO : Hid _ := hO
  have HB1 : Hid _ := hB1
  clear hmk hx hy hO hB1
  go_enter Try.func44, Try.ntmps44
  go_wp2_with fail
  go_loopg [6, 7] len (fun gg c i wx => ∃ (k cc : Nat) (zs : List Nat), k ≤ len ∧ i = .int .i64 k ∧ c = .int .u64 cc ∧ cc ≤ 1 ∧ Hid (Own4 wx w.heap.size w.heap.size len zs) ∧ Hid (Below w.heap.size w wx) ∧ Hid (U4 zs) ∧ Hid (dig (xs.take k) + wd k * cc = dig (zs.take k) + dig (ys.take k)) ∧ len ≤ k + gg)
  case atStart =>
    refine ⟨0, 0, List.replicate len 0, by omega, rfl, rfl, by omega, HO, HB1, ?_, ?_, by omega⟩
    · intro x hx; rw [List.eq_of_mem_replicate hx]; decide
    · unfold Hid; simp [dig]
  case round =>
    obtain ⟨k, cc, zs, hk, rfl, rfl, hcc, HOz, HBz, HUz, HDz, hfu⟩ := hrel
    by_cases hlt : k < len
    · obtain ⟨fu, rfl⟩ : ∃ g, gk = g + 1 := ⟨gk - 1, by omega⟩
      rcases HX.out.cells with hh | ⟨b, off, rfl, hc⟩
      · omega
      have g := (HBz.out.cell (World.block_lt_of_cell? w _ (hc k hlt))).trans (hc k hlt)
      have hxb := HX.out.lt.at k
      have gz := HOz.out.cell k (by omega)
      have gf := HOz.out.frozen k
      have HSET : Hid _ := HOz.out.set k
      have HTX : Hid _ := dig_take_more (ys := xs) (k := k)
      have HTY : Hid _ := dig_take_more (ys := ys) (k := k)
      clear hc
      generalize xs[k]?.getD 0 = y at *
      by_cases hkb : k < blen
      · rcases HY.out.cells with hh | ⟨b2, off2, rfl, hc2⟩
        · omega
        have g2 := (HBz.out.cell (World.block_lt_of_cell? w _ (hc2 k hkb))).trans (hc2 k hkb)
        have hyb := HY.out.lt.at k
        clear hc2
        generalize ys[k]?.getD 0 = z at *
        obtain ⟨X, hX⟩ : ∃ X : Nat, cc + z = X := ⟨_, rfl⟩
        have hXi : (cc : Int) + z = (X : Int) := by omega
        have hXb : X ≤ 4294967296 := by omega
        by_cases hbr : y < X
        · have hv : (y : Int) + 4294967296 - (X : Int) = ((y + 4294967296 - X : Nat) : Int) := by omega
          obtain ⟨V, hV⟩ : ∃ V : Nat, y + 4294967296 - X = V := ⟨_, rfl⟩
          rw [hV] at hv
          have hVb : V < 4294967296 := by omega
          go_wp2_with fail
          go_roundg fu
          case rel =>
            refine ⟨k + 1, 1, zs.set k V, by omega, by go_num, rfl, by omega, HSET.out _, below_set HBz.out (Nat.le_refl _), HUz.out.set k _ hVb, ?_, by omega⟩
            unfold Hid
            rw [dig_take_set (by rw [HOz.out.1]; omega), HTX.out, HTY.out, wd_succ]
            have hk0 := HDz.out
            have e1 : wd k * y + wd k * 4294967296 = wd k * V + (wd k * cc + wd k * z) := by rw [← Nat.mul_add, ← Nat.mul_add, ← Nat.mul_add]; congr 1; omega
            have e2 : 4294967296 * wd k * 1 = wd k * 4294967296 := by rw [Nat.mul_one, Nat.mul_comm]
            omega
          case measure => omega
        · have hv : (y : Int) - (X : Int) = ((y - X : Nat) : Int) := by omega
          obtain ⟨V, hV⟩ : ∃ V : Nat, y - X = V := ⟨_, rfl⟩
          rw [hV] at hv
          have hVb : V < 4294967296 := by omega
          go_wp2_with fail
          go_roundg fu
          case rel =>
            refine ⟨k + 1, 0, zs.set k V, by omega, by go_num, rfl, by omega, HSET.out _, below_set HBz.out (Nat.le_refl _), HUz.out.set k _ hVb, ?_, by omega⟩
            unfold Hid
            rw [dig_take_set (by rw [HOz.out.1]; omega), HTX.out, HTY.out, wd_succ]
            have hk0 := HDz.out
            have e1 : wd k * y = wd k * V + (wd k * cc + wd k * z) := by rw [← Nat.mul_add, ← Nat.mul_add]; congr 1; omega
            have e2 : 4294967296 * wd k * 0 = 0 := Nat.mul_zero _
            omega
          case measure => omega
      · have hy0 : ys[k]?.getD 0 = 0 := by rw [List.getElem?_eq_none (by rw [HY.out.length]; omega)]; rfl
        rw [hy0] at HTY
        obtain ⟨z, hz⟩ : ∃ z : Nat, z = 0 := ⟨_, rfl⟩
        rw [← hz] at HTY
        obtain ⟨X, hX⟩ : ∃ X : Nat, X = cc := ⟨_, rfl⟩
        have hXc : cc + z = X := by omega
        clear hz
        subst hX
        by_cases hbr : y < X
        · have hv : (y : Int) + 4294967296 - (X : Int) = ((y + 4294967296 - X : Nat) : Int) := by omega
          obtain ⟨V, hV⟩ : ∃ V : Nat, y + 4294967296 - X = V := ⟨_, rfl⟩
          rw [hV] at hv
          have hVb : V < 4294967296 := by omega
          go_wp2_with fail
          go_roundg fu
          case rel =>
            refine ⟨k + 1, 1, zs.set k V, by omega, by go_num, rfl, by omega, HSET.out _, below_set HBz.out (Nat.le_refl _), HUz.out.set k _ hVb, ?_, by omega⟩
            unfold Hid
            rw [dig_take_set (by rw [HOz.out.1]; omega), HTX.out, HTY.out, wd_succ]
            have hk0 := HDz.out
            have e1 : wd k * y + wd k * 4294967296 = wd k * V + (wd k * X + wd k * z) := by rw [← Nat.mul_add, ← Nat.mul_add, ← Nat.mul_add]; congr 1; omega
            have e2 : 4294967296 * wd k * 1 = wd k * 4294967296 := by rw [Nat.mul_one, Nat.mul_comm]
            omega
          case measure => omega
        · have hv : (y : Int) - (X : Int) = ((y - X : Nat) : Int) := by omega
          obtain ⟨V, hV⟩ : ∃ V : Nat, y - X = V := ⟨_, rfl⟩
          rw [hV] at hv
          have hVb : V < 4294967296 := by omega
          go_wp2_with fail
          go_roundg fu
          case rel =>
            refine ⟨k + 1, 0, zs.set k V, by omega, by go_num, rfl, by omega, HSET.out _, below_set HBz.out (Nat.le_refl _), HUz.out.set k _ hVb, ?_, by omega⟩
            unfold Hid
            rw [dig_take_set (by rw [HOz.out.1]; omega), HTX.out, HTY.out, wd_succ]
            have hk0 := HDz.out
            have e1 : wd k * y = wd k * V + (wd k * X + wd k * z) := by rw [← Nat.mul_add, ← Nat.mul_add]; congr 1; omega
            have e2 : 4294967296 * wd k * 0 = 0 := Nat.mul_zero _
            omega
          case measure => omega
    · obtain rfl : k = len := by omega
      have HTX : Hid (xs.take k = xs) := by unfold Hid; exact List.take_of_length_le (by rw [HX.out.length]; omega)
      have HDF : Hid (dig zs = dig xs - dig ys) := by
        unfold Hid
        have e1 := HDz.out
        have e2 := dig_lt HUz.out
        rw [HOz.out.1] at e2
        rw [HTX.out, List.take_of_length_le (by rw [HOz.out.1]; omega), List.take_of_length_le (by rw [HY.out.length]; omega)] at e1
        have e3 : cc = 0 := by
          rcases Nat.eq_zero_or_pos cc with h | h
          · exact h
          · have : cc = 1 := by omega
            rw [this, Nat.mul_one] at e1; omega
        rw [e3, Nat.mul_zero] at e1
        omega
      go_wp2_with fail
      refine (trim_any _ _ _ zs _ (Own4.rd HOz.out HUz.out (by omega))).mono ?_
      rintro e w' ⟨ao', m, rfl, rfl, hr', hm', hnm, hdg⟩
      go_wp2_with fail
      go_ret
      exact ⟨ao', m, _, _, rfl, hr', hnm, by rw [hdg, HDF.out], HBz.out, by omega⟩
end Go.Proofs.Ytbjnkefjlaplkaa

namespace Go.Proofs.Ytbjnkefjlaplkaa
open Go.RowKit
set_option linter.unusedVariables false

set_option maxRecDepth 100000 in
theorem turned_any (v : Value) (neg : Bool) (m : Nat) (e : Int) (w : World) (h : NumV w v neg m e) :
    Calls Try.prog 49 #[v] w fun e' w' => ∃ v', e' = .returned v' ∧ NumV w' v' (if m = 0 then neg else !neg) m e ∧ Below w.heap.size w w' := by
  obtain ⟨ao, len, cap, xs, rfl, hr, hnm, hm⟩ := h
  have hz := len_zero hr.length hr.lt hnm
  rw [hm] at hz
  have hbel : ∀ c1 c2 : Obj, Below w.heap.size w ((w.alloc c1).alloc c2) := fun c1 c2 => ((Below.refl _ _).alloc (Nat.le_refl _) _).alloc (by simp) _
  have HR : Hid _ := hr
  have HB : Hid _ := hbel
  clear hr hbel
  by_cases h0 : 0 < len
  · rw [if_neg (by omega)]
    go_enter Try.func49, Try.ntmps49
    go_wp2_with fail
    refine bodyPost_ret (v := .agg #[.bool (!neg), .slice ao len cap, .int .i64 e]) (res_num _ 2 (by kernel_rfl) _ _ (w.heap.size + 1) _ _ _ (by rfl) (by have := heap_alloc_new (w.alloc (Obj.cells #[Value.bool (!neg), Value.slice ao len cap, Value.int IntKind.i64 e] 60)) (Obj.cells #[Value.bool (!neg), Value.slice ao len cap, Value.int IntKind.i64 e] 60); simpa using this)) rfl ⟨_, rfl, ?_, HB.out _ _⟩
    exact ⟨ao, len, cap, xs, rfl, HR.out.later (HB.out _ _), hnm, hm⟩
  · rw [if_pos (by omega)]
    go_enter Try.func49, Try.ntmps49
    go_wp2_with fail
    refine bodyPost_ret (v := .agg #[.bool neg, .slice ao len cap, .int .i64 e]) (res_num _ 2 (by kernel_rfl) _ _ (w.heap.size + 1) _ _ _ (by rfl) (by have := heap_alloc_new (w.alloc (Obj.cells #[Value.bool neg, Value.slice ao len cap, Value.int IntKind.i64 e] 60)) (Obj.cells #[Value.bool neg, Value.slice ao len cap, Value.int IntKind.i64 e] 60); simpa using this)) rfl ⟨_, rfl, ?_, HB.out _ _⟩
    exact ⟨ao, len, cap, xs, rfl, HR.out.later (HB.out _ _), hnm, hm⟩
end Go.Proofs.Ytbjnkefjlaplkaa

namespace Go.Proofs.Ytbjnkefjlaplkaa
open Go.RowKit
set_option linter.unusedVariables false

set_option maxRecDepth 100000 in
set_option maxHeartbeats 1000000 in
theorem sign_any (v : Value) (neg : Bool) (m : Nat) (e : Int) (w : World) (h : NumV w v neg m e) :
    Calls Try.prog 37 #[v] w fun e' w' => e' = .returned (.int .i64 (if m = 0 then 0 else if neg then -1 else 1)) ∧ Below w.heap.size w w' := by
  obtain ⟨ao, len, cap, xs, rfl, hr, hnm, hm⟩ := h
  have hz := len_zero hr.length hr.lt hnm
  rw [hm] at hz
  clear hr
  by_cases h0 : m = 0
  · have hl : len = 0 := hz.2 h0
    subst hl
    rw [if_pos h0]
    clear hz
    go_enter Try.func37, Try.ntmps37
    go_wp2_with fail
    go_ret
    exact ⟨rfl, (Below.refl _ _).alloc (Nat.le_refl _) _⟩
  · have hl : 0 < len := by omega
    have hb : ((len : Int) == 0) = false := by rw [beq_eq_false_iff_ne]; omega
    rw [if_neg h0]
    clear hz
    cases neg
    · go_enter Try.func37, Try.ntmps37
      go_wp2_with fail
      go_ret
      exact ⟨rfl, (Below.refl _ _).alloc (Nat.le_refl _) _⟩
    · go_enter Try.func37, Try.ntmps37
      go_wp2_with fail
      go_ret
      exact ⟨rfl, (Below.refl _ _).alloc (Nat.le_refl _) _⟩
end Go.Proofs.Ytbjnkefjlaplkaa
