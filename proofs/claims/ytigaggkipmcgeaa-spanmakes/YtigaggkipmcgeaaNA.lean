import Derived.Test.YtigaggkipmcgeaaChecked
import Derived.Test.YtigaggkipmcgeaaPur
import Derived.WalkKit
import Derived.WalkSmall
import Derived.WalkLawsBesides
import Derived.Laws.BitsAll
import Derived.Laws.OwnMore
import Derived.OneCell
import Derived.Deep.RegionWith
import Derived.Deep.DeepCutAuto
namespace Go.Proofs.Ytigaggkipmcgeaa
open Go.RowKit
set_option linter.unusedVariables false

theorem Try.infoU32 : (Try.prog.info? 108).map (fun i => (i.zero, i.size, i.bytes)) = some (some (.int .u32 0), 1, 4) := by kernel_rfl
theorem Try.elemU32 : Try.prog.elem 25 = 108 := by kernel_rfl
theorem Try.sizeU32 (w : World) : (sizeOf 108).run Try.prog w = .ok 1 w := by kernel_rfl

/-- THE SLICE OF WORDS '.slice ao len cap' READS AS xs. -/
structure Rd4 (w : World) (ao : Option Addr) (len cap : Nat) (xs : List Nat) : Prop where
  length : xs.length = len
  le : len ≤ cap
  max : cap ≤ 1000000
  lt : U4 xs
  nil : ao = none → cap = 0
  cells : len = 0 ∨ ∃ b off, ao = some ⟨b, off, none⟩ ∧ ∀ j, j < len → w.cell? ⟨b, off + j, none⟩ = some (.int .u32 ((xs[j]?.getD 0 : Nat) : Int))
theorem Rd4.later {w w' : World} {ao : Option Addr} {len cap : Nat} {xs : List Nat} (h : Rd4 w ao len cap xs) (hb : Below w.heap.size w w') : Rd4 w' ao len cap xs := by
  refine ⟨h.length, h.le, h.max, h.lt, h.nil, ?_⟩
  rcases h.cells with h0 | ⟨b, off, ha, hc⟩
  · exact .inl h0
  · refine .inr ⟨b, off, ha, fun j hj => ?_⟩
    have hl := World.block_lt_of_cell? w _ (hc j hj)
    rw [hb.cell (p := ⟨b, off + j, none⟩) hl]
    exact hc j hj
theorem Rd4.none (w : World) : Rd4 w none 0 0 [] := ⟨rfl, Nat.le_refl _, by decide, (fun _ h => by cases h), fun _ => rfl, .inl rfl⟩
/-- The first q words. -/
theorem Rd4.cut {W : World} {ao : Option Addr} {len cap : Nat} {xs : List Nat} (hr : Rd4 W ao len cap xs) (q : Nat) (hq : q ≤ len) :
    Rd4 W (if cap = 0 then ao else ao.map (·.add (0 * 1))) q cap (xs.take q) := by
  have hl := hr.length
  refine ⟨by simp [hl]; omega, by have := hr.le; omega, hr.max, hr.lt.take q, ?_, ?_⟩
  · intro h
    split at h
    · assumption
    · cases ao with
      | none => exact hr.nil rfl
      | some a => simp at h
  · by_cases h0 : q = 0
    · exact .inl h0
    · right
      rcases hr.cells with h1 | ⟨b, off, rfl, hc⟩
      · omega
      · refine ⟨b, off, ?_, fun j hj => ?_⟩
        · have := hr.le; rw [if_neg (by omega), Option.map_some, Addr.add_lit, Nat.zero_mul, Nat.add_zero]
        · rw [hc j (by omega), List.getElem?_take, if_pos (by omega)]
theorem cut4 {W : World} {ao : Option Addr} {len cap : Nat} {xs : List Nat} (hr : Rd4 W ao len cap xs) (q : Nat) (hq : q ≤ len) :
    ∃ ao', (∀ w, (Instr.slice 25 (.slice ao len cap) none (some (.int .i64 q)) none).run Try.prog w = .ok (.slice ao' q cap) w) ∧ Rd4 W ao' q cap (xs.take q) := by
  refine ⟨_, fun w => ?_, hr.cut q hq⟩
  have hle := hr.le
  rw [run_slice_h w _ _ _ _ (by rw [Try.elemU32]; exact Try.underlying25) .i64 q (by omega) (by omega), Try.elemU32, Try.sizeU32]
  simp [Result.andThen, sliced]

set_option maxRecDepth 100000 in
set_option maxHeartbeats 1000000 in
theorem trim_any (ao : Option Addr) (len cap : Nat) (xs : List Nat) (w : World) (hr : Rd4 w ao len cap xs) :
    Calls Try.prog 64 #[.slice ao len cap] w fun e w' => ∃ ao' n, e = .returned (.slice ao' n cap) ∧ w' = w ∧ Rd4 w ao' n cap (xs.take n) ∧ n ≤ len ∧ Nm (xs.take n) ∧ dig (xs.take n) = dig xs := by
  have HR : Hid _ := hr
  have HL : Hid (xs.length = len) := hr.length
  have hle := hr.le
  have hmx := hr.max
  have hcl := hr.cells
  have HLT : Hid (U4 xs) := hr.lt
  clear hr
  go_enter Try.func64, Try.ntmps64
  go_wp2_with fail
  go_loop [3] (fun i => ∃ k : Nat, k ≤ len ∧ i = .int .i64 k ∧ Hid (dig (xs.take k) = dig xs)) (fun i => (intOf i).toNat)
  case atStart => exact ⟨len, by omega, rfl, by unfold Hid; rw [← HL.out, List.take_length]⟩
  case round =>
    obtain ⟨k, hk, rfl, hD⟩ := hrel
    cases k with
    | zero =>
      obtain ⟨ao', hcut, hr'⟩ := cut4 HR.out 0 (by omega)
      have HR' : Hid _ := hr'
      clear hr'
      have hz : ((0 : Nat) : Int) = 0 := rfl
      rw [hz] at hcut ⊢
      go_wp2
      go_ret
      exact ⟨ao', 0, rfl, rfl, HR'.out, by omega, .inl (by simp), hD.out⟩
    | succ k =>
      rcases hcl with h0 | ⟨b, off, rfl, hc⟩
      · omega
      have g := hc k (by omega)
      have hkl : k < xs.length := by rw [HL.out]; omega
      have hlt := HLT.out.at k
      have HDS : Hid _ := dig_take_succ hkl
      have HX : Hid (xs[k]?.getD 0 = (xs.take (k + 1))[(xs.take (k + 1)).length - 1]?.getD 0) := by
        unfold Hid; rw [List.length_take, Nat.min_eq_left (by omega), show k + 1 - 1 = k from rfl, List.getElem?_take, if_pos (by omega)]
      obtain ⟨ao', hcut, hr'⟩ := cut4 HR.out (k + 1) (by omega)
      have HR' : Hid _ := hr'
      clear hr' hc hkl
      have hz : ((k + 1 : Nat) : Int) = (k : Int) + 1 := rfl
      rw [hz] at hcut ⊢
      by_cases hx : xs[k]?.getD 0 = 0
      · rw [hx] at g
        have g' : w.cell? ⟨b, off + k, none⟩ = some (.int .u32 0) := g
        clear g hcut
        go_wp2
        go_round
        case rel => exact ⟨k, by omega, by go_num, by unfold Hid; have h1 := HDS.out; have h2 := hD.out; rw [hx, Nat.mul_zero] at h1; omega⟩
        case measure => show ((k : Int)).toNat < ((k : Int) + 1).toNat; omega
      · generalize hxe : xs[k]?.getD 0 = x at *
        go_wp2
        go_ret
        exact ⟨ao', k + 1, rfl, rfl, HR'.out, by omega, .inr (by rw [← HX.out]; exact hx), hD.out⟩

set_option maxRecDepth 100000 in
set_option maxHeartbeats 1000000 in
theorem length_any (ao : Option Addr) (len cap : Nat) (xs : List Nat) (w : World) (hr : Rd4 w ao len cap xs) (hn : Nm xs) :
    Calls Try.prog 109 #[.slice ao len cap] w fun e w' => e = .returned (.int .i64 (bl (dig xs) : Nat)) ∧ w' = w := by
  have hle := hr.le
  have hmx := hr.max
  by_cases h0 : len = 0
  · subst h0
    have hx : xs = [] := List.eq_nil_of_length_eq_zero hr.length
    subst hx
    clear hr
    go_enter Try.func109, Try.ntmps109
    go_wp2
    go_ret
    exact ⟨rfl, rfl⟩
  · have hne : xs ≠ [] := by intro h; rw [h] at hr; exact h0 hr.length.symm
    have HB : Hid _ := (bl_dig hr.lt hn hne).1
    have hlen := hr.length
    rcases hr.cells with h1 | ⟨b, off, rfl, hc⟩
    · omega
    have g := hc (len - 1) (by omega)
    have ht := hr.lt.at (len - 1)
    have htb : bl (xs[len - 1]?.getD 0) ≤ 32 := by
      by_cases hz : xs[len - 1]?.getD 0 = 0
      · rw [hz, bl_zero]; omega
      · have hb := bl_spec hz
        rcases Nat.lt_or_ge 32 (bl (xs[len - 1]?.getD 0)) with h | h
        · have : 2 ^ 32 ≤ 2 ^ (bl (xs[len - 1]?.getD 0) - 1) := Nat.pow_le_pow_right (by omega) (by omega)
          have h32 : (2 : Nat) ^ 32 = 4294967296 := by decide
          omega
        · exact h
    rw [hlen] at HB
    clear hc hr hlen
    generalize xs[len - 1]?.getD 0 = t at *
    have HBL : Hid (bl (dig xs) = 32 * (len - 1) + bl t) := HB
    clear HB
    generalize hbt : bl t = B at *
    obtain ⟨L, rfl⟩ : ∃ L, len = L + 1 := ⟨len - 1, by omega⟩
    rw [show L + 1 - 1 = L from rfl] at g HBL
    have hz : ((L + 1 : Nat) : Int) = (L : Int) + 1 := rfl
    have hb0 : ((L : Int) + 1 == 0) = false := by rw [beq_eq_false_iff_ne]; omega
    go_enter Try.func109, Try.ntmps109
    go_wp2_with fail
    go_loop [3, 4] (fun n x => ∃ (c y : Nat), x = .int .u32 y ∧ y < 4294967296 ∧ n = .int .i64 (32 * (L : Int) + c) ∧ Hid (c + bl y = B) ∧ c ≤ 32) (fun _ x => (intOf x).toNat)
    case atStart => exact ⟨0, t, rfl, ht, by simp, by unfold Hid; omega, by omega⟩
    case round =>
      obtain ⟨c, y, rfl, hy, rfl, hB, hc⟩ := hrel
      by_cases hy0 : y = 0
      · subst hy0
        have hcB : c = B := by have := hB.out; rw [bl_zero] at this; omega
        have hz0 : ((0 : Nat) : Int) = 0 := rfl
        rw [hz0]
        go_wp2
        go_ret
        refine ⟨?_, rfl⟩
        rw [HBL.out, show ((32 * L + B : Nat) : Int) = 32 * (L : Int) + B by omega]
        rfl
      · have hh := bl_half hy0
        have HH : Hid (c + 1 + bl (y / 2) = B) := by unfold Hid; have := hB.out; omega
        have hcl : c + 1 ≤ 32 := by have := HH.out; omega
        clear hh
        go_wp2
        go_round
        case rel => exact ⟨c + 1, y / 2, by go_num, by omega, by go_num, HH, hcl⟩
        case measure => show (((y : Int) / 2)).toNat < ((y : Int)).toNat; omega
end Go.Proofs.Ytigaggkipmcgeaa
