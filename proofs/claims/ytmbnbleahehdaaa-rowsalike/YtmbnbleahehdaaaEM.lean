import Derived.Test.YtmbnbleahehdaaaEI
import Derived.Test.YtmbnbleahehdaaaVG
namespace Go.Proofs.Ytmbnbleahehdaaa
open Go.RowKit
set_option linter.unusedVariables false

/-- What the law's small tells. -/
def smallV (seed i : Int) : Int := IntKind.u64.wrap (IntKind.u64.wrap (IntKind.u64.wrap (IntKind.u64.wrap seed * 2862933555777941757) + IntKind.u64.wrap (IntKind.u64.wrap i * 3037000493)) + 11)
def smallU (seed i : Int) : Int := IntKind.u64.wrap (bits BinOp.xor IntKind.u64 (smallV seed i) (smallV seed i / 536870912) * 11400714819323198485) / 1099511627776
def smallZ (seed i : Int) : Int := wrap64 (wrap64 ((smallU seed i).tmod 19) - 9)
set_option maxRecDepth 100000 in
theorem small_any (seed i : Int) (w : World) : Calls Try.prog 13 #[.int .i64 seed, .int .i64 i] w fun e w' => e = .returned (.int .i64 (smallZ seed i)) ∧ w' = w := by
  go_enter Try.func13, Try.ntmps13
  go_wp2_with fail
  go_ret
  exact ⟨rfl, rfl⟩
theorem smallU_nonneg (seed i : Int) : 0 ≤ smallU seed i := by
  unfold smallU
  have : 0 ≤ IntKind.u64.wrap (bits BinOp.xor IntKind.u64 (smallV seed i) (smallV seed i / 536870912) * 11400714819323198485) := by
    generalize (bits BinOp.xor IntKind.u64 (smallV seed i) (smallV seed i / 536870912) * 11400714819323198485) = x
    rw [IntKind.wrap_u64]; omega
  omega
theorem smallZ_bd (seed i : Int) : -9 ≤ smallZ seed i ∧ smallZ seed i ≤ 9 := by
  unfold smallZ
  rw [Int.tmod_eq_emod_of_nonneg (smallU_nonneg seed i)]
  generalize smallU seed i = x
  unfold wrap64
  omega
/-- A float of a small whole number. -/
def flZ (v : Int) : Nat := FloatKind.f64.nearest v
theorem flZ_all : ∀ n : _root_.Fin 19, flZ ((n : Nat) - 9 : Int) < 18446744073709551616 ∧ frung (flZ ((n : Nat) - 9 : Int)) < infK := by decide +kernel
theorem flZ_lt {v : Int} (h : -9 ≤ v ∧ v ≤ 9) : flZ v < 18446744073709551616 ∧ frung (flZ v) < infK := by
  have := flZ_all ⟨(v + 9).toNat, by omega⟩
  rw [show (((⟨(v + 9).toNat, by omega⟩ : _root_.Fin 19) : Nat) - 9 : Int) = v by simp; omega] at this
  exact this
structure RdIn (w : World) (ao : Option Addr) (len cap : Nat) (cs : List Int) : Prop where
  length : cs.length = len
  max : len ≤ 1000000
  cells : len = 0 ∨ ∃ b off, ao = some ⟨b, off, none⟩ ∧ ∀ j, j < len → w.cell? ⟨b, off + j, none⟩ = some (.int .i64 (cs[j]?.getD 0))
theorem RdIn.later {w w' : World} {ao : Option Addr} {len cap : Nat} {cs : List Int} (h : RdIn w ao len cap cs) (hb : Below w.heap.size w w') : RdIn w' ao len cap cs := by
  refine ⟨h.length, h.max, ?_⟩
  rcases h.cells with h0 | ⟨b, off, ha, hc⟩
  · exact .inl h0
  · refine .inr ⟨b, off, ha, fun j hj => ?_⟩
    rw [hb.cell (p := ⟨b, off + j, none⟩) (World.block_lt_of_cell? w _ (hc j hj))]
    exact hc j hj
set_option maxRecDepth 100000 in
set_option maxHeartbeats 1000000 in
theorem sameInts_any (ao bo : Option Addr) (len cap bcap : Nat) (us : List Int) (w : World) (h : RdIn w ao len cap us) (h' : RdIn w bo len bcap us) :
    Calls Try.prog 10 #[.slice ao len cap, .slice bo len bcap] w fun e w' => e = .returned (.bool true) ∧ Below w.heap.size w w' := by
  have HR : Hid _ := h
  have HS : Hid _ := h'
  have hmx := h.max
  clear h h'
  go_enter Try.func10, Try.ntmps10
  go_wp2_with fail
  go_loopg [5] len (fun g iv wx => ∃ k : Nat, iv = .int .i64 k ∧ k + g = len ∧ Hid (Below w.heap.size w wx))
  case atStart => exact ⟨0, rfl, by omega, Below.refl _ _⟩
  case round =>
    obtain ⟨k, rfl, hk, HB⟩ := hrel
    by_cases hlt : k < len
    · have hd : decide ((k : Int) < (len : Int)) = true := decide_eq_true (by omega)
      obtain ⟨g, rfl⟩ : ∃ g, gk = g + 1 := ⟨gk - 1, by omega⟩
      rcases (HR.out.later HB.out).cells with h0 | ⟨b, off, rfl, hc⟩
      · omega
      rcases (HS.out.later HB.out).cells with h0 | ⟨b', off', rfl, hc'⟩
      · omega
      have g0 := hc k hlt
      have g1 := hc' k hlt
      generalize us[k]?.getD 0 = u at *
      clear hc hc'
      go_upto_region 6 with fail
      go_quiet (fail)
      go_wp2
      go_roundg g
      case measure => omega
      case rel => exact ⟨k + 1, by go_num, by omega, below_drewN HB.out _⟩
    · have hd : decide ((k : Int) < (len : Int)) = false := decide_eq_false (by omega)
      go_wp2
      go_ret
      exact ⟨rfl, HB.out⟩
end Go.Proofs.Ytmbnbleahehdaaa
