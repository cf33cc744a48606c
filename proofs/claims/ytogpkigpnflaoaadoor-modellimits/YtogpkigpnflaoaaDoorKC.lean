import Derived.Test.YtogpkigpnflaoaaDoorKB
namespace Go.Proofs.YtogpkigpnflaoaaDoor
open Go.RowKit
set_option linter.unusedVariables false

/-- THE SLICE OF SLICES OF FLOATS READS AS uss. -/
structure RdLL (w : World) (ao : Option Addr) (len cap : Nat) (uss : List (List Nat)) : Prop where
  length : uss.length = len
  max : len ≤ maxLen
  cells : len = 0 ∨ ∃ b off, ao = some ⟨b, off, none⟩ ∧ ∀ j, j < len → ∃ aj lj cj, w.cell? ⟨b, off + j, none⟩ = some (.slice aj lj cj) ∧ RdF w aj lj cj (uss[j]?.getD [])
theorem RdLL.later {w w' : World} {ao : Option Addr} {len cap : Nat} {uss : List (List Nat)} (h : RdLL w ao len cap uss) (hb : Below w.heap.size w w') : RdLL w' ao len cap uss := by
  refine ⟨h.length, h.max, ?_⟩
  rcases h.cells with h0 | ⟨b, off, ha, hc⟩
  · exact .inl h0
  · refine .inr ⟨b, off, ha, fun j hj => ?_⟩
    obtain ⟨aj, lj, cj, h1, h2⟩ := hc j hj
    refine ⟨aj, lj, cj, ?_, h2.later hb⟩
    have hlt := World.block_lt_of_cell? w _ h1
    rw [hb.cell (p := ⟨b, off + j, none⟩) hlt]
    exact h1
theorem RdLL.nil (w : World) (cap : Nat) : RdLL w none 0 cap [] := ⟨rfl, Nat.zero_le _, .inl rfl⟩
def eachF : List (List Nat) → Int → Nat → Int × Int
  | [], _, _ => (0, 0)
  | us :: r, n, i => if listE us n ≠ 0 then (listE us n, (i : Int)) else eachF r n (i + 1)
theorem eachF_drop (uss : List (List Nat)) (n : Int) {k : Nat} (h : k < uss.length) : eachF (uss.drop k) n k = if listE (uss[k]?.getD []) n ≠ 0 then (listE (uss[k]?.getD []) n, (k : Int)) else eachF (uss.drop (k + 1)) n (k + 1) := by
  rw [List.drop_eq_getElem_cons h, List.getElem?_eq_getElem h]
  rfl
theorem listE_range (us : List Nat) (n : Int) : listE us n = 0 ∨ listE us n = 63 ∨ listE us n = 64 := by unfold listE; repeat' split <;> simp_all
set_option maxRecDepth 100000 in
set_option maxHeartbeats 1000000 in
theorem each_any (ao : Option Addr) (len cap : Nat) (uss : List (List Nat)) (n : Int) (w : World) (h : RdLL w ao len cap uss) :
    Calls Tryd.prog 15 #[.slice ao len cap, .int .i64 n] w fun e w' => e = .returned (szV (eachF uss n 0)) ∧ w' = w := by
  have HR : Hid _ := h
  have hmx := Nat.le_trans h.max maxLen_le
  have hln := h.length
  clear h
  go_enter Tryd.func15, Tryd.ntmps15
  go_wp2_with fail
  go_loopg [11] len (fun g iv wx => ∃ k : Nat, iv = .int .i64 k ∧ k + g = len ∧ Hid (wx = w) ∧ Hid (eachF (uss.drop k) n k = eachF uss n 0))
  case atStart => exact ⟨0, rfl, by omega, rfl, rfl⟩
  case round =>
    obtain ⟨k, rfl, hk, hw, H1⟩ := hrel
    by_cases hlt : k < len
    · have hd : decide ((k : Int) < (len : Int)) = true := decide_eq_true (by omega)
      obtain ⟨g, rfl⟩ : ∃ g, gk = g + 1 := ⟨gk - 1, by omega⟩
      rcases HR.out.cells with h0 | ⟨b, off, rfl, hc⟩
      · omega
      · obtain ⟨aj, lj, cj, g0, hr⟩ := hc k hlt
        rw [← hw.out] at g0 hr
        have h2 := H1.out
        rw [eachF_drop uss n (by omega)] at h2
        obtain ⟨us, hu⟩ : ∃ us, uss[k]?.getD [] = us := ⟨_, rfl⟩
        rw [hu] at hr h2
        have HL : Hid _ := list_any aj lj cj us n wr hr
        clear hc hu H1 hr
        have hrg := listE_range us n
        obtain ⟨x, hx⟩ : ∃ x, listE us n = x := ⟨_, rfl⟩
        rw [hx] at h2 HL hrg
        clear hx
        by_cases hf : x = 0
        · subst hf
          rw [if_neg (by simp)] at h2
          have H2 : Hid (eachF (uss.drop (k + 1)) n (k + 1) = eachF uss n 0) := h2
          clear h2
          go_wp2_with fail
          refine Calls.mono HL.out ?_
          rintro e w' ⟨rfl, hw'⟩
          rw [hw']
          clear hw'
          go_wp2
          go_roundg g
          case measure => omega
          case rel => exact ⟨k + 1, by go_num, by omega, hw, H2⟩
        · rw [if_pos hf] at h2
          have H2 : Hid (eachF uss n 0 = (x, (k : Int))) := h2.symm
          have hne : (x == 0) = false := by simp; exact hf
          clear h2 hrg
          go_wp2_with fail
          refine Calls.mono HL.out ?_
          rintro e w' ⟨rfl, hw'⟩
          rw [hw']
          clear hw'
          go_wp2
          go_ret2
          exact ⟨by rw [H2.out]; rfl, hw.out⟩
    · have hd : decide ((k : Int) < (len : Int)) = false := decide_eq_false (by omega)
      have H2 : Hid (eachF uss n 0 = (0, 0)) := by
        unfold Hid
        rw [← H1.out, List.drop_eq_nil_of_le (by omega)]
        rfl
      clear H1
      go_wp2
      go_ret2
      exact ⟨by rw [H2.out]; rfl, hw.out⟩

/-! ### questions -/
def inB (a n b : Int) : Bool := decide (a ≤ n) && decide (n ≤ b)
def budE (K D L : Int) : Int := if inB 1 K 8 && inB 0 D 8 && inB 1 L 1024 then 0 else 69
theorem holds_in (a b n : Int) (w : World) :
    Calls Tryd.prog 13 #[.agg #[.int .i64 a, .int .i64 b], .int .i64 n] w fun e w' => e = .returned (.bool (inB a n b)) ∧ Below w.heap.size w w' := holds_any a b n w
end Go.Proofs.YtogpkigpnflaoaaDoor
