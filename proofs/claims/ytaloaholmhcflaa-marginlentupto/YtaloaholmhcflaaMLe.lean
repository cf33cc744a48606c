import Derived.Deep.QuietTactic
import Derived.BigQuiet
import Derived.Test.YtaloaholmhcflaaMLd
namespace Go.Proofs.Ytaloaholmhcflaa
open Go.RowKit Go.Shelf
set_option linter.unusedVariables false
set_option linter.unusedSimpArgs false
def fmI (i j : Nat) : Value := .int .i64 (1000 * (i : Int) + (j : Int))
def fxI (i j : Nat) : Value := .int .i64 (-(1000 * (i : Int) + (j : Int) + 1))
def fmF (i j : Nat) : Value := .float .f64 (1000 * i + j)
def fxF (i j : Nat) : Value := .float .f64 (1000 * i + j + 500000000)
theorem wrV (x : Int) (h : -9223372036854775808 ≤ x ∧ x ≤ 9223372036854775807) : IntKind.i64.wrap x = x := by simp [IntKind.wrap, IntKind.bits, IntKind.signed]; omega
theorem wrU (x : Int) (h : 0 ≤ x ∧ x ≤ 9223372036854775807) : IntKind.u64.wrap x = x := by simp [IntKind.wrap, IntKind.bits, IntKind.signed]; omega
theorem wv_i {i : Nat} (h : i < 3000) : IntKind.i64.wrap (1000 * (i : Int)) = 1000 * (i : Int) := wrV _ (by omega)
theorem wv_ij {i j : Nat} (h : i < 3000) (hj : j < 3000) : IntKind.i64.wrap (1000 * (i : Int) + (j : Int)) = 1000 * (i : Int) + (j : Int) := wrV _ (by omega)
theorem wv_ij1 {i j : Nat} (h : i < 3000) (hj : j < 3000) : IntKind.i64.wrap (1000 * (i : Int) + (j : Int) + 1) = 1000 * (i : Int) + (j : Int) + 1 := wrV _ (by omega)
theorem wv_ijn {i j : Nat} (h : i < 3000) (hj : j < 3000) : IntKind.i64.wrap (-(1000 * (i : Int) + (j : Int) + 1)) = -(1000 * (i : Int) + (j : Int) + 1) := wrV _ (by omega)
theorem wv_ijx {i j : Nat} (h : i < 3000) (hj : j < 3000) : IntKind.i64.wrap (1000 * (i : Int) + (j : Int) + 500000000) = 1000 * (i : Int) + (j : Int) + 500000000 := wrV _ (by omega)
theorem wv_nj {i j : Nat} (h : i < 3000) (hj : j < 3000) : IntKind.i64.wrap ((i : Int) + (j : Int)) = (i : Int) + (j : Int) := wrV _ (by omega)
theorem wu_ij {i j : Nat} (h : i < 3000) (hj : j < 3000) : IntKind.u64.wrap (1000 * (i : Int) + (j : Int)) = 1000 * (i : Int) + (j : Int) := wrU _ (by omega)
theorem wu_ijx {i j : Nat} (h : i < 3000) (hj : j < 3000) : IntKind.u64.wrap (1000 * (i : Int) + (j : Int) + 500000000) = 1000 * (i : Int) + (j : Int) + 500000000 := wrU _ (by omega)
theorem own_someV {W : World} {base : Nat} {E : TypeId} {lo : Option Addr} {K lc : Nat} {xs : List Value} (h : W.ownsRow base E 1 (.slice lo K lc) K xs) (hK : 0 < K) : ∃ q, lo = some ⟨q, 0, none⟩ := by
  rcases h.2 with ⟨_, h2⟩ | ⟨q, cap, cur, h2, _⟩
  · omega
  · injection h2 with h2
    exact ⟨q, h2⟩
set_option maxRecDepth 100000 in
set_option maxHeartbeats 4000000 in
theorem standInts_any (K n : Nat) (g c h d : Nat → Nat) (lo go : Option Addr) (lc gc : Nat) (w : World) (hK : K ≤ 2000) (hn : n ≤ 2000) (hS : SvE w 3 23 fmI fxI 9 n K g c h d (.slice lo K lc) (.slice go K gc)) :
    Calls Try.prog 29 #[.slice lo K lc, .slice go K gc] w fun e w' => e = .returned (.bool true) ∧ Below w.heap.size w w' := by
  have S : Hid (SvE w 3 23 fmI fxI 9 n K g c h d (.slice lo K lc) (.slice go K gc) ∧ Below w.heap.size w w) := ⟨hS, Below.refl _ _⟩
  clear hS
  go_enter Try.func29, Try.ntmps29
  go_wp2_with fail
  go_loopg [5] K (fun gg iv wx => ∃ i : Nat, iv = .int .i64 i ∧ i + gg = K ∧ Hid (SvE wx 3 23 fmI fxI 9 n K g c h d (.slice lo K lc) (.slice go K gc) ∧ Below w.heap.size w wx))
  case atStart => exact ⟨0, rfl, by omega, S⟩
  case round =>
    clear S
    obtain ⟨i, rfl, hj, S⟩ := hrel
    by_cases hiK : i < K
    · have e1 : decide ((i : Int) < (K : Int)) = true := decide_eq_true (by omega)
      obtain ⟨qq, rfl⟩ : ∃ q, gk = q + 1 := ⟨gk - 1, by omega⟩
      have HIG : Hid (i + (qq + 1) = K) := hj
      have hiK' : (i : Int) < (K : Int) := by omega
      obtain ⟨q, rfl⟩ : ∃ q, lo = some ⟨q, 0, none⟩ := by obtain ⟨b, hb⟩ := S.out.1.l; exact own_someV hb (by omega)
      obtain ⟨p, rfl⟩ : ∃ q, go = some ⟨q, 0, none⟩ := by obtain ⟨b, hb⟩ := S.out.1.v; exact own_someV hb (by omega)
      clear hj
      go_wp2_with fail
      go_loopg [6] n (fun gg iv wx => ∃ j : Nat, iv = .int .i64 j ∧ j + gg = n ∧ Hid (SvE wx 3 23 fmI fxI 9 n K g c h d (.slice (some ⟨q, 0, none⟩) K lc) (.slice (some ⟨p, 0, none⟩) K gc) ∧ Below w.heap.size w wx))
      case atStart => exact ⟨0, rfl, by omega, S⟩
      case round =>
        clear S
        obtain ⟨j, rfl, hj, S⟩ := hrel
        have CL : wr.cell? ⟨q, i, none⟩ = some (.slice (some ⟨g i, 0, none⟩) n (c i)) := by
          obtain ⟨b, hb⟩ := S.out.1.l
          have h9 := World.ownsRow.cellAt hb i (by rw [Nat.mul_one]; exact hiK)
          rw [slL_at g c n K i hiK] at h9
          exact h9
        by_cases hjn : j < n
        · have e2 : decide ((j : Int) < (n : Int)) = true := decide_eq_true (by omega)
          obtain ⟨qr, rfl⟩ : ∃ q, gk = q + 1 := ⟨gk - 1, by omega⟩
          have HJG : Hid (j + (qr + 1) = n) := hj
          have hjn' : (j : Int) < (n : Int) := by omega
          have hi3 : i < 3000 := by omega
          have hj3 : j < 3000 := by omega
          have v1 := wv_i hi3
          have v2 := wv_ij hi3 hj3
          have CM : wr.cell? ⟨g i, j, none⟩ = some (.int .i64 (1000 * (i : Int) + (j : Int))) := S.out.1.r i hiK j hjn
          have f4 : ((1000 * (i : Int) + (j : Int)) != (1000 * (i : Int) + (j : Int))) = false := by simp
          clear hj
          go_wp2_with fail
          clear CL CM v1 v2 f4
          go_roundg qr
          case measure => omega
          case rel => exact ⟨j + 1, by go_num, by have := HJG.out; omega, S⟩
        · have e2 : decide ((j : Int) < (n : Int)) = false := decide_eq_false (by omega)
          have e3 : decide (j < n) = false := decide_eq_false hjn
          clear hj
          go_wp2_with fail
          clear CL
          go_loopg [7] 9 (fun gg iv wx => ∃ j : Nat, iv = .int .i64 j ∧ j + gg = 9 ∧ Hid (SvE wx 3 23 fmI fxI 9 n K g c h d (.slice (some ⟨q, 0, none⟩) K lc) (.slice (some ⟨p, 0, none⟩) K gc) ∧ Below w.heap.size w wx))
          case atStart => exact ⟨0, rfl, by omega, S⟩
          case round =>
            clear S
            obtain ⟨j, rfl, hj, S⟩ := hrel
            by_cases hj20 : j < 9
            · have e2 : decide ((j : Int) < 9) = true := decide_eq_true (by omega)
              obtain ⟨qr, rfl⟩ : ∃ q, gk = q + 1 := ⟨gk - 1, by omega⟩
              have HJG : Hid (j + (qr + 1) = 9) := hj
              have CL : wr.cell? ⟨q, i, none⟩ = some (.slice (some ⟨g i, 0, none⟩) n (c i)) := by
                obtain ⟨b, hb⟩ := S.out.1.l
                have h9 := World.ownsRow.cellAt hb i (by rw [Nat.mul_one]; exact hiK)
                rw [slL_at g c n K i hiK] at h9
                exact h9
              have CP : wr.cell? ⟨p, i, none⟩ = some (.slice (some ⟨h i, 0, none⟩) (n + 9) (d i)) := by
                obtain ⟨b, hb⟩ := S.out.1.v
                have h9 := World.ownsRow.cellAt hb i (by rw [Nat.mul_one]; exact hiK)
                rw [slL_at h d (n + 9) K i hiK] at h9
                exact h9
              have CM : wr.cell? ⟨h i, n + j, none⟩ = some (.int .i64 (-(1000 * (i : Int) + (j : Int) + 1))) := S.out.1.w i hiK j hj20
              have f4 : ((-(1000 * (i : Int) + (j : Int) + 1)) != (-(1000 * (i : Int) + (j : Int) + 1))) = false := by simp
              have f5 : (n : Int) + (j : Int) < ((n + 9 : Nat) : Int) := by omega
              have f6 : (0 : Int) ≤ (n : Int) + (j : Int) := by omega
              have hn3 : n < 3000 := by omega
              have hi3 : i < 3000 := by omega
              have hj3 : j < 3000 := by omega
              have v1 := wv_i hi3
              have v2 := wv_ij hi3 hj3
              have v3 := wv_ij1 hi3 hj3
              have v4 := wv_ijn hi3 hj3
              have v5 := wv_nj hn3 hj3
              clear hj
              go_upto_region 12 with fail
              go_quiet (fail)
              clear CL CM CP v1 v2 v3 v4 v5 f4 f5 f6
              have S9 : Hid (SvE (wr.drewN nq) 3 23 fmI fxI 9 n K g c h d (.slice (some ⟨q, 0, none⟩) K lc) (.slice (some ⟨p, 0, none⟩) K gc) ∧ Below w.heap.size w (wr.drewN nq)) := ⟨S.out.1.later (below_drewN (Below.refl _ _) _), to_call S.out.2 (below_drewN (Below.refl _ _) _)⟩
              clear S
              go_wp2_with fail
              go_roundg qr
              case measure => omega
              case rel => exact ⟨j + 1, by go_num, by have := HJG.out; omega, S9⟩
            · have e2 : decide ((j : Int) < 9) = false := decide_eq_false (by omega)
              have e3 : decide (j < 9) = false := decide_eq_false hj20
              clear hj
              go_wp2_with fail
              go_roundg qq
              case measure => omega
              case rel => exact ⟨i + 1, by go_num, by have := HIG.out; omega, S⟩
    · have e1 : decide ((i : Int) < (K : Int)) = false := decide_eq_false (by omega)
      have e2 : decide (i < K) = false := decide_eq_false hiK
      have PZ : Hid (Below w.heap.size w wr) := S.out.2
      clear hj hiK S
      go_wp2_with fail
      go_ret
      exact ⟨rfl, PZ.out⟩
end Go.Proofs.Ytaloaholmhcflaa
