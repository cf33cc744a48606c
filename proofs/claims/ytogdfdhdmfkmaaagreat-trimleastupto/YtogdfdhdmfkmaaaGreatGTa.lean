import Derived.Test.YtogdfdhdmfkmaaaGreatGYa
import Derived.Test.YtogdfdhdmfkmaaaGreatShelfF
import Derived.Shelf.SlSortCmp.NoneTotal
import Derived.Shelf.SlicesG.Cmp
import Derived.Lib.QuietBelow
import Derived.Test.YtogdfdhdmfkmaaaGreatGJg
namespace Go.Proofs.YtogdfdhdmfkmaaaGreat
open Go.RowKit
set_option linter.unusedVariables false
set_option linter.unusedSimpArgs false

/-- The sizes of the first k numbers, added. -/
def sumK (us : List Nat) : Nat → Nat
  | 0 => 0
  | k + 1 => sumK us k + rmag (frung (us[k]?.getD 0))
/-- The greatest size among the first k, as bits. -/
def grK (us : List Nat) : Nat → Nat
  | 0 => 0
  | k + 1 => max (grK us k) (frung (us[k]?.getD 0))
/-- A column's loss, exact. -/
def lossV (us : List Nat) : Int := (sumK us us.length : Int) - (rmag (grK us us.length) : Int)
theorem sumK_lt {us : List Nat} {F : Nat} (hF : F = 2098) (hf : ∀ j : Nat, Fin (us[j]?.getD 0)) : ∀ k, sumK us k ≤ k * 2 ^ F
  | 0 => by simp [sumK]
  | k + 1 => by
    have h1 := sumK_lt hF hf k
    have h2 := fval_ltJ (hf k) hF
    rw [sumK, Nat.succ_mul]
    omega
theorem grK_fin {us : List Nat} (hf : ∀ j : Nat, Fin (us[j]?.getD 0)) : ∀ k, grK us k < infK
  | 0 => by unfold grK infK; omega
  | k + 1 => by
    have h1 := grK_fin hf k
    have h2 : frung (us[k]?.getD 0) < infK := hf k
    rw [grK]
    omega
theorem infK_lt : infK < 9223372036854775808 := by unfold infK; omega
theorem frung_lo {x : Nat} (h : x < 9223372036854775808) : frung x = x := by unfold frung; omega
theorem fneg_lo {x : Nat} (h : x < 9223372036854775808) : fneg x = false := by unfold fneg; simp; omega
theorem srung_lo {x : Nat} (h : x < 9223372036854775808) : srung x = (x : Int) := by unfold srung; rw [fneg_lo h, frung_lo h]; rfl
theorem f64_fmtT : FloatKind.f64.format = Ieee.double := rfl
theorem max2_runT {P : Program} {x y : Nat} (hx : frung x ≤ infK) (hy : frung y ≤ infK) : ∃ r, (r = x ∨ r = y) ∧ srung r = max (srung x) (srung y) ∧ ∀ w, (Builtin.max2 (.float .f64 x) (.float .f64 y)).run P w = .ok (.float .f64 r) w := by
  have ho := order_rung hx hy
  by_cases h1 : srung x < srung y
  · rw [Int.compare_eq_lt.2 h1] at ho
    refine ⟨y, .inr rfl, by omega, fun w => ?_⟩
    unfold Builtin.max2; simp only [f64_fmtT, ho]; rfl
  · by_cases h2 : srung x = srung y
    · rw [Int.compare_eq_eq.2 h2] at ho
      refine ⟨if (FloatKind.f64.decode x).neg then y else x, ?_, ?_, fun w => ?_⟩
      · split <;> simp
      · split <;> omega
      · unfold Builtin.max2; simp only [f64_fmtT, ho]; rfl
    · rw [Int.compare_eq_gt.2 (by omega)] at ho
      refine ⟨x, .inl rfl, by omega, fun w => ?_⟩
      unfold Builtin.max2; simp only [f64_fmtT, ho]; rfl
theorem run_maxT {P : Program} {x y : Nat} (hx : frung x ≤ infK) (hy : frung y ≤ infK) : ∃ r, (r = x ∨ r = y) ∧ srung r = max (srung x) (srung y) ∧ ∀ ts t w, (Builtin.max_ ts t #[.float .f64 x, .float .f64 y]).run P w = .ok (.float .f64 r) w := by
  obtain ⟨r, h1, h2, h3⟩ := max2_runT (P := P) hx hy
  refine ⟨r, h1, h2, fun ts t w => ?_⟩
  unfold Builtin.max_
  simp [h3]
theorem run_negT (x : Nat) : ∀ w, (Op.unary .neg (.float .f64 x)).run Tryz.prog w = .ok (.float .f64 (fopp x)) w := fun w => rfl
theorem fin_oneT : Fin 4607182418800017408 := by decide
theorem run_maxK {P : Program} {x y : Nat} (hx : x < infK) (hy : y < infK) : ∀ ts t w, (Builtin.max_ ts t #[.float .f64 x, .float .f64 y]).run P w = .ok (.float .f64 (max x y : Nat)) w := by
  have hi := infK_lt
  obtain ⟨r, h1, h2, h3⟩ := run_maxT (P := P) (x := x) (y := y) (by rw [frung_lo (by omega)]; omega) (by rw [frung_lo (by omega)]; omega)
  have hr : r < 9223372036854775808 := by omega
  rw [srung_lo hr, srung_lo (by omega : x < _), srung_lo (by omega : y < _)] at h2
  have : r = max x y := by omega
  rw [← this]
  exact h3
theorem fval_fopp {x : Nat} (h : x < 9223372036854775808) : fval (fopp x) = -(rmag x : Int) := by
  obtain ⟨h1, h2, h3⟩ := fopp_parts (x := x) (by omega)
  unfold fval
  rw [h1, h2, fneg_lo h, frung_lo h]
  rfl
theorem fin_fopp {x : Nat} (h : x < infK) : Fin (fopp x) ∧ fopp x < 18446744073709551616 := by
  have hi := infK_lt
  obtain ⟨h1, h2, h3⟩ := fopp_parts (x := x) (by omega)
  exact ⟨by unfold Fin; rw [h1, frung_lo (by omega)]; exact h, h3⟩
theorem rmag_le_sum {us : List Nat} : ∀ k, rmag (grK us k) ≤ sumK us k
  | 0 => by simp [grK, sumK]; decide
  | k + 1 => by
    have h1 := rmag_le_sum (us := us) k
    rw [grK, sumK]
    by_cases h : grK us k ≤ frung (us[k]?.getD 0)
    · rw [Nat.max_eq_right h]; omega
    · rw [Nat.max_eq_left (by omega)]; omega
theorem lossV_nonneg (us : List Nat) : 0 ≤ lossV us := by have := rmag_le_sum (us := us) us.length; unfold lossV; omega
theorem prodO_negK {a E x : Nat} {s : Int} (ha : a = 1166) (hE : E = 2140) (hx : x < infK) (hs : (s - (rmag x : Int)).natAbs < 2 ^ E) : prodO (some (s * ((2 ^ a : Nat) : Int))) (fopp x) 4607182418800017408 0 = some ((s - (rmag x : Int)) * ((2 ^ a : Nat) : Int)) := by
  have hi := infK_lt
  have h := prodO_step (y := -(rmag x : Int)) (x := s) ha hE (fin_fopp hx).1 fin_oneT (by rw [prodZ_oneJ ha, fval_fopp (by omega)]) (by rw [← Int.sub_eq_add_neg]; exact hs)
  rw [h, ← Int.sub_eq_add_neg]
theorem prodO_posK {a E x : Nat} {s : Int} (ha : a = 1166) (hE : E = 2140) (hx : Fin x) (hs : (s + (rmag (frung x) : Int)).natAbs < 2 ^ E) : prodO (some (s * ((2 ^ a : Nat) : Int))) (frung x) 4607182418800017408 0 = some ((s + (rmag (frung x) : Int)) * ((2 ^ a : Nat) : Int)) :=
  prodO_step (y := (rmag (frung x) : Int)) (x := s) ha hE (fin_frung hx) fin_oneT (by rw [prodZ_oneJ ha, fval_frung]) hs
theorem sumK_bound {us : List Nat} {E : Nat} (hE : E = 2140) (hf : ∀ j : Nat, Fin (us[j]?.getD 0)) {k : Nat} (hk : k ≤ 1050000) : sumK us k < 2 ^ E := by
  obtain ⟨F, hF⟩ : ∃ F : Nat, F = 2098 := ⟨_, rfl⟩
  have h1 := sumK_lt hF hf k
  have h2 : (2 : Nat) ^ E = 4398046511104 * 2 ^ F := by rw [show (4398046511104 : Nat) = 2 ^ 42 by decide, ← Nat.pow_add, show 42 + F = E by omega]
  have h3 : k * 2 ^ F ≤ 1050000 * 2 ^ F := Nat.mul_le_mul_right _ hk
  have h4 := Nat.two_pow_pos F
  rw [h2]
  generalize 2 ^ F = Q at *
  omega
set_option maxRecDepth 100000 in
set_option maxHeartbeats 2000000 in
theorem loss_any (a : Nat) (ha : a = 1166) (ao : Option Addr) (len cap : Nat) (us : List Nat) (hl : len ≤ 1050000) (hf : ∀ j : Nat, Fin (us[j]?.getD 0)) (w : World) (h : RdF w ao len cap us) :
    Calls Tryz.prog 48 #[.slice ao len cap] w fun e w' => e = .returned (.pointer (some ⟨w.heap.size, 0, none⟩)) ∧ AccO w' w.heap.size (some (lossV us * ((2 ^ a : Nat) : Int))) ∧ Below w.heap.size w w' ∧ w.heap.size < w'.heap.size := by
  obtain ⟨E, hE⟩ : ∃ E : Nat, E = 2140 := ⟨_, rfl⟩
  have HR : Hid (RdF w ao len cap us) := h
  have HLN : Hid (us.length = len) := h.length
  have hmx : len ≤ 9223372036854775807 := Nat.le_trans h.max maxLen_le
  have HF : Hid (∀ j : Nat, Fin (us[j]?.getD 0)) := hf
  have HAE : Hid (a = 1166 ∧ E = 2140) := ⟨ha, hE⟩
  clear h hf ha hE
  have hz : ((0 : Nat) : Int) * ((2 ^ a : Nat) : Int) = 0 := by simp
  go_enter Tryz.func48, Tryz.ntmps48
  go_wp2_with (first | (go_at_call 61; refine (new_any _).mono ?_; rintro e w1 ⟨rfl, a1, b1, s1⟩))
  have HA0 : Hid (AccO w1 w.heap.size (some (((sumK us 0 : Nat) : Int) * ((2 ^ a : Nat) : Int)))) := by unfold Hid; rw [show sumK us 0 = 0 from rfl, hz]; exact a1
  have HB0 : Hid (Below w.heap.size w w1 ∧ w.heap.size < w1.heap.size) := ⟨b1, by omega⟩
  clear a1 b1 s1 hz
  go_loopg [4, 10] len (fun g gv iv wx => ∃ k : Nat, iv = .int .i64 k ∧ gv = .float .f64 (grK us k) ∧ k + g = len ∧ Hid (AccO wx w.heap.size (some (((sumK us k : Nat) : Int) * ((2 ^ a : Nat) : Int)))) ∧ Hid (Below w.heap.size w wx ∧ w.heap.size < wx.heap.size))
  case atStart => exact ⟨0, rfl, rfl, by omega, HA0, HB0⟩
  case round =>
    clear HA0 HB0
    obtain ⟨k, rfl, rfl, hk, HA, HB⟩ := hrel
    by_cases hlt : k < len
    · have hd : decide ((k : Int) < (len : Int)) = true := decide_eq_true (by omega)
      obtain ⟨g, rfl⟩ : ∃ g, gk = g + 1 := ⟨gk - 1, by omega⟩
      rcases (HR.out.later HB.out.1).cells with h0 | ⟨ab, aoff, rfl, hca⟩
      · omega
      have ga := hca k hlt
      have hax := HR.out.lt _ (getD_mem (us := us) (j := k) (by rw [HLN.out]; exact hlt))
      have HX : Hid (sumK us (k + 1) = sumK us k + rmag (frung (us[k]?.getD 0)) ∧ grK us (k + 1) = max (grK us k) (frung (us[k]?.getD 0)) ∧ Fin (us[k]?.getD 0) ∧ sumK us (k + 1) < 2 ^ E) := ⟨rfl, rfl, HF.out k, sumK_bound HAE.out.2 HF.out (by omega)⟩
      have hgf := grK_fin HF.out k
      obtain ⟨x, hx⟩ : ∃ x, us[k]?.getD 0 = x := ⟨_, rfl⟩
      rw [hx] at ga hax HX
      obtain ⟨gr, hgr⟩ : ∃ gr, grK us k = gr := ⟨_, rfl⟩
      rw [hgr] at hgf HX
      have hmaxr := run_maxK (P := Tryz.prog) hgf HX.out.2.2.1
      have HIG : Hid (k + (g + 1) = len) := hk
      obtain ⟨mr, hmr⟩ : ∃ mr, max gr (frung x) = mr := ⟨_, rfl⟩
      rw [hmr] at hmaxr HX
      rw [hgr]
      clear hca hx hk hgr hmr hgf
      go_wp2_with (first
        | (go_at_call 63; refine (abs_any x hax _).mono ?_; rintro e m ⟨rfl, hm⟩; rw [hm]; clear hm m)
        | (go_at_call 62; refine (accAdd_any w.heap.size _ (frung x) (frung_ltJ hax) _ HA.out).mono ?_; rintro e w3 ⟨rfl, a3, c3⟩))
      have HA3 : Hid (AccO w3 w.heap.size (some (((sumK us (k + 1) : Nat) : Int) * ((2 ^ a : Nat) : Int)))) := by
        unfold Hid
        have hb := HX.out.2.2.2
        rw [HX.out.1] at hb ⊢
        rw [prodO_posK HAE.out.1 HAE.out.2 HX.out.2.2.1 (by omega)] at a3
        rw [Int.natCast_add]
        exact a3
      have HB3 : Hid (Below w.heap.size w w3 ∧ w.heap.size < w3.heap.size) := ⟨HB.out.1.trans c3.below, Nat.lt_of_lt_of_le HB.out.2 c3.below.size⟩
      have HG3 : Hid (grK us (k + 1) = mr) := HX.out.2.1
      clear a3 c3 hmaxr ga hax HX HA HB
      go_roundg g
      case measure => omega
      case rel => exact ⟨k + 1, by go_num, by rw [HG3.out], by have := HIG.out; omega, HA3, HB3⟩
    · have hd : decide ((k : Int) < (len : Int)) = false := decide_eq_false (by omega)
      have hd' : decide (k < len) = false := decide_eq_false (by omega)
      have hkl : k = len := by omega
      have HA2 : Hid (AccO wr w.heap.size (some (((sumK us len : Nat) : Int) * ((2 ^ a : Nat) : Int)))) := hkl ▸ HA.out
      have hgf := grK_fin HF.out len
      have HX : Hid (lossV us = ((sumK us len : Nat) : Int) - (rmag (grK us len) : Int) ∧ (((sumK us len : Nat) : Int) - (rmag (grK us len) : Int)).natAbs < 2 ^ E) := by
        have h1 := sumK_bound (us := us) HAE.out.2 HF.out hl
        have h2 := rmag_le_sum (us := us) len
        exact ⟨by unfold lossV; rw [HLN.out], by omega⟩
      rw [show grK us k = grK us len by rw [hkl]]
      obtain ⟨gr, hgr⟩ : ∃ gr, grK us len = gr := ⟨_, rfl⟩
      rw [hgr] at hgf HX
      rw [hgr]
      have hng := run_negT gr
      have hfo := (fin_fopp hgf).2
      have HO : Hid (gr < infK) := hgf
      clear hkl hgr hgf
      go_wp2_with (first | (go_at_call 62; refine (accAdd_any w.heap.size _ (fopp gr) hfo _ HA2.out).mono ?_; rintro e w3 ⟨rfl, a3, c3⟩))
      go_ret
      refine ⟨rfl, ?_, HB.out.1.trans c3.below, Nat.lt_of_lt_of_le HB.out.2 c3.below.size⟩
      rw [prodO_negK HAE.out.1 HAE.out.2 HO.out HX.out.2] at a3
      rw [HX.out.1]
      exact a3
end Go.Proofs.YtogdfdhdmfkmaaaGreat

namespace Go.Proofs.YtogdfdhdmfkmaaaGreat
open Go.RowKit Go.Shelf
set_option linter.unusedVariables false
set_option linter.unusedSimpArgs false

theorem cellT {w w' : World} {a : Addr} {v : Value} (h : w.cell? a = some v) (hb : Below w.heap.size w w') : w'.cell? a = some v := (hb.cell (World.block_lt_of_cell? _ _ h)).trans h
theorem drawn_setCells (b : Nat) : ∀ (vs : List Value) (o : Nat) (w : World), (w.setCells b o vs).drawn = w.drawn
  | [], _, _ => rfl
  | v :: r, o, w => (drawn_setCells b r (o + 1) (w.setCell ⟨b, o, none⟩ v)).trans rfl
set_option maxRecDepth 100000 in
set_option maxHeartbeats 1000000 in
/-- Cmp, with what is told of the draws. -/
theorem accCmpD_any (B C : Nat) (x y : Int) (w : World) (hB : AccO w B (some x)) (hC : AccO w C (some y)) :
    Calls Tryz.prog 51 #[.pointer (some ⟨B, 0, none⟩), .pointer (some ⟨C, 0, none⟩)] w fun e w' => e = .returned (.tuple #[.int .i64 (sgi (x - y)), .bool true]) ∧ Below w.heap.size w w' ∧ w.drawn ≤ w'.drawn := by
  have HB : Hid _ := hB
  have HC : Hid _ := hC
  clear hB hC
  obtain ⟨f, k1, k2⟩ := HB.out.ex
  obtain ⟨g, k3, k4⟩ := HC.out.ex
  obtain ⟨t1, t2, t3⟩ := k2 x rfl
  obtain ⟨t4, t5, t6⟩ := k4 y rfl
  have hb : -((2 ^ 4863 : Nat) : Int) ≤ x - y ∧ x - y < ((2 ^ 4863 : Nat) : Int) := by
    have := pow_4800_4863
    generalize ((2 ^ 4800 : Nat) : Int) = L at *
    generalize ((2 ^ 4863 : Nat) : Int) = M at *
    omega
  have HF : Hid _ := And.intro k1 (And.intro k3 (And.intro t1 t4))
  have HR : Hid _ := hb
  clear k1 k2 k3 k4 t1 t2 t3 t4 t5 t6 hb
  have HN : Hid _ := Wds.new w
  have HBL : Hid (Below w.heap.size w (w.alloc (.cells Tryz.zeroCells111 111))) := (Below.refl _ w).alloc (Nat.le_refl _) _
  have HG : Hid _ := HF.out.2.1.below HBL.out HF.out.2.1.block
  have hst := store_words HN.out f
  have HS : Hid (Wds ((w.alloc (.cells Tryz.zeroCells111 111)).setCells w.heap.size 0 (wda f)) w.heap.size f ∧ Wds ((w.alloc (.cells Tryz.zeroCells111 111)).setCells w.heap.size 0 (wda f)) C g ∧ Below w.heap.size w ((w.alloc (.cells Tryz.zeroCells111 111)).setCells w.heap.size 0 (wda f)) ∧ ((w.alloc (.cells Tryz.zeroCells111 111)).setCells w.heap.size 0 (wda f)).drawn = w.drawn) :=
    ⟨HN.out.stored HF.out.1.lt, HG.out.heap (heap_setCells_other _ _ _ _ _ (by have := HF.out.2.1.block; omega)), Below.setCells (Nat.le_refl _) _ _ _ HBL.out, drawn_setCells _ _ _ _⟩
  generalize (w.alloc (.cells Tryz.zeroCells111 111)).setCells w.heap.size 0 (wda f) = w2 at hst HS
  go_enter Tryz.func51, Tryz.ntmps51
  go_wp2_with fail
  refine (bad_any B (some x) _ HB.out).mono ?_
  rintro e w1 ⟨rfl, rfl⟩
  go_wp2_with fail
  refine (bad_any C (some y) _ HC.out).mono ?_
  rintro e w1 ⟨rfl, rfl⟩
  go_wp2_with (first | (refine wpList_load_mid (by rfl) _ _ (by rfl) B 0 (by rfl) (wda f) _ HF.out.1.range Tryz.underlying111 rfl (size_wda f) ?_))
  refine (join_tc w1.heap.size C f g x y true _ HS.out.1 HS.out.2.1 HF.out.2.2.1 HF.out.2.2.2 (x - y) (by simp; omega) HR.out.1 HR.out.2).mono ?_
  rintro e w3 ⟨rfl, h, j1, j2, j3⟩
  have HJ : Hid _ := And.intro j1 j3
  have HB3 : Hid (Below w1.heap.size w1 w3 ∧ w1.drawn ≤ w3.drawn) := ⟨HS.out.2.2.1.trans j2.below, by have := j2.drawn; rw [HS.out.2.2.2] at this; exact this⟩
  clear j1 j2 j3
  go_wp2_with fail
  refine (signW_any w1.heap.size h (x - y) _ HJ.out.1 HJ.out.2).mono ?_
  rintro e w4 ⟨rfl, rfl⟩
  go_wp2_with fail
  go_ret2
  exact ⟨rfl, HB3.out⟩
/-- A world of which nothing old has turned and whose tape was asked no less. -/
theorem grown_of {w w' : World} (h : Below w.heap.size w w') (hd : w.drawn ≤ w'.drawn) : ∃ q os, w' = Sort.grow (w.drewN q) os := by
  obtain ⟨p, hp⟩ := regrown_of_below h
  refine ⟨p.d - w.drawn, p.os, ?_⟩
  have hd' : w'.drawn = p.d := by rw [hp]; rfl
  have e : redrawn w p.d = w.drewN (p.d - w.drawn) := by
    unfold redrawn World.drewN
    rw [show w.drawn + (p.d - w.drawn) = p.d by omega]
  rw [hp, e]
/-- The row of losses as the closure reads it. -/
structure LsR (w : World) (L gB n : Nat) (p : Nat → Nat) (v : Nat → Int) : Prop where
  box : w.cell? ⟨L, 0, none⟩ = some (.slice (some ⟨gB, 0, none⟩) n n)
  row : ∀ j, j < n → w.cell? ⟨gB, j, none⟩ = some (.pointer (some ⟨p j, 0, none⟩))
  acc : ∀ j, j < n → AccO w (p j) (some (v j))
theorem LsR.later {w w' : World} {L gB n : Nat} {p : Nat → Nat} {v : Nat → Int} (h : LsR w L gB n p v) (hb : Below w.heap.size w w') : LsR w' L gB n p v :=
  ⟨cellT h.box hb, fun j hj => cellT (h.row j hj) hb, fun j hj => (h.acc j hj).heap (hb.block _ (h.acc j hj).block)⟩
/-- What the closure tells. -/
def cfL (v : Nat → Int) (i j : Nat) : Int := if sgi (v i - v j) ≠ 0 then sgi (v i - v j) else Lib.compareInt i j
set_option maxRecDepth 100000 in
set_option maxHeartbeats 2000000 in
theorem byLoss1_any (L gB n : Nat) (p : Nat → Nat) (v : Nat → Int) (i j : Nat) (hi : i < n) (hj : j < n) (w : World) (h : LsR w L gB n p v) :
    Calls Tryz.prog 50 #[.int .i64 i, .int .i64 j, .pointer (some ⟨L, 0, none⟩)] w fun e w' => e = .returned (.int .i64 (cfL v i j)) ∧ Below w.heap.size w w' ∧ w.drawn ≤ w'.drawn := by
  have c0 := h.box
  have c1 := h.row i hi
  have c2 := h.row j hj
  have HA : Hid (AccO w (p i) (some (v i)) ∧ AccO w (p j) (some (v j))) := ⟨h.acc i hi, h.acc j hj⟩
  have hi' : (i : Int) < (n : Int) := by omega
  have hj' : (j : Int) < (n : Int) := by omega
  have hcm := fun W => AnyG.cmp_Compare_int Tryz.cmpL (i : Int) (j : Int) W
  change ∀ W, Calls Tryz.prog 52 _ _ _ at hcm
  have HV : Hid (cfL v i j = if sgi (v i - v j) ≠ 0 then sgi (v i - v j) else Lib.compareInt i j) := rfl
  obtain ⟨s, hs⟩ : ∃ s, sgi (v i - v j) = s := ⟨_, rfl⟩
  obtain ⟨r, hr⟩ : ∃ r, Lib.compareInt (i : Int) (j : Int) = r := ⟨_, rfl⟩
  rw [hs, hr] at HV
  rw [hr] at hcm
  have HS : Hid (sgi (v i - v j) = s) := hs
  clear hs hr h
  go_enter Tryz.func50, Tryz.ntmps50
  go_upto_region 1 with fail
  have hS : (fun w' => w'.cell? ⟨L, 0, none⟩ = some (.slice (some ⟨gB, 0, none⟩) n n) ∧ w'.cell? ⟨gB, i, none⟩ = some (.pointer (some ⟨p i, 0, none⟩)) ∧ w'.cell? ⟨gB, j, none⟩ = some (.pointer (some ⟨p j, 0, none⟩))) w.drew := ⟨c0, c1, c2⟩
  refine wp_region_noPanic ?_
  refine wp_region_held_drew (S := (fun w' => w'.cell? ⟨L, 0, none⟩ = some (.slice (some ⟨gB, 0, none⟩) n n) ∧ w'.cell? ⟨gB, i, none⟩ = some (.pointer (some ⟨p i, 0, none⟩)) ∧ w'.cell? ⟨gB, j, none⟩ = some (.pointer (some ⟨p j, 0, none⟩)))) (by kernel_rfl) hS (fun _ => ?_)
  refine takeH 9 (i := 0) (v := ?_) rfl rfl (by kernel_rfl) (by kernel_rfl) (by kernel_rfl) (fun _ _ _ h => h) (Or.inl ⟨by kernel_rfl, ?_⟩) (by assumption) ?_
  rotate_left
  · intro w' hSw; obtain ⟨s0, s1, s2⟩ := hSw; go_simp; try with_reducible rfl
  try simp only [Act.put, List.setIfInBounds_toArray, List.set_cons_zero, List.set_cons_succ]
  refine takeH 10 (i := 1) (v := ?_) rfl rfl (by kernel_rfl) (by kernel_rfl) (by kernel_rfl) (fun _ _ _ h => h) (Or.inl ⟨by kernel_rfl, ?_⟩) (by assumption) ?_
  rotate_left
  · intro w' hSw; obtain ⟨s0, s1, s2⟩ := hSw; go_simp; try with_reducible rfl
  try simp only [Act.put, List.setIfInBounds_toArray, List.set_cons_zero, List.set_cons_succ]
  refine takeH 11 (i := 2) (v := ?_) rfl rfl (by kernel_rfl) (by kernel_rfl) (by kernel_rfl) (fun _ _ _ h => h) (Or.inl ⟨by kernel_rfl, ?_⟩) (by assumption) ?_
  rotate_left
  · intro w' hSw; obtain ⟨s0, s1, s2⟩ := hSw; go_simp; try with_reducible rfl
  try simp only [Act.put, List.setIfInBounds_toArray, List.set_cons_zero, List.set_cons_succ]
  refine takeH 12 (i := 3) (v := ?_) rfl rfl (by kernel_rfl) (by kernel_rfl) (by kernel_rfl) (fun _ _ _ h => h) (Or.inl ⟨by kernel_rfl, ?_⟩) (by assumption) ?_
  rotate_left
  · intro w' hSw; obtain ⟨s0, s1, s2⟩ := hSw; go_simp; try with_reducible rfl
  try simp only [Act.put, List.setIfInBounds_toArray, List.set_cons_zero, List.set_cons_succ]
  refine takeH 13 (i := 4) (v := ?_) rfl rfl (by kernel_rfl) (by kernel_rfl) (by kernel_rfl) (fun _ _ _ h => h) (Or.inl ⟨by kernel_rfl, ?_⟩) (by assumption) ?_
  rotate_left
  · intro w' hSw; obtain ⟨s0, s1, s2⟩ := hSw; go_simp; try with_reducible rfl
  try simp only [Act.put, List.setIfInBounds_toArray, List.set_cons_zero, List.set_cons_succ]
  refine takeH 14 (i := 5) (v := ?_) rfl rfl (by kernel_rfl) (by kernel_rfl) (by kernel_rfl) (fun _ _ _ h => h) (Or.inl ⟨by kernel_rfl, ?_⟩) (by assumption) ?_
  rotate_left
  · intro w' hSw; obtain ⟨s0, s1, s2⟩ := hSw; go_simp; try with_reducible rfl
  try simp only [Act.put, List.setIfInBounds_toArray, List.set_cons_zero, List.set_cons_succ]
  refine takeH 15 (i := 6) (v := ?_) rfl rfl (by kernel_rfl) (by kernel_rfl) (by kernel_rfl) (fun _ _ _ h => h) (Or.inl ⟨by kernel_rfl, ?_⟩) (by assumption) ?_
  rotate_left
  · intro w' hSw; obtain ⟨s0, s1, s2⟩ := hSw; go_simp; try with_reducible rfl
  try simp only [Act.put, List.setIfInBounds_toArray, List.set_cons_zero, List.set_cons_succ]
  refine takeH 16 (i := 7) (v := ?_) rfl rfl (by kernel_rfl) (by kernel_rfl) (by kernel_rfl) (fun _ _ _ h => h) (Or.inl ⟨by kernel_rfl, ?_⟩) (by assumption) ?_
  rotate_left
  · intro w' hSw; obtain ⟨s0, s1, s2⟩ := hSw; go_simp; try with_reducible rfl
  try simp only [Act.put, List.setIfInBounds_toArray, List.set_cons_zero, List.set_cons_succ]
  refine wpAnyH_ready (rs := [8]) (by kernel_rfl) (by simp) ?_
  refine consH _ rfl (hopCd 17 rfl (by kernel_rfl) rfl (by kernel_rfl) (Calls.mono (accCmpD_any (p i) (p j) (v i) (v j) _ HA.out.1.drew HA.out.2.drew) ?_)) AllReadyH.nil
  rintro e w3 ⟨rfl, b3, d3⟩
  rw [HS.out]
  have HB : Hid (Below w.heap.size w w3 ∧ w.drawn ≤ w3.drawn) := ⟨(Below.refl _ _).drew.trans b3, by have : w.drew.drawn = w.drawn + 1 := rfl; omega⟩
  have hS3 : (fun w' => w'.cell? ⟨L, 0, none⟩ = some (.slice (some ⟨gB, 0, none⟩) n n) ∧ w'.cell? ⟨gB, i, none⟩ = some (.pointer (some ⟨p i, 0, none⟩)) ∧ w'.cell? ⟨gB, j, none⟩ = some (.pointer (some ⟨p j, 0, none⟩))) w3 := ⟨cellT hS.1 b3, cellT hS.2.1 b3, cellT hS.2.2 b3⟩
  clear b3 d3
  refine ⟨_, rfl, hS3, ?_⟩
  try simp only [Act.put, List.setIfInBounds_toArray, List.set_cons_zero, List.set_cons_succ]
  refine takeH 8 (i := 9) (v := ?_) rfl rfl (by kernel_rfl) (by kernel_rfl) (by kernel_rfl) (fun _ _ _ h => h) (Or.inl ⟨by kernel_rfl, ?_⟩) (by assumption) ?_
  rotate_left
  · intro w' hSw; obtain ⟨s0, s1, s2⟩ := hSw; go_simp; try with_reducible rfl
  try simp only [Act.put, List.setIfInBounds_toArray, List.set_cons_zero, List.set_cons_succ]
  refine takeH 18 (i := 10) (v := ?_) rfl rfl (by kernel_rfl) (by kernel_rfl) (by kernel_rfl) (fun _ _ _ h => h) (Or.inl ⟨by kernel_rfl, ?_⟩) (by assumption) ?_
  rotate_left
  · intro w' hSw; obtain ⟨s0, s1, s2⟩ := hSw; go_simp; try with_reducible rfl
  try simp only [Act.put, List.setIfInBounds_toArray, List.set_cons_zero, List.set_cons_succ]
  refine takeH 19 (i := 11) (v := ?_) rfl rfl (by kernel_rfl) (by kernel_rfl) (by kernel_rfl) (fun _ _ _ h => h) (Or.inl ⟨by kernel_rfl, ?_⟩) (by assumption) ?_
  rotate_left
  · intro w' hSw; obtain ⟨s0, s1, s2⟩ := hSw; go_simp; try with_reducible rfl
  try simp only [Act.put, List.setIfInBounds_toArray, List.set_cons_zero, List.set_cons_succ]
  refine takeH 6 (i := 12) (v := ?_) rfl rfl (by kernel_rfl) (by kernel_rfl) (by kernel_rfl) (fun _ _ _ h => h) (Or.inl ⟨by kernel_rfl, ?_⟩) (by assumption) ?_
  rotate_left
  · intro w' hSw; obtain ⟨s0, s1, s2⟩ := hSw; go_simp; try with_reducible rfl
  try simp only [Act.put, List.setIfInBounds_toArray, List.set_cons_zero, List.set_cons_succ]
  refine takeH 7 (i := 13) (v := ?_) rfl rfl (by kernel_rfl) (by kernel_rfl) (by kernel_rfl) (fun _ _ _ h => h) (Or.inl ⟨by kernel_rfl, ?_⟩) (by assumption) ?_
  rotate_left
  · intro w' hSw; obtain ⟨s0, s1, s2⟩ := hSw; go_simp; try with_reducible rfl
  try simp only [Act.put, List.setIfInBounds_toArray, List.set_cons_zero, List.set_cons_succ]
  refine wpAnyH_done (by kernel_rfl) ?_ _
  refine NoPanic.normal ?_
  try simp only [Act.put, List.setIfInBounds_toArray, List.set_cons_zero, List.set_cons_succ]
  clear hS hS3 c0 c1 c2
  by_cases h0 : s = 0
  · have hd : (s != 0) = false := by simp [h0]
    have hd2 : (s == 0) = true := by simp [h0]
    have HR : Hid (cfL v i j = r) := by unfold Hid; rw [HV.out, if_neg (by simp [h0])]
    subst h0
    go_wp2_with (first | (go_at_call 52; refine (hcm _).mono ?_; rintro e w' ⟨rfl, rfl⟩))
    go_ret
    exact ⟨by rw [HR.out]; rfl, HB.out⟩
  · have hd : (s != 0) = true := by simpa using h0
    have hd2 : (s == 0) = false := by simpa using h0
    have HR : Hid (cfL v i j = s) := by unfold Hid; rw [HV.out, if_pos h0]
    clear h0
    go_wp2_with fail
    go_ret
    exact ⟨by rw [HR.out]; rfl, HB.out⟩
end Go.Proofs.YtogdfdhdmfkmaaaGreat

namespace Go.Proofs.YtogdfdhdmfkmaaaGreat
open Go.RowKit Go.Shelf
set_option linter.unusedVariables false
set_option linter.unusedSimpArgs false

theorem makePT (n : Nat) (hn : n ≤ 4000000) (w : World) :
    (Instr.makeSlice 71 (.int .i64 (n : Int)) (.int .i64 (n : Int))).run Tryz.prog w = .ok (.slice (some ⟨w.heap.size, 0, none⟩) n n) (w.alloc (.cells (ptN n) 87)) := by
  obtain ⟨i0, hi, hz0, hz1, hz2⟩ := info3J Tryz.infoPJ
  have h := run_makeSlice (P := Tryz.prog) w 71 87 i0 (.pointer none) Tryz.underlying71 hi hz0 .i64 .i64 (n : Int) (n : Int) (by omega) (by omega) (by rw [hz1, Int.toNat_natCast]; omega) (by rw [hz2]; omega) (by omega)
  rw [Int.toNat_natCast, hz1, Nat.mul_one] at h
  exact h
theorem Tryz.infoIT : (Tryz.prog.info? 3).map (fun i => (i.zero, i.size, i.bytes)) = some (some (.int .i64 0), 1, 8) := by kernel_rfl
def izN (n : Nat) : Array Value := madeCells #[.int .i64 0] n
theorem izN_at (n j : Nat) (h : j < n) : (izN n)[j]? = some (.int .i64 0) := by unfold izN madeCells; simp [h, Nat.mod_one]
theorem makeIT (n : Nat) (hn : n ≤ 4000000) (w : World) :
    (Instr.makeSlice 23 (.int .i64 (n : Int)) (.int .i64 (n : Int))).run Tryz.prog w = .ok (.slice (some ⟨w.heap.size, 0, none⟩) n n) (w.alloc (.cells (izN n) 3)) := by
  obtain ⟨i0, hi, hz0, hz1, hz2⟩ := info3J Tryz.infoIT
  have h := run_makeSlice (P := Tryz.prog) w 23 3 i0 (.int .i64 0) Tryz.underlying23 hi hz0 .i64 .i64 (n : Int) (n : Int) (by omega) (by omega) (by rw [hz1, Int.toNat_natCast]; omega) (by rw [hz2]; omega) (by omega)
  rw [Int.toNat_natCast, hz1, Nat.mul_one] at h
  exact h
theorem ex_makeT {P : Program} {ρ : Operand → Value} (o : Oper) (t : TypeId) (x y : Operand) (ho : o.op = .makeSlice t x y) (u1 u2 : Value) (hx : ρ x = u1) (hy : ρ y = u2) (v : Value) (w w' : World) (h : (Instr.makeSlice t u1 u2).run P w = .ok v w') : (execOp ρ o).run P w = .ok (.value v) w' := by
  unfold execOp
  simp only [ho, hx, hy, h, Sem.run_bind, Sem.run_pure, Result.andThen_ok]
/-- A made slice, as a step of a drawn region. -/
theorem hopMT {P : Program} {ops : Array Oper} {Q : Exit → Act → World → Prop} {i : Nat} {o : Oper} {K : Act → World → Prop} {a : Act} {w : World} (d : Nat) (ho : ops[i]? = some o) (hg : o.guard = none) (hd : o.dst = some d) (t te : TypeId) (x y : Operand) (n : Nat) (hop : o.op = .makeSlice t x y) (hx : a.eval x = .int .i64 (n : Int)) (hy : a.eval y = .int .i64 (n : Int)) (z : Array Value)
    (hz : ∀ w, (Instr.makeSlice t (.int .i64 (n : Int)) (.int .i64 (n : Int))).run P w = .ok (.slice (some ⟨w.heap.size, 0, none⟩) n n) (w.alloc (.cells z te)))
    (h : ∀ D W', W'.heap[D]? = some (.cells z te) → w.heap.size ≤ D → Below w.heap.size w W' → K (a.put (some d) (.slice (some ⟨D, 0, none⟩) n n)) W') : wpOp P ops Q i K a w :=
  hopV d ho hg hd (ex_makeT _ t x y hop _ _ hx hy _ _ _ (hz w)) (h _ _ (heap_alloc_new w _) (Nat.le_refl _) ((Below.refl _ w).alloc (Nat.le_refl _) _))
theorem allocLT (w : World) : (Instr.alloc 71 true (.tuple #[])).run Tryz.prog w = .ok (.pointer (some ⟨w.heap.size, 0, none⟩)) (w.alloc (.cells #[.slice none 0 0] 71)) := by kernel_rfl
theorem Tryz.szL1 : (Tryz.prog.info? 71).map (·.size) = some 1 := by kernel_rfl
theorem Tryz.szI1 : (Tryz.prog.info? 3).map (·.size) = some 1 := by kernel_rfl
theorem Tryz.szP1 : (Tryz.prog.info? 87).map (·.size) = some 1 := by kernel_rfl
theorem one_sl (a : Option Addr) (l c : Nat) : ∀ u ∈ (Value.slice a l c).cells.toList, u.oneCell' = true := by
  intro u hu
  have : u = .slice a l c := by simpa [Value.cells] using hu
  rw [this]; rfl
theorem one_pt (a : Option Addr) : ∀ u ∈ (Value.pointer a).cells.toList, u.oneCell' = true := by
  intro u hu
  have : u = .pointer a := by simpa [Value.cells] using hu
  rw [this]; rfl
theorem one_in (x : Int) : ∀ u ∈ (Value.int .i64 x).cells.toList, u.oneCell' = true := by
  intro u hu
  have : u = .int .i64 x := by simpa [Value.cells] using hu
  rw [this]; rfl
/-- The cells of a row of ints, the first k of them their own places. -/
def upN (n k : Nat) : Array Value := ((List.range n).map fun j => Value.int .i64 (if j < k then (j : Int) else 0)).toArray
theorem upN_size (n k : Nat) : (upN n k).size = n := by unfold upN; simp
theorem upN_zero (n : Nat) : izN n = upN n 0 := by
  apply Array.ext_getElem?
  intro j
  by_cases h : j < n
  · rw [izN_at n j h]; unfold upN; simp [h]
  · rw [Array.getElem?_eq_none (by unfold izN madeCells; simp; omega), Array.getElem?_eq_none (by rw [upN_size]; omega)]
theorem upN_set (n k : Nat) (h : k < n) : ((upN n k).toList.take k ++ (Value.int .i64 (k : Int)).cells.toList ++ (upN n k).toList.drop (k + 1)).toArray = upN n (k + 1) := by
  apply Array.ext_getElem?
  intro j
  have hl : (upN n k).toList.length = n := by rw [Array.length_toList, upN_size]
  have hc : (Value.int .i64 (k : Int)).cells.toList = [.int .i64 (k : Int)] := rfl
  rw [hc]
  simp only [List.getElem?_toArray]
  by_cases h1 : j < k
  · rw [List.append_assoc, List.getElem?_append_left (by simp [hl]; omega), List.getElem?_take_of_lt h1]
    unfold upN
    have h3 : j < n := by omega
    have h2 : j < k + 1 := by omega
    simp [h1, h3, h2]
  · by_cases h2 : j = k
    · subst h2
      rw [List.getElem?_append_left (by simp [hl]; omega), List.getElem?_append_right (by simp [hl]; omega)]
      unfold upN
      have h3 : min j n = j := by omega
      simp [h, h3]
    · have hlen : ((upN n k).toList.take k ++ [Value.int .i64 (k : Int)]).length = k + 1 := by simp [hl]; omega
      rw [List.getElem?_append_right (by omega), hlen, List.getElem?_drop]
      by_cases h3 : j < n
      · have h4 : k + 1 + (j - (k + 1)) = j := by omega
        rw [h4]
        unfold upN
        have h5 : ¬ j < k := by omega
        have h6 : ¬ j < k + 1 := by omega
        simp [h3, h5, h6]
      · rw [List.getElem?_eq_none (by omega), Array.getElem?_eq_none (by rw [upN_size]; omega)]
/-- What byLoss has made so far. -/
structure BlR (w W : World) (z : ZD) (n k P G L : Nat) (p : Nat → Nat) (v : Nat → Int) : Prop where
  pl : W.heap[P]? = some (.cells (upN n k) 3)
  box : W.heap[L]? = some (.cells #[.slice (some ⟨G, 0, none⟩) n n] 71)
  row : ∃ c : Array Value, W.heap[G]? = some (.cells c 87) ∧ c.size = n ∧ ∀ j, j < k → c[j]? = some (.pointer (some ⟨p j, 0, none⟩))
  acc : ∀ j, j < k → AccO W (p j) (some (v j))
  ne : P ≠ G ∧ P ≠ L ∧ G ≠ L ∧ w.heap.size ≤ P ∧ w.heap.size ≤ G ∧ w.heap.size ≤ L
  pne : ∀ j, j < k → p j ≠ P ∧ p j ≠ G
  zb : W.heap[w.heap.size]? = some (.cells #[.int .i64 z.N, .slice z.co z.cn z.cc, .slice z.io z.dn z.dc, .slice z.go z.gn z.gc, .slice z.ro z.rn z.rc, .bool z.bad] 26) ∧ P ≠ w.heap.size ∧ G ≠ w.heap.size
  bel : Below w.heap.size w W
theorem BlR.ls {w W : World} {z : ZD} {n P G L : Nat} {p : Nat → Nat} {v : Nat → Int} (h : BlR w W z n n P G L p v) : LsR W L G n p v := by
  obtain ⟨c, hc, hs, hp⟩ := h.row
  exact ⟨cellAtJ h.box 0 _ rfl, fun j hj => cellAtJ hc j _ (hp j hj), h.acc⟩
theorem BlR.later {w W W' : World} {z : ZD} {n k P G L : Nat} {p : Nat → Nat} {v : Nat → Int} (h : BlR w W z n k P G L p v) (hb : Below W.heap.size W W') : BlR w W' z n k P G L p v := by
  obtain ⟨c, hc, hs, hp⟩ := h.row
  exact ⟨kept hb h.pl, kept hb h.box, ⟨c, kept hb hc, hs, hp⟩, fun j hj => (h.acc j hj).heap (hb.block _ (h.acc j hj).block), h.ne, h.pne, ⟨kept hb h.zb.1, h.zb.2⟩, to_call h.bel hb⟩
theorem setP_cells {c : Array Value} {k : Nat} {v : Value} (hk : k < c.size) (hv : v.cells.toList = [v]) : ∃ d : Array Value, (c.toList.take k ++ v.cells.toList ++ c.toList.drop (k + 1)).toArray = d ∧ d.size = c.size ∧ d[k]? = some v ∧ ∀ j, j ≠ k → d[j]? = c[j]? := by
  refine ⟨_, rfl, ?_, ?_, fun j hj => ?_⟩
  · rw [hv]; simp; omega
  · rw [hv]
    simp only [List.getElem?_toArray]
    rw [List.getElem?_append_left (by simp; omega), List.getElem?_append_right (by simp; omega)]
    have h3 : min k c.size = k := by omega
    simp [h3]
  · rw [hv]
    simp only [List.getElem?_toArray]
    by_cases h1 : j < k
    · rw [List.append_assoc, List.getElem?_append_left (by simp; omega), List.getElem?_take_of_lt h1, Array.getElem?_toList]
    · have hlen : (c.toList.take k ++ [v]).length = k + 1 := by simp; omega
      rw [List.getElem?_append_right (by omega), hlen, List.getElem?_drop, show k + 1 + (j - (k + 1)) = j by omega, Array.getElem?_toList]
theorem BlR.push {w W W1 W2 W3 : World} {z : ZD} {n k P G L : Nat} {p : Nat → Nat} {v : Nat → Int} (h : BlR w W z n k P G L p v) (hk : k < n) (b1 : Below W.heap.size W W1) (a1 : AccO W1 W.heap.size (some (v k))) (hs1 : W.heap.size < W1.heap.size)
    (e2 : W2.heap[P]? = some (.cells (upN n (k + 1)) 3)) (o2 : ∀ i, i ≠ P → W2.heap[i]? = W1.heap[i]?) (bel2 : Below w.heap.size w W2) {c d : Array Value} (hc : W.heap[G]? = some (.cells c 87)) (hs : c.size = n) (hp : ∀ j, j < k → c[j]? = some (.pointer (some ⟨p j, 0, none⟩))) (hd : d.size = c.size ∧ d[k]? = some (.pointer (some ⟨W.heap.size, 0, none⟩)) ∧ ∀ j, j ≠ k → d[j]? = c[j]?)
    (e3 : W3.heap[G]? = some (.cells d 87)) (o3 : ∀ i, i ≠ G → W3.heap[i]? = W2.heap[i]?) (bel3 : Below w.heap.size w W3) : BlR w W3 z n (k + 1) P G L (fun j => if j = k then W.heap.size else p j) v := by
  obtain ⟨n1, n2, n3, n4, n5, n6⟩ := h.ne
  have hP := blk_lt h.pl
  have hL := blk_lt h.box
  have hG := blk_lt hc
  refine ⟨(o3 P n1).trans e2, (o3 L (Ne.symm n3)).trans ((o2 L (Ne.symm n2)).trans (kept b1 h.box)), ⟨d, e3, hd.1.trans hs, fun j hj => ?_⟩, fun j hj => ?_, h.ne, fun j hj => ?_, ⟨(o3 _ (Ne.symm h.zb.2.2)).trans ((o2 _ (Ne.symm h.zb.2.1)).trans (kept b1 h.zb.1)), h.zb.2⟩, bel3⟩
  · by_cases e : j = k
    · subst e; simp only [if_true]; exact hd.2.1
    · simp only [if_neg e]; rw [hd.2.2 j e]; exact hp j (by omega)
  · by_cases e : j = k
    · subst e; simp only [if_true]; exact (a1.heap (o2 _ (by omega))).heap (o3 _ (by omega))
    · simp only [if_neg e]
      have hj' : j < k := by omega
      have hb := (h.acc j hj').block
      exact (((h.acc j hj').heap (b1.block _ hb)).heap (o2 _ (h.pne j hj').1)).heap (o3 _ (h.pne j hj').2)
  · by_cases e : j = k
    · subst e; simp only [if_true]; exact ⟨by omega, by omega⟩
    · simp only [if_neg e]; exact h.pne j (by omega)
/-- The losses of a zonotope's columns. -/
def lsZ (z : ZD) (k : Nat) : Int := lossV (z.gs[k]?.getD [])
set_option maxRecDepth 100000 in
set_option maxHeartbeats 4000000 in
theorem byLossA (a : Nat) (ha : a = 1166) (z : ZD) (w : World) (hz : ZR w z) (hgn : z.gn ≤ 4000000) (hf : ∀ k j : Nat, Fin ((z.gs[k]?.getD [])[j]?.getD 0)) (hl : ∀ k, k < z.gn → (z.gs[k]?.getD []).length ≤ 1050000) (R : Ending → World → Prop)
    (hsort : ∀ W P G L p, BlR w W z z.gn z.gn P G L p (fun k => lsZ z k * ((2 ^ a : Nat) : Int)) → Calls Tryz.prog 49 #[.slice (some ⟨P, 0, none⟩) z.gn z.gn, .func (.func 50) #[] #[.pointer (some ⟨L, 0, none⟩)]] W fun e w' => e = .returned (.tuple #[]) ∧ R (.returned (.slice (some ⟨P, 0, none⟩) z.gn z.gn)) w') :
    Calls Tryz.prog 31 #[.agg #[.int .i64 z.N, .slice z.co z.cn z.cc, .slice z.io z.dn z.dc, .slice z.go z.gn z.gc, .slice z.ro z.rn z.rc, .bool z.bad]] w R := by
  have HA : Hid (a = 1166) := ha
  have HZ : Hid (∀ W', Below w.heap.size w W' → ZR W' z) := fun W' hb => hz.later hb
  have HF : Hid ((∀ k j : Nat, Fin ((z.gs[k]?.getD [])[j]?.getD 0)) ∧ ∀ k, k < z.gn → (z.gs[k]?.getD []).length ≤ 1050000) := ⟨hf, hl⟩
  have HS : Hid (∀ W P G L p, BlR w W z z.gn z.gn P G L p (fun k => lsZ z k * ((2 ^ a : Nat) : Int)) → Calls Tryz.prog 49 #[.slice (some ⟨P, 0, none⟩) z.gn z.gn, .func (.func 50) #[] #[.pointer (some ⟨L, 0, none⟩)]] W fun e w' => e = .returned (.tuple #[]) ∧ R (.returned (.slice (some ⟨P, 0, none⟩) z.gn z.gn)) w') := hsort
  have hmx : z.gn ≤ 9223372036854775807 := by omega
  clear ha hz hf hl hsort
  obtain ⟨N, co, cn, cc, io, dn, dc, go, gn, gc, ro, rn, rc, bad, cs, ids, gv, gs, rs⟩ := z
  dsimp only at hgn hmx HF ⊢
  have X0 : Below w.heap.size w (w.alloc (.cells #[.int .i64 N, .slice co cn cc, .slice io dn dc, .slice go gn gc, .slice ro rn rc, .bool bad] 26)) := (Below.refl _ w).alloc (Nat.le_refl _) _
  have Y0 : (w.alloc (.cells #[.int .i64 N, .slice co cn cc, .slice io dn dc, .slice go gn gc, .slice ro rn rc, .bool bad] 26)).heap[w.heap.size]? = some (.cells #[.int .i64 N, .slice co cn cc, .slice io dn dc, .slice go gn gc, .slice ro rn rc, .bool bad] 26) := heap_alloc_new w _
  go_enter Tryz.func31, Tryz.ntmps31
  go_upto_region 1 with fail
  obtain ⟨Y, hY⟩ : ∃ Y, w.alloc (.cells #[.int .i64 N, .slice co cn cc, .slice io dn dc, .slice go gn gc, .slice ro rn rc, .bool bad] 26) = Y := ⟨_, rfl⟩
  rw [hY] at X0 Y0 ⊢
  have HY : Hid (Below w.heap.size w Y ∧ Y.heap[w.heap.size]? = some (.cells #[.int .i64 N, .slice co cn cc, .slice io dn dc, .slice go gn gc, .slice ro rn rc, .bool bad] 26)) := ⟨X0, Y0⟩
  have hYs : w.heap.size < Y.heap.size := blk_lt Y0
  clear hY X0
  have c3 : Y.cell? ⟨w.heap.size, 3, none⟩ = some (.slice go gn gc) := cellAtJ Y0 3 _ rfl
  clear Y0
  go_cut [3, 4] (fun v3 v4 wx => ∃ P G L : Nat, v3 = .slice (some ⟨P, 0, none⟩) gn gn ∧ v4 = .pointer (some ⟨L, 0, none⟩) ∧ Hid (BlR w wx (⟨N, co, cn, cc, io, dn, dc, go, gn, gc, ro, rn, rc, bad, cs, ids, gv, gs, rs⟩ : ZD) gn 0 P G L (fun _ => 0) (fun k => lsZ (⟨N, co, cn, cc, io, dn, dc, go, gn, gc, ro, rn, rc, bad, cs, ids, gv, gs, rs⟩ : ZD) k * ((2 ^ a : Nat) : Int))))
  case first =>
    have bX : Below Y.heap.size Y Y.drew := (Below.refl _ _).drew
    refine wp_region_noPanic ?_
    refine wp_region_held_drew (S := (fun V => Below Y.heap.size Y V)) (by kernel_rfl) bX (fun _ => ?_)
    refine takeH 7 (i := 0) (v := ?_) rfl rfl (by kernel_rfl) (by kernel_rfl) (by kernel_rfl) (fun _ _ _ h => h) (Or.inl ⟨by kernel_rfl, ?_⟩) bX ?_
    rotate_left
    · intro w' hSw; have s0 := cellT c3 hSw; go_simp; try with_reducible rfl
    try simp only [Act.put, List.setIfInBounds_toArray, List.set_cons_zero, List.set_cons_succ]
    refine takeH 8 (i := 1) (v := ?_) rfl rfl (by kernel_rfl) (by kernel_rfl) (by kernel_rfl) (fun _ _ _ h => h) (Or.inl ⟨by kernel_rfl, ?_⟩) bX ?_
    rotate_left
    · intro w' hSw; have s0 := cellT c3 hSw; go_simp; try with_reducible rfl
    try simp only [Act.put, List.setIfInBounds_toArray, List.set_cons_zero, List.set_cons_succ]
    refine takeH 9 (i := 2) (v := ?_) rfl rfl (by kernel_rfl) (by kernel_rfl) (by kernel_rfl) (fun _ _ _ h => h) (Or.inl ⟨by kernel_rfl, ?_⟩) bX ?_
    rotate_left
    · intro w' hSw; have s0 := cellT c3 hSw; go_simp; try with_reducible rfl
    try simp only [Act.put, List.setIfInBounds_toArray, List.set_cons_zero, List.set_cons_succ]
    refine takeH 11 (i := 4) (v := ?_) rfl rfl (by kernel_rfl) (by kernel_rfl) (by kernel_rfl) (fun _ _ _ h => h) (Or.inl ⟨by kernel_rfl, ?_⟩) bX ?_
    rotate_left
    · intro w' hSw; have s0 := cellT c3 hSw; go_simp; try with_reducible rfl
    try simp only [Act.put, List.setIfInBounds_toArray, List.set_cons_zero, List.set_cons_succ]
    refine takeH 12 (i := 5) (v := ?_) rfl rfl (by kernel_rfl) (by kernel_rfl) (by kernel_rfl) (fun _ _ _ h => h) (Or.inl ⟨by kernel_rfl, ?_⟩) bX ?_
    rotate_left
    · intro w' hSw; have s0 := cellT c3 hSw; go_simp; try with_reducible rfl
    try simp only [Act.put, List.setIfInBounds_toArray, List.set_cons_zero, List.set_cons_succ]
    refine takeH 13 (i := 6) (v := ?_) rfl rfl (by kernel_rfl) (by kernel_rfl) (by kernel_rfl) (fun _ _ _ h => h) (Or.inl ⟨by kernel_rfl, ?_⟩) bX ?_
    rotate_left
    · intro w' hSw; have s0 := cellT c3 hSw; go_simp; try with_reducible rfl
    try simp only [Act.put, List.setIfInBounds_toArray, List.set_cons_zero, List.set_cons_succ]
    obtain ⟨V, hV⟩ : ∃ V, Y.drew = V := ⟨_, rfl⟩
    have bV : Below Y.heap.size Y V := hV ▸ bX
    rw [hV]
    clear hV bX
    refine wpAnyH_ready (rs := [3, 7, 8]) (by kernel_rfl) (by simp) ?_
    refine consH _ rfl ?_ (consH _ rfl ?_ (consH _ rfl ?_ AllReadyH.nil))
    · refine hopMT 10 rfl rfl rfl 23 3 _ _ gn rfl (by kernel_rfl) (by kernel_rfl) (izN gn) (makeIT gn hgn) fun P V1 hPV1 hlP hb => ?_
      have bV1 : Below Y.heap.size Y V1 := bV.trans (hb.mono bV.size)
      have gP : Y.heap.size ≤ P := Nat.le_trans bV.size hlP
      clear hb hlP
      refine ⟨bV1, ?_⟩
      try simp only [Act.put, List.setIfInBounds_toArray, List.set_cons_zero, List.set_cons_succ]
      refine wpAnyH_ready (rs := [7, 8]) (by kernel_rfl) (by simp) ?_
      refine consH _ rfl ?_ (consH _ rfl ?_ AllReadyH.nil)
      · refine hopMT 14 rfl rfl rfl 71 87 _ _ gn rfl (by kernel_rfl) (by kernel_rfl) (ptN gn) (makePT gn hgn) fun G V2 hGV2 hlG hb => ?_
        have hPV2 := kept hb hPV1
        have nGP : G ≠ P := by have := blk_lt hPV1; omega
        have bV2 : Below Y.heap.size Y V2 := bV1.trans (hb.mono bV1.size)
        have gG : Y.heap.size ≤ G := Nat.le_trans bV1.size hlG
        clear hb hlG
        refine ⟨bV2, ?_⟩
        try simp only [Act.put, List.setIfInBounds_toArray, List.set_cons_zero, List.set_cons_succ]
        refine wpAnyH_ready (rs := [8]) (by kernel_rfl) (by simp) ?_
        refine consH _ rfl ?_ AllReadyH.nil
        refine hopAJ 4 rfl rfl rfl 71 rfl #[.slice none 0 0] allocLT fun L V3 hLV3 hlL hb => ?_
        have hPV3 := kept hb hPV2
        have hGV3 := kept hb hGV2
        have nLP : L ≠ P := by have := blk_lt hPV2; omega
        have nLG : L ≠ G := by have := blk_lt hGV2; omega
        have bV3 : Below Y.heap.size Y V3 := bV2.trans (hb.mono bV2.size)
        have gL : Y.heap.size ≤ L := Nat.le_trans bV2.size hlL
        clear hb hlL
        refine ⟨bV3, ?_⟩
        try simp only [Act.put, List.setIfInBounds_toArray, List.set_cons_zero, List.set_cons_succ]
        refine takeH 3 (i := 9) (v := .slice (some ⟨P, 0, none⟩) gn gn) rfl rfl (by kernel_rfl) (by kernel_rfl) (by kernel_rfl) (fun _ _ _ h => h) (Or.inl ⟨by kernel_rfl, fun w' _ => by kernel_rfl⟩) bV3 ?_
        try simp only [Act.put, List.setIfInBounds_toArray, List.set_cons_zero, List.set_cons_succ]
        refine wpAnyH_ready (rs := [10]) (by kernel_rfl) (by simp) ?_
        refine consH _ rfl (hopL rfl (wpList_store_at (by rfl) 71 _ _ (by rfl) Y Y.heap.size L 0 (.slice (some ⟨G, 0, none⟩) gn gn) _ #[.slice (some ⟨G, 0, none⟩) gn gn] 71 (by kernel_rfl) (by kernel_rfl) hLV3 bV3 gL 1 Tryz.szL1 rfl (by simp) (one_sl _ _ _) rfl fun W9 e9 b9 hs9 ho9 => ?_)) AllReadyH.nil
        refine (And.intro b9 ?_ : _ ∧ _)
        try simp only [Act.put, List.setIfInBounds_toArray, List.set_cons_zero, List.set_cons_succ]
        refine wpAnyH_done (by kernel_rfl) ?_ _
        refine NoPanic.normal ?_
        try simp only [Act.put, List.setIfInBounds_toArray, List.set_cons_zero, List.set_cons_succ]
        go_wp2_with fail
        go_meet
        exact ⟨P, G, L, rfl, rfl, ⟨(ho9 P (Ne.symm nLP)).trans (hPV3.trans (by rw [upN_zero])), e9, ⟨_, (ho9 G (Ne.symm nLG)).trans hGV3, (by unfold ptN madeCells; simp), fun j hj => by omega⟩, fun j hj => by omega, ⟨(Ne.symm nGP), (Ne.symm nLP), (Ne.symm nLG), by omega, by omega, by omega⟩, fun j hj => by omega, ⟨kept b9 HY.out.2, by omega, by omega⟩, to_call HY.out.1 b9⟩⟩
      · refine hopAJ 4 rfl rfl rfl 71 rfl #[.slice none 0 0] allocLT fun L V4 hLV4 hlL hb => ?_
        have hPV4 := kept hb hPV1
        have nLP : L ≠ P := by have := blk_lt hPV1; omega
        have bV4 : Below Y.heap.size Y V4 := bV1.trans (hb.mono bV1.size)
        have gL : Y.heap.size ≤ L := Nat.le_trans bV1.size hlL
        clear hb hlL
        refine ⟨bV4, ?_⟩
        try simp only [Act.put, List.setIfInBounds_toArray, List.set_cons_zero, List.set_cons_succ]
        refine takeH 3 (i := 9) (v := .slice (some ⟨P, 0, none⟩) gn gn) rfl rfl (by kernel_rfl) (by kernel_rfl) (by kernel_rfl) (fun _ _ _ h => h) (Or.inl ⟨by kernel_rfl, fun w' _ => by kernel_rfl⟩) bV4 ?_
        try simp only [Act.put, List.setIfInBounds_toArray, List.set_cons_zero, List.set_cons_succ]
        refine wpAnyH_ready (rs := [7]) (by kernel_rfl) (by simp) ?_
        refine consH _ rfl ?_ AllReadyH.nil
        refine hopMT 14 rfl rfl rfl 71 87 _ _ gn rfl (by kernel_rfl) (by kernel_rfl) (ptN gn) (makePT gn hgn) fun G V5 hGV5 hlG hb => ?_
        have hPV5 := kept hb hPV4
        have hLV5 := kept hb hLV4
        have nGP : G ≠ P := by have := blk_lt hPV4; omega
        have nGL : G ≠ L := by have := blk_lt hLV4; omega
        have bV5 : Below Y.heap.size Y V5 := bV4.trans (hb.mono bV4.size)
        have gG : Y.heap.size ≤ G := Nat.le_trans bV4.size hlG
        clear hb hlG
        refine ⟨bV5, ?_⟩
        try simp only [Act.put, List.setIfInBounds_toArray, List.set_cons_zero, List.set_cons_succ]
        refine wpAnyH_ready (rs := [10]) (by kernel_rfl) (by simp) ?_
        refine consH _ rfl (hopL rfl (wpList_store_at (by rfl) 71 _ _ (by rfl) Y Y.heap.size L 0 (.slice (some ⟨G, 0, none⟩) gn gn) _ #[.slice (some ⟨G, 0, none⟩) gn gn] 71 (by kernel_rfl) (by kernel_rfl) hLV5 bV5 gL 1 Tryz.szL1 rfl (by simp) (one_sl _ _ _) rfl fun W9 e9 b9 hs9 ho9 => ?_)) AllReadyH.nil
        refine (And.intro b9 ?_ : _ ∧ _)
        try simp only [Act.put, List.setIfInBounds_toArray, List.set_cons_zero, List.set_cons_succ]
        refine wpAnyH_done (by kernel_rfl) ?_ _
        refine NoPanic.normal ?_
        try simp only [Act.put, List.setIfInBounds_toArray, List.set_cons_zero, List.set_cons_succ]
        go_wp2_with fail
        go_meet
        exact ⟨P, G, L, rfl, rfl, ⟨(ho9 P (Ne.symm nLP)).trans (hPV5.trans (by rw [upN_zero])), e9, ⟨_, (ho9 G nGL).trans hGV5, (by unfold ptN madeCells; simp), fun j hj => by omega⟩, fun j hj => by omega, ⟨(Ne.symm nGP), (Ne.symm nLP), nGL, by omega, by omega, by omega⟩, fun j hj => by omega, ⟨kept b9 HY.out.2, by omega, by omega⟩, to_call HY.out.1 b9⟩⟩
    · refine hopMT 14 rfl rfl rfl 71 87 _ _ gn rfl (by kernel_rfl) (by kernel_rfl) (ptN gn) (makePT gn hgn) fun G V6 hGV6 hlG hb => ?_
      have bV6 : Below Y.heap.size Y V6 := bV.trans (hb.mono bV.size)
      have gG : Y.heap.size ≤ G := Nat.le_trans bV.size hlG
      clear hb hlG
      refine ⟨bV6, ?_⟩
      try simp only [Act.put, List.setIfInBounds_toArray, List.set_cons_zero, List.set_cons_succ]
      refine wpAnyH_ready (rs := [3, 8]) (by kernel_rfl) (by simp) ?_
      refine consH _ rfl ?_ (consH _ rfl ?_ AllReadyH.nil)
      · refine hopMT 10 rfl rfl rfl 23 3 _ _ gn rfl (by kernel_rfl) (by kernel_rfl) (izN gn) (makeIT gn hgn) fun P V7 hPV7 hlP hb => ?_
        have hGV7 := kept hb hGV6
        have nPG : P ≠ G := by have := blk_lt hGV6; omega
        have bV7 : Below Y.heap.size Y V7 := bV6.trans (hb.mono bV6.size)
        have gP : Y.heap.size ≤ P := Nat.le_trans bV6.size hlP
        clear hb hlP
        refine ⟨bV7, ?_⟩
        try simp only [Act.put, List.setIfInBounds_toArray, List.set_cons_zero, List.set_cons_succ]
        refine wpAnyH_ready (rs := [8]) (by kernel_rfl) (by simp) ?_
        refine consH _ rfl ?_ AllReadyH.nil
        refine hopAJ 4 rfl rfl rfl 71 rfl #[.slice none 0 0] allocLT fun L V8 hLV8 hlL hb => ?_
        have hGV8 := kept hb hGV7
        have hPV8 := kept hb hPV7
        have nLG : L ≠ G := by have := blk_lt hGV7; omega
        have nLP : L ≠ P := by have := blk_lt hPV7; omega
        have bV8 : Below Y.heap.size Y V8 := bV7.trans (hb.mono bV7.size)
        have gL : Y.heap.size ≤ L := Nat.le_trans bV7.size hlL
        clear hb hlL
        refine ⟨bV8, ?_⟩
        try simp only [Act.put, List.setIfInBounds_toArray, List.set_cons_zero, List.set_cons_succ]
        refine takeH 3 (i := 9) (v := .slice (some ⟨P, 0, none⟩) gn gn) rfl rfl (by kernel_rfl) (by kernel_rfl) (by kernel_rfl) (fun _ _ _ h => h) (Or.inl ⟨by kernel_rfl, fun w' _ => by kernel_rfl⟩) bV8 ?_
        try simp only [Act.put, List.setIfInBounds_toArray, List.set_cons_zero, List.set_cons_succ]
        refine wpAnyH_ready (rs := [10]) (by kernel_rfl) (by simp) ?_
        refine consH _ rfl (hopL rfl (wpList_store_at (by rfl) 71 _ _ (by rfl) Y Y.heap.size L 0 (.slice (some ⟨G, 0, none⟩) gn gn) _ #[.slice (some ⟨G, 0, none⟩) gn gn] 71 (by kernel_rfl) (by kernel_rfl) hLV8 bV8 gL 1 Tryz.szL1 rfl (by simp) (one_sl _ _ _) rfl fun W9 e9 b9 hs9 ho9 => ?_)) AllReadyH.nil
        refine (And.intro b9 ?_ : _ ∧ _)
        try simp only [Act.put, List.setIfInBounds_toArray, List.set_cons_zero, List.set_cons_succ]
        refine wpAnyH_done (by kernel_rfl) ?_ _
        refine NoPanic.normal ?_
        try simp only [Act.put, List.setIfInBounds_toArray, List.set_cons_zero, List.set_cons_succ]
        go_wp2_with fail
        go_meet
        exact ⟨P, G, L, rfl, rfl, ⟨(ho9 P (Ne.symm nLP)).trans (hPV8.trans (by rw [upN_zero])), e9, ⟨_, (ho9 G (Ne.symm nLG)).trans hGV8, (by unfold ptN madeCells; simp), fun j hj => by omega⟩, fun j hj => by omega, ⟨nPG, (Ne.symm nLP), (Ne.symm nLG), by omega, by omega, by omega⟩, fun j hj => by omega, ⟨kept b9 HY.out.2, by omega, by omega⟩, to_call HY.out.1 b9⟩⟩
      · refine hopAJ 4 rfl rfl rfl 71 rfl #[.slice none 0 0] allocLT fun L V9 hLV9 hlL hb => ?_
        have hGV9 := kept hb hGV6
        have nLG : L ≠ G := by have := blk_lt hGV6; omega
        have bV9 : Below Y.heap.size Y V9 := bV6.trans (hb.mono bV6.size)
        have gL : Y.heap.size ≤ L := Nat.le_trans bV6.size hlL
        clear hb hlL
        refine ⟨bV9, ?_⟩
        try simp only [Act.put, List.setIfInBounds_toArray, List.set_cons_zero, List.set_cons_succ]
        refine wpAnyH_ready (rs := [3]) (by kernel_rfl) (by simp) ?_
        refine consH _ rfl ?_ AllReadyH.nil
        refine hopMT 10 rfl rfl rfl 23 3 _ _ gn rfl (by kernel_rfl) (by kernel_rfl) (izN gn) (makeIT gn hgn) fun P V10 hPV10 hlP hb => ?_
        have hGV10 := kept hb hGV9
        have hLV10 := kept hb hLV9
        have nPG : P ≠ G := by have := blk_lt hGV9; omega
        have nPL : P ≠ L := by have := blk_lt hLV9; omega
        have bV10 : Below Y.heap.size Y V10 := bV9.trans (hb.mono bV9.size)
        have gP : Y.heap.size ≤ P := Nat.le_trans bV9.size hlP
        clear hb hlP
        refine ⟨bV10, ?_⟩
        try simp only [Act.put, List.setIfInBounds_toArray, List.set_cons_zero, List.set_cons_succ]
        refine takeH 3 (i := 9) (v := .slice (some ⟨P, 0, none⟩) gn gn) rfl rfl (by kernel_rfl) (by kernel_rfl) (by kernel_rfl) (fun _ _ _ h => h) (Or.inl ⟨by kernel_rfl, fun w' _ => by kernel_rfl⟩) bV10 ?_
        try simp only [Act.put, List.setIfInBounds_toArray, List.set_cons_zero, List.set_cons_succ]
        refine wpAnyH_ready (rs := [10]) (by kernel_rfl) (by simp) ?_
        refine consH _ rfl (hopL rfl (wpList_store_at (by rfl) 71 _ _ (by rfl) Y Y.heap.size L 0 (.slice (some ⟨G, 0, none⟩) gn gn) _ #[.slice (some ⟨G, 0, none⟩) gn gn] 71 (by kernel_rfl) (by kernel_rfl) hLV10 bV10 gL 1 Tryz.szL1 rfl (by simp) (one_sl _ _ _) rfl fun W9 e9 b9 hs9 ho9 => ?_)) AllReadyH.nil
        refine (And.intro b9 ?_ : _ ∧ _)
        try simp only [Act.put, List.setIfInBounds_toArray, List.set_cons_zero, List.set_cons_succ]
        refine wpAnyH_done (by kernel_rfl) ?_ _
        refine NoPanic.normal ?_
        try simp only [Act.put, List.setIfInBounds_toArray, List.set_cons_zero, List.set_cons_succ]
        go_wp2_with fail
        go_meet
        exact ⟨P, G, L, rfl, rfl, ⟨(ho9 P nPL).trans (hPV10.trans (by rw [upN_zero])), e9, ⟨_, (ho9 G (Ne.symm nLG)).trans hGV10, (by unfold ptN madeCells; simp), fun j hj => by omega⟩, fun j hj => by omega, ⟨nPG, nPL, (Ne.symm nLG), by omega, by omega, by omega⟩, fun j hj => by omega, ⟨kept b9 HY.out.2, by omega, by omega⟩, to_call HY.out.1 b9⟩⟩
    · refine hopAJ 4 rfl rfl rfl 71 rfl #[.slice none 0 0] allocLT fun L V11 hLV11 hlL hb => ?_
      have bV11 : Below Y.heap.size Y V11 := bV.trans (hb.mono bV.size)
      have gL : Y.heap.size ≤ L := Nat.le_trans bV.size hlL
      clear hb hlL
      refine ⟨bV11, ?_⟩
      try simp only [Act.put, List.setIfInBounds_toArray, List.set_cons_zero, List.set_cons_succ]
      refine wpAnyH_ready (rs := [3, 7]) (by kernel_rfl) (by simp) ?_
      refine consH _ rfl ?_ (consH _ rfl ?_ AllReadyH.nil)
      · refine hopMT 10 rfl rfl rfl 23 3 _ _ gn rfl (by kernel_rfl) (by kernel_rfl) (izN gn) (makeIT gn hgn) fun P V12 hPV12 hlP hb => ?_
        have hLV12 := kept hb hLV11
        have nPL : P ≠ L := by have := blk_lt hLV11; omega
        have bV12 : Below Y.heap.size Y V12 := bV11.trans (hb.mono bV11.size)
        have gP : Y.heap.size ≤ P := Nat.le_trans bV11.size hlP
        clear hb hlP
        refine ⟨bV12, ?_⟩
        try simp only [Act.put, List.setIfInBounds_toArray, List.set_cons_zero, List.set_cons_succ]
        refine takeH 3 (i := 9) (v := .slice (some ⟨P, 0, none⟩) gn gn) rfl rfl (by kernel_rfl) (by kernel_rfl) (by kernel_rfl) (fun _ _ _ h => h) (Or.inl ⟨by kernel_rfl, fun w' _ => by kernel_rfl⟩) bV12 ?_
        try simp only [Act.put, List.setIfInBounds_toArray, List.set_cons_zero, List.set_cons_succ]
        refine wpAnyH_ready (rs := [7]) (by kernel_rfl) (by simp) ?_
        refine consH _ rfl ?_ AllReadyH.nil
        refine hopMT 14 rfl rfl rfl 71 87 _ _ gn rfl (by kernel_rfl) (by kernel_rfl) (ptN gn) (makePT gn hgn) fun G V13 hGV13 hlG hb => ?_
        have hLV13 := kept hb hLV12
        have hPV13 := kept hb hPV12
        have nGL : G ≠ L := by have := blk_lt hLV12; omega
        have nGP : G ≠ P := by have := blk_lt hPV12; omega
        have bV13 : Below Y.heap.size Y V13 := bV12.trans (hb.mono bV12.size)
        have gG : Y.heap.size ≤ G := Nat.le_trans bV12.size hlG
        clear hb hlG
        refine ⟨bV13, ?_⟩
        try simp only [Act.put, List.setIfInBounds_toArray, List.set_cons_zero, List.set_cons_succ]
        refine wpAnyH_ready (rs := [10]) (by kernel_rfl) (by simp) ?_
        refine consH _ rfl (hopL rfl (wpList_store_at (by rfl) 71 _ _ (by rfl) Y Y.heap.size L 0 (.slice (some ⟨G, 0, none⟩) gn gn) _ #[.slice (some ⟨G, 0, none⟩) gn gn] 71 (by kernel_rfl) (by kernel_rfl) hLV13 bV13 gL 1 Tryz.szL1 rfl (by simp) (one_sl _ _ _) rfl fun W9 e9 b9 hs9 ho9 => ?_)) AllReadyH.nil
        refine (And.intro b9 ?_ : _ ∧ _)
        try simp only [Act.put, List.setIfInBounds_toArray, List.set_cons_zero, List.set_cons_succ]
        refine wpAnyH_done (by kernel_rfl) ?_ _
        refine NoPanic.normal ?_
        try simp only [Act.put, List.setIfInBounds_toArray, List.set_cons_zero, List.set_cons_succ]
        go_wp2_with fail
        go_meet
        exact ⟨P, G, L, rfl, rfl, ⟨(ho9 P nPL).trans (hPV13.trans (by rw [upN_zero])), e9, ⟨_, (ho9 G nGL).trans hGV13, (by unfold ptN madeCells; simp), fun j hj => by omega⟩, fun j hj => by omega, ⟨(Ne.symm nGP), nPL, nGL, by omega, by omega, by omega⟩, fun j hj => by omega, ⟨kept b9 HY.out.2, by omega, by omega⟩, to_call HY.out.1 b9⟩⟩
      · refine hopMT 14 rfl rfl rfl 71 87 _ _ gn rfl (by kernel_rfl) (by kernel_rfl) (ptN gn) (makePT gn hgn) fun G V14 hGV14 hlG hb => ?_
        have hLV14 := kept hb hLV11
        have nGL : G ≠ L := by have := blk_lt hLV11; omega
        have bV14 : Below Y.heap.size Y V14 := bV11.trans (hb.mono bV11.size)
        have gG : Y.heap.size ≤ G := Nat.le_trans bV11.size hlG
        clear hb hlG
        refine ⟨bV14, ?_⟩
        try simp only [Act.put, List.setIfInBounds_toArray, List.set_cons_zero, List.set_cons_succ]
        refine wpAnyH_ready (rs := [3]) (by kernel_rfl) (by simp) ?_
        refine consH _ rfl ?_ AllReadyH.nil
        refine hopMT 10 rfl rfl rfl 23 3 _ _ gn rfl (by kernel_rfl) (by kernel_rfl) (izN gn) (makeIT gn hgn) fun P V15 hPV15 hlP hb => ?_
        have hLV15 := kept hb hLV14
        have hGV15 := kept hb hGV14
        have nPL : P ≠ L := by have := blk_lt hLV14; omega
        have nPG : P ≠ G := by have := blk_lt hGV14; omega
        have bV15 : Below Y.heap.size Y V15 := bV14.trans (hb.mono bV14.size)
        have gP : Y.heap.size ≤ P := Nat.le_trans bV14.size hlP
        clear hb hlP
        refine ⟨bV15, ?_⟩
        try simp only [Act.put, List.setIfInBounds_toArray, List.set_cons_zero, List.set_cons_succ]
        refine takeH 3 (i := 9) (v := .slice (some ⟨P, 0, none⟩) gn gn) rfl rfl (by kernel_rfl) (by kernel_rfl) (by kernel_rfl) (fun _ _ _ h => h) (Or.inl ⟨by kernel_rfl, fun w' _ => by kernel_rfl⟩) bV15 ?_
        try simp only [Act.put, List.setIfInBounds_toArray, List.set_cons_zero, List.set_cons_succ]
        refine wpAnyH_ready (rs := [10]) (by kernel_rfl) (by simp) ?_
        refine consH _ rfl (hopL rfl (wpList_store_at (by rfl) 71 _ _ (by rfl) Y Y.heap.size L 0 (.slice (some ⟨G, 0, none⟩) gn gn) _ #[.slice (some ⟨G, 0, none⟩) gn gn] 71 (by kernel_rfl) (by kernel_rfl) hLV15 bV15 gL 1 Tryz.szL1 rfl (by simp) (one_sl _ _ _) rfl fun W9 e9 b9 hs9 ho9 => ?_)) AllReadyH.nil
        refine (And.intro b9 ?_ : _ ∧ _)
        try simp only [Act.put, List.setIfInBounds_toArray, List.set_cons_zero, List.set_cons_succ]
        refine wpAnyH_done (by kernel_rfl) ?_ _
        refine NoPanic.normal ?_
        try simp only [Act.put, List.setIfInBounds_toArray, List.set_cons_zero, List.set_cons_succ]
        go_wp2_with fail
        go_meet
        exact ⟨P, G, L, rfl, rfl, ⟨(ho9 P nPL).trans (hPV15.trans (by rw [upN_zero])), e9, ⟨_, (ho9 G nGL).trans hGV15, (by unfold ptN madeCells; simp), fun j hj => by omega⟩, fun j hj => by omega, ⟨nPG, nPL, nGL, by omega, by omega, by omega⟩, fun j hj => by omega, ⟨kept b9 HY.out.2, by omega, by omega⟩, to_call HY.out.1 b9⟩⟩
  case rest =>
    obtain ⟨P, G, L, rfl, rfl, H0⟩ := hcut
    have c3 : wc.cell? ⟨w.heap.size, 3, none⟩ = some (.slice go gn gc) := cellAtJ H0.out.zb.1 3 _ rfl
    go_wp2_with fail
    clear c3
    go_loopg [18] gn (fun g iv wx => ∃ k : Nat, iv = .int .i64 k ∧ k + g = gn ∧ ∃ p, Hid (BlR w wx (⟨N, co, cn, cc, io, dn, dc, go, gn, gc, ro, rn, rc, bad, cs, ids, gv, gs, rs⟩ : ZD) gn k P G L p (fun k => lsZ (⟨N, co, cn, cc, io, dn, dc, go, gn, gc, ro, rn, rc, bad, cs, ids, gv, gs, rs⟩ : ZD) k * ((2 ^ a : Nat) : Int))))
    case atStart => exact ⟨0, rfl, by omega, _, H0⟩
    case round =>
      clear H0
      obtain ⟨k, rfl, hk, p, HI⟩ := hrel
      by_cases h1 : k < gn
      · have hd : decide ((k : Int) < (gn : Int)) = true := decide_eq_true (by omega)
        obtain ⟨q, rfl⟩ : ∃ q, gk = q + 1 := ⟨gk - 1, by omega⟩
        have HIG : Hid (k + (q + 1) = gn) := hk
        have h1' : (k : Int) < (gn : Int) := by omega
        clear hk
        have hg := (HZ.out wr HI.out.bel).g
        rcases hg.cells with h0 | ⟨gb, goff, hgo, hgc⟩
        · dsimp only at h0; omega
        have ga := hgc k h1
        have HG : Hid (RdF wr (gv k).1 (gv k).2.1 (gv k).2.2 (gs[k]?.getD [])) := hg.each k h1
        have HL : Hid ((gv k).2.1 ≤ 1050000 ∧ ∀ j : Nat, Fin ((gs[k]?.getD [])[j]?.getD 0)) := ⟨by rw [← HG.out.length]; exact HF.out.2 k h1, HF.out.1 k⟩
        obtain ⟨g1, eg1⟩ : ∃ x, (gv k).1 = x := ⟨_, rfl⟩
        obtain ⟨g2, eg2⟩ : ∃ x, (gv k).2.1 = x := ⟨_, rfl⟩
        obtain ⟨g3, eg3⟩ : ∃ x, (gv k).2.2 = x := ⟨_, rfl⟩
        rw [eg1, eg2, eg3] at ga
        rw [eg1, eg2, eg3] at HG
        rw [eg2] at HL
        subst hgo
        clear hgc hg eg1 eg2 eg3
        go_upto_region 5 with fail
        have hS : (fun V => V.cell? ⟨L, 0, none⟩ = some (.slice (some ⟨G, 0, none⟩) gn gn)) wr.drew := cellAtJ HI.out.box 0 _ rfl
        refine wp_region_noPanic ?_
        refine wp_region_held_drew (S := (fun V => V.cell? ⟨L, 0, none⟩ = some (.slice (some ⟨G, 0, none⟩) gn gn))) (by kernel_rfl) hS (fun _ => ?_)
        refine takeH 23 (i := 0) (v := ?_) rfl rfl (by kernel_rfl) (by kernel_rfl) (by kernel_rfl) (fun _ _ _ h => h) (Or.inl ⟨by kernel_rfl, ?_⟩) (by assumption) ?_
        rotate_left
        · intro w' hSw; (try dsimp only at hSw); go_simp; try with_reducible rfl
        try simp only [Act.put, List.setIfInBounds_toArray, List.set_cons_zero, List.set_cons_succ]
        refine takeH 24 (i := 1) (v := ?_) rfl rfl (by kernel_rfl) (by kernel_rfl) (by kernel_rfl) (fun _ _ _ h => h) (Or.inl ⟨by kernel_rfl, ?_⟩) (by assumption) ?_
        rotate_left
        · intro w' hSw; (try dsimp only at hSw); go_simp; try with_reducible rfl
        try simp only [Act.put, List.setIfInBounds_toArray, List.set_cons_zero, List.set_cons_succ]
        refine takeH 25 (i := 2) (v := ?_) rfl rfl (by kernel_rfl) (by kernel_rfl) (by kernel_rfl) (fun _ _ _ h => h) (Or.inl ⟨by kernel_rfl, ?_⟩) (by assumption) ?_
        rotate_left
        · intro w' hSw; (try dsimp only at hSw); go_simp; try with_reducible rfl
        try simp only [Act.put, List.setIfInBounds_toArray, List.set_cons_zero, List.set_cons_succ]
        refine takeH 26 (i := 3) (v := ?_) rfl rfl (by kernel_rfl) (by kernel_rfl) (by kernel_rfl) (fun _ _ _ h => h) (Or.inl ⟨by kernel_rfl, ?_⟩) (by assumption) ?_
        rotate_left
        · intro w' hSw; (try dsimp only at hSw); go_simp; try with_reducible rfl
        try simp only [Act.put, List.setIfInBounds_toArray, List.set_cons_zero, List.set_cons_succ]
        refine takeH 27 (i := 4) (v := ?_) rfl rfl (by kernel_rfl) (by kernel_rfl) (by kernel_rfl) (fun _ _ _ h => h) (Or.inl ⟨by kernel_rfl, ?_⟩) (by assumption) ?_
        rotate_left
        · intro w' hSw; (try dsimp only at hSw); go_simp; try with_reducible rfl
        try simp only [Act.put, List.setIfInBounds_toArray, List.set_cons_zero, List.set_cons_succ]
        refine takeH 28 (i := 5) (v := ?_) rfl rfl (by kernel_rfl) (by kernel_rfl) (by kernel_rfl) (fun _ _ _ h => h) (Or.inl ⟨by kernel_rfl, ?_⟩) (by assumption) ?_
        rotate_left
        · intro w' hSw; (try dsimp only at hSw); go_simp; try with_reducible rfl
        try simp only [Act.put, List.setIfInBounds_toArray, List.set_cons_zero, List.set_cons_succ]
        refine wpAnyH_ready (rs := [6]) (by kernel_rfl) (by simp) ?_
        refine consH _ rfl (hopCd 29 rfl (by kernel_rfl) rfl (by kernel_rfl) (Calls.mono (loss_any a HA.out g1 g2 g3 (gs[k]?.getD []) HL.out.1 HL.out.2 _ (RdF.later HG.out (Below.refl _ _).drew)) ?_)) AllReadyH.nil
        rintro e W1 ⟨rfl, a1, b1, s1⟩
        have hsz : wr.drew.heap.size = wr.heap.size := rfl
        rw [hsz] at a1 s1 b1 ⊢
        have SX : Below wr.heap.size wr W1 := (Below.refl _ wr).drew.trans b1
        have hS1 : (fun V => V.cell? ⟨L, 0, none⟩ = some (.slice (some ⟨G, 0, none⟩) gn gn)) W1 := cellAtJ (kept SX HI.out.box) 0 _ rfl
        clear b1
        refine ⟨_, rfl, hS1, ?_⟩
        try simp only [Act.put, List.setIfInBounds_toArray, List.set_cons_zero, List.set_cons_succ]
        refine takeH 30 (i := 7) (v := ?_) rfl rfl (by kernel_rfl) (by kernel_rfl) (by kernel_rfl) (fun _ _ _ h => h) (Or.inl ⟨by kernel_rfl, ?_⟩) (by assumption) ?_
        rotate_left
        · intro w' hSw; (try dsimp only at hSw); go_simp; try with_reducible rfl
        try simp only [Act.put, List.setIfInBounds_toArray, List.set_cons_zero, List.set_cons_succ]
        refine wpAnyH_ready (rs := [8]) (by kernel_rfl) (by simp) ?_
        refine consH _ rfl (hopL rfl (wpList_store_at (by rfl) 3 _ _ (by rfl) w w.heap.size P k (.int .i64 (k : Int)) _ (upN gn (k + 1)) 3 (by kernel_rfl) (by kernel_rfl) (kept SX HI.out.pl) (to_call HI.out.bel SX) HI.out.ne.2.2.2.1 1 Tryz.szI1 rfl (by rw [upN_size]; omega) (one_in _) (upN_set _ _ h1) fun W2 e2 b2 s2 o2 => ?_)) AllReadyH.nil
        have hS2 : (fun V => V.cell? ⟨L, 0, none⟩ = some (.slice (some ⟨G, 0, none⟩) gn gn)) W2 := (cell_heapJ (o2 L (Ne.symm HI.out.ne.2.1)) 0).trans hS1
        refine (And.intro hS2 ?_ : _ ∧ _)
        try simp only [Act.put, List.setIfInBounds_toArray, List.set_cons_zero, List.set_cons_succ]
        refine takeH 31 (i := 9) (v := ?_) rfl rfl (by kernel_rfl) (by kernel_rfl) (by kernel_rfl) (fun _ _ _ h => h) (Or.inl ⟨by kernel_rfl, ?_⟩) (by assumption) ?_
        rotate_left
        · intro w' hSw; (try dsimp only at hSw); go_simp; try with_reducible rfl
        try simp only [Act.put, List.setIfInBounds_toArray, List.set_cons_zero, List.set_cons_succ]
        obtain ⟨cg, hcg, hcs, hcp⟩ := HI.out.row
        obtain ⟨dg, hd1, hd2, hd3, hd4⟩ := setP_cells (c := cg) (k := k) (v := .pointer (some ⟨wr.heap.size, 0, none⟩)) (by omega) rfl
        refine wpAnyH_ready (rs := [10]) (by kernel_rfl) (by simp) ?_
        refine consH _ rfl (hopL rfl (wpList_store_at (by rfl) 87 _ _ (by rfl) w w.heap.size G k (.pointer (some ⟨wr.heap.size, 0, none⟩)) _ dg 87 (by kernel_rfl) (by kernel_rfl) ((o2 G (Ne.symm HI.out.ne.1)).trans (kept SX hcg)) b2 HI.out.ne.2.2.2.2.1 1 Tryz.szP1 rfl (by omega) (one_pt _) hd1 fun W3 e3 b3 s3 o3 => ?_)) AllReadyH.nil
        have hS3 : (fun V => V.cell? ⟨L, 0, none⟩ = some (.slice (some ⟨G, 0, none⟩) gn gn)) W3 := (cell_heapJ (o3 L (Ne.symm HI.out.ne.2.2.1)) 0).trans hS2
        refine (And.intro hS3 ?_ : _ ∧ _)
        try simp only [Act.put, List.setIfInBounds_toArray, List.set_cons_zero, List.set_cons_succ]
        refine wpAnyH_done (by kernel_rfl) ?_ _
        refine NoPanic.normal ?_
        try simp only [Act.put, List.setIfInBounds_toArray, List.set_cons_zero, List.set_cons_succ]
        have HN := BlR.push HI.out h1 SX a1 s1 e2 o2 b2 hcg hcs hcp ⟨hd2, hd3, hd4⟩ e3 o3 b3
        clear hS hS1 hS2 hS3 SX a1 s1 e2 o2 b2 s2 hcg hcs hcp hd1 hd2 hd3 hd4 e3 o3 b3 s3 ga hsz
        go_wp2_with fail
        go_roundg q
        case measure => omega
        case rel => exact ⟨k + 1, by go_num, by have := HIG.out; omega, _, HN⟩
      · have hd : decide ((k : Int) < (gn : Int)) = false := decide_eq_false (by omega)
        have hd' : decide (k < gn) = false := decide_eq_false (by omega)
        have hkl : k = gn := by omega
        have HN : Hid (BlR w wr (⟨N, co, cn, cc, io, dn, dc, go, gn, gc, ro, rn, rc, bad, cs, ids, gv, gs, rs⟩ : ZD) gn gn P G L p (fun k => lsZ (⟨N, co, cn, cc, io, dn, dc, go, gn, gc, ro, rn, rc, bad, cs, ids, gv, gs, rs⟩ : ZD) k * ((2 ^ a : Nat) : Int))) := by have h9 := HI.out; rw [hkl] at h9; exact h9
        clear hkl
        go_wp2_with (first | (go_at_call 49; refine (HS.out _ P G L p HN.out).mono ?_; rintro e w9 ⟨rfl, r9⟩))
        exact r9
end Go.Proofs.YtogdfdhdmfkmaaaGreat

namespace Go.Proofs.YtogdfdhdmfkmaaaGreat
open Go.RowKit Go.Shelf Go.Sort
set_option linter.unusedVariables false
set_option linter.unusedSimpArgs false

theorem sgi_zeroT (x : Int) : sgi x = 0 ↔ x = 0 := by unfold sgi; split <;> (try split) <;> omega
theorem sgi_ltT (x : Int) : sgi x < 0 ↔ x < 0 := by unfold sgi; split <;> (try split) <;> omega
/-- The order of columns: by the loss, then by the place. -/
def ltL (v : Nat → Int) (i j : Nat) : Prop := v i < v j ∨ (v i = v j ∧ i < j)
theorem cfL_neg (v : Nat → Int) (i j : Nat) : cfL v i j < 0 ↔ ltL v i j := by
  unfold cfL ltL
  by_cases h : sgi (v i - v j) = 0
  · rw [if_neg (by simp [h])]
    rw [sgi_zeroT] at h
    unfold Lib.compareInt
    by_cases h1 : (i : Int) < (j : Int)
    · simp [h1]; omega
    · by_cases h2 : (j : Int) < (i : Int) <;> simp [h1, h2] <;> omega
  · rw [if_pos h, sgi_ltT]
    rw [sgi_zeroT] at h
    omega
/-- The comparison of places. -/
def cfF (v : Nat → Int) (n : Nat) (x y : _root_.Fin n) : Int := cfL v x.val y.val
theorem ltF (v : Nat → Int) (n : Nat) (x y : _root_.Fin n) : ltOf (cfF v n) x y = true ↔ ltL v x.val y.val := by
  unfold ltOf cfF
  rw [decide_eq_true_eq, cfL_neg]
theorem ltFf (v : Nat → Int) (n : Nat) (x y : _root_.Fin n) : ltOf (cfF v n) x y = false ↔ ¬ ltL v x.val y.val := by
  rw [← ltF, Bool.not_eq_true]
theorem swoF (v : Nat → Int) (n : Nat) : SWO (ltOf (cfF v n)) where
  irrefl x := by rw [ltFf]; unfold ltL; omega
  trans x y z h1 h2 := by rw [ltF] at *; unfold ltL at *; omega
  ntrans x y z h1 h2 := by rw [ltFf] at *; unfold ltL at *; omega
theorem totF (v : Nat → Int) (n : Nat) (x y : _root_.Fin n) (h1 : ltOf (cfF v n) x y = false) (h2 : ltOf (cfF v n) y x = false) : x = y := by
  rw [ltFf] at *
  unfold ltL at *
  apply Fin.ext
  omega
/-- The places in order. -/
def plF (v : Nat → Int) (n : Nat) : List (_root_.Fin n) := (List.finRange n).mergeSort fun x y => !(ltOf (cfF v n)) y x
def plN (v : Nat → Int) (n : Nat) : List Nat := (plF v n).map (·.val)
theorem plF_len (v : Nat → Int) (n : Nat) : (plF v n).length = n := by unfold plF; rw [List.length_mergeSort]; simp
theorem plN_len (v : Nat → Int) (n : Nat) : (plN v n).length = n := by unfold plN; rw [List.length_map, plF_len]
def encF (n : Nat) (x : _root_.Fin n) : Value := .int .i64 (x.val : Int)
theorem sortW_heap {n : Nat} [Inhabited (_root_.Fin n)] (W : World) (P m : Nat) (dk : Array (_root_.Fin n)) (os : Array Obj) (k : Nat) (hk : k < W.heap.size) (hne : k ≠ P) : (sortWorld (encF n) W P 0 m dk os).heap[k]? = W.heap[k]? := by
  unfold sortWorld grow putRow mapBlock
  show (((Sort.ahead W m).heap.modify P _) ++ os)[k]? = _
  rw [Array.getElem?_append_left (by simpa using hk), Array.getElem?_modify, if_neg (by omega)]
  rfl
theorem sortW_below {n : Nat} [Inhabited (_root_.Fin n)] (w W : World) (P m : Nat) (dk : Array (_root_.Fin n)) (os : Array Obj) (hb : Below w.heap.size w W) (hP : w.heap.size ≤ P) : Below w.heap.size w (sortWorld (encF n) W P 0 m dk os) := by
  refine ⟨hb.os, hb.tape, hb.output, ?_, fun k hk => ?_⟩
  · have h1 := hb.size
    have h2 : (sortWorld (encF n) W P 0 m dk os).heap.size = W.heap.size + os.size := by
      unfold sortWorld grow
      show (_ ++ os).size = _
      rw [Array.size_append, size_putRow]
      rfl
    omega
  · rw [sortW_heap W P m dk os k (Nat.lt_of_lt_of_le hk hb.size) (by omega)]
    exact hb.block k hk
theorem LsR.other {w w' : World} {L gB n P : Nat} {p : Nat → Nat} {v : Nat → Int} (h : LsR w L gB n p v) (ho : ∀ k, k < w.heap.size → k ≠ P → w'.heap[k]? = w.heap[k]?) (hL : L ≠ P) (hG : gB ≠ P) (hp : ∀ j, j < n → p j ≠ P) : LsR w' L gB n p v :=
  ⟨(cell_heapJ (ho L (World.block_lt_of_cell? _ _ h.box) hL) 0).trans h.box, fun j hj => (cell_heapJ (ho gB (World.block_lt_of_cell? _ _ (h.row j hj)) hG) j).trans (h.row j hj), fun j hj => (h.acc j hj).heap (ho _ (h.acc j hj).block (hp j hj))⟩
theorem sort_any {w W : World} {z : ZD} {n P G L : Nat} {p : Nat → Nat} {v : Nat → Int} (hn : n ≤ 4000000) (h : BlR w W z n n P G L p v) :
    Calls Tryz.prog 49 #[.slice (some ⟨P, 0, none⟩) n n, .func (.func 50) #[] #[.pointer (some ⟨L, 0, none⟩)]] W fun e w' => e = .returned (.tuple #[]) ∧ RdIs w' (some ⟨P, 0, none⟩) n n ((plN v n).map fun (k : Nat) => (k : Int)) ∧ Below w.heap.size w w' := by
  have hmx : n ≤ maxLen := by unfold maxLen; omega
  rcases Nat.eq_zero_or_pos n with h0 | h0
  · subst h0
    have hS := AnyF.slices_SortFunc_none (P := Tryz.prog) (ρ := Tryz.sortL_ren) { Tryz.sortL with } (some ⟨P, 0, none⟩) 0 (.func (.func 50) #[] #[.pointer (some ⟨L, 0, none⟩)]) W
    change Calls Tryz.prog 49 _ _ _ at hS
    refine hS.mono ?_
    rintro e w' ⟨rfl, rfl⟩
    exact ⟨rfl, ⟨by rw [List.length_map, plN_len], hmx, .inl rfl⟩, h.bel⟩
  · haveI : Inhabited (_root_.Fin n) := ⟨⟨0, h0⟩⟩
    have hd : (List.finRange n).toArray.size = n := by simp
    have hget : ∀ (l : List (_root_.Fin n)) (j : Nat) (hj : j < l.length), l.toArray[j]! = l[j] := fun l j hj => by
      rw [getElem!_pos l.toArray j (by simpa using hj)]; simp
    have hH : Holds (encF n) W P 0 (List.finRange n).toArray := by
      intro j hj
      rw [hd] at hj
      refine ⟨?_, frozen_of_row _ _ _ _ _ h.pl⟩
      rw [hget _ j (by simpa using hj), Nat.zero_add]
      refine cellAtJ h.pl j _ ?_
      unfold upN encF
      simp [hj]
    have eg : ∀ args w, (callFunc 50 args).run Tryz.prog w = .ok (.enter 50 args) w := enters_of Tryz.func50 (by kernel_rfl) rfl
    have hcmp : CmpLays1 Tryz.prog 50 #[.pointer (some ⟨L, 0, none⟩)] (encF n) (cfF v n) P 0 (List.finRange n).toArray.size W := by
      intro m os dk hs x y
      have hl : LsR (sortWorld (encF n) W P 0 m dk os) L G n p v := h.ls.other (fun k hk hne => sortW_heap W P m dk os k hk hne) (Ne.symm h.ne.2.1) (Ne.symm h.ne.1) (fun j hj => (h.pne j hj).1)
      refine Calls.mono (byLoss1_any L G n p v x.val y.val x.isLt y.isLt _ hl) ?_
      rintro e w' ⟨rfl, hb, hdr⟩
      exact ⟨rfl, grown_of hb hdr⟩
    have hS := Any.slices_SortFunc_total Tryz.sortL (encF n) (fun _ => rfl) (cfF v n) (swoF v n) 50 #[.pointer (some ⟨L, 0, none⟩)] P 0 n (List.finRange n).toArray W eg hcmp hH (blk_lt h.pl) (by rw [hd]; omega) (totF v n)
    rw [hd] at hS
    change Calls Tryz.prog 49 _ _ _ at hS
    refine hS.mono ?_
    rintro e w' ⟨rfl, q, os, hw⟩
    have hls : ((List.finRange n).toArray.toList.mergeSort fun x y => !(ltOf (cfF v n)) y x) = plF v n := rfl
    rw [hls] at hw
    have hh : Holds (encF n) w' P 0 (plF v n).toArray := by
      have hsw : SW (encF n) W P 0 (plF v n).toArray w' := ⟨q, os, hw⟩
      exact hsw.holds (blk_lt h.pl) hH (by simp [plF_len])
    refine ⟨rfl, ⟨by rw [List.length_map, plN_len], hmx, .inr ⟨P, 0, rfl, fun j hj => ?_⟩⟩, ?_⟩
    · have h1 := (hh j (by simpa [plF_len] using hj)).1
      rw [hget _ j (by rw [plF_len]; exact hj)] at h1
      rw [h1]
      unfold plN encF
      rw [List.map_map, List.getElem?_map, List.getElem?_eq_getElem (by rw [plF_len]; exact hj)]
      rfl
    · rw [hw]
      exact sortW_below w W P q _ os h.bel h.ne.2.2.2.1
/-- byLoss: the places of the columns, that of the least loss first. -/
theorem byLoss_any (a : Nat) (ha : a = 1166) (z : ZD) (w : World) (hz : ZR w z) (hgn : z.gn ≤ 4000000) (hf : ∀ k j : Nat, Fin ((z.gs[k]?.getD [])[j]?.getD 0)) (hl : ∀ k, k < z.gn → (z.gs[k]?.getD []).length ≤ 1050000) :
    Calls Tryz.prog 31 #[.agg #[.int .i64 z.N, .slice z.co z.cn z.cc, .slice z.io z.dn z.dc, .slice z.go z.gn z.gc, .slice z.ro z.rn z.rc, .bool z.bad]] w fun e w' => ∃ P, e = .returned (.slice (some ⟨P, 0, none⟩) z.gn z.gn) ∧ w.heap.size ≤ P ∧ RdIs w' (some ⟨P, 0, none⟩) z.gn z.gn ((plN (lsZ z) z.gn).map fun (k : Nat) => (k : Int)) ∧ Below w.heap.size w w' := by
  refine byLossA a ha z w hz hgn hf hl _ fun W P G L p h => ?_
  refine Calls.mono (sort_any hgn h) ?_
  rintro e w' ⟨rfl, hr, hb⟩
  refine ⟨rfl, P, rfl, h.ne.2.2.2.1, ?_, hb⟩
  have e1 : plN (fun k => lsZ z k * ((2 ^ a : Nat) : Int)) z.gn = plN (lsZ z) z.gn := by
    have e2 : cfF (fun k => lsZ z k * ((2 ^ a : Nat) : Int)) z.gn = cfF (lsZ z) z.gn := by
      funext x y
      have hp : (0 : Int) < ((2 ^ a : Nat) : Int) := by have := Nat.two_pow_pos a; omega
      unfold cfF cfL
      have e3 : ∀ s t : Int, sgi (s * ((2 ^ a : Nat) : Int) - t * ((2 ^ a : Nat) : Int)) = sgi (s - t) := fun s t => by
        rw [← Int.sub_mul]
        generalize ((2 ^ a : Nat) : Int) = M at *
        generalize s - t = d
        unfold sgi
        have h1 : d * M < 0 ↔ d < 0 := by
          constructor
          · intro h; exact Int.lt_of_mul_lt_mul_right (by rw [Int.zero_mul]; exact h) (Int.le_of_lt hp)
          · intro h; have := Int.mul_lt_mul_of_pos_right h hp; rwa [Int.zero_mul] at this
        have h2 : d * M = 0 ↔ d = 0 := by
          constructor
          · intro h; rcases Int.mul_eq_zero.1 h with h | h <;> omega
          · intro h; rw [h, Int.zero_mul]
        simp only [h1, h2]
      rw [e3]
    unfold plN plF
    rw [e2]
  rw [e1] at hr
  exact hr
end Go.Proofs.YtogdfdhdmfkmaaaGreat
