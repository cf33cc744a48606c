import Derived.Test.YtigaggkipmcgeabZV
import Derived.Test.YtigaggkipmcgeabMY
import Derived.Test.YtigaggkipmcgeabSpi
namespace Go.Proofs.Ytigaggkipmcgeab
open Go.RowKit
set_option linter.unusedVariables false

theorem m_one {a : Nat} (ha : a = 1074) : fval 4607182418800017408 = ((2 ^ a : Nat) : Int) := by subst ha; decide +kernel
theorem m_half {b : Nat} (hb : b = 1165) (u : Nat) : prodZ u 4607182418800017408 (-1) = fval u * ((2 ^ b : Nat) : Int) := by
  unfold prodZ
  obtain ⟨a, ha⟩ : ∃ a : Nat, a = 1074 := ⟨_, rfl⟩
  rw [m_one ha, Int.mul_assoc]
  congr 1
  rw [show ((-1 : Int) + 92).toNat = 91 by decide]
  have : (2 : Nat) ^ b = 2 ^ a * 2 ^ 91 := by rw [← Nat.pow_add, show a + 91 = b by omega]
  rw [this, Int.natCast_mul]
theorem m_lt {u E : Nat} (hu : Fin u) (hE : E = 2098) : (fval u).natAbs < 2 ^ E := by
  obtain ⟨F, hF⟩ : ∃ F : Nat, F = 2046 := ⟨_, rfl⟩
  have h1 := rmag_lt hu
  rw [rmag_inf hF] at h1
  have h2 : (fval u).natAbs = rmag (frung u) := by unfold fval; split <;> omega
  have h3 : (2 : Nat) ^ E = 4503599627370496 * 2 ^ F := by
    rw [show (4503599627370496 : Nat) = 2 ^ 52 by decide, ← Nat.pow_add, show 52 + F = E by omega]
  rw [h2, h3]; exact h1
theorem m_hold {b : Nat} (hb : b = 1165) {z : Int} {E : Nat} (hE : E = 2099) (hz : z.natAbs < 2 ^ E) : holdZ (z * ((2 ^ b : Nat) : Int)) = some (z * ((2 ^ b : Nat) : Int)) := by
  unfold holdZ
  rw [if_pos]
  obtain ⟨Q, hQ⟩ : ∃ Q : Nat, Q = 4800 := ⟨_, rfl⟩
  have h2 : (2 : Nat) ^ E * 2 ^ b ≤ 2 ^ Q := by rw [← Nat.pow_add]; exact Nat.pow_le_pow_right (by omega) (by omega)
  have h3 : (z * ((2 ^ b : Nat) : Int)).natAbs < 2 ^ Q := by
    rw [Int.natAbs_mul, Int.natAbs_natCast]
    exact Nat.lt_of_lt_of_le (Nat.mul_lt_mul_of_pos_right hz (Nat.two_pow_pos _)) h2
  rw [hQ] at h3
  generalize z * ((2 ^ b : Nat) : Int) = X at *
  generalize 2 ^ 4800 = L at *
  omega
theorem m_prod {lo hi : Nat} (hl : Fin lo) (hh : Fin hi) {b : Nat} (hb : b = 1165) : prodO (prodO (some 0) lo 4607182418800017408 (-1)) hi 4607182418800017408 (-1) = some ((fval lo + fval hi) * ((2 ^ b : Nat) : Int)) := by
  obtain ⟨E, hE⟩ : ∃ E : Nat, E = 2098 := ⟨_, rfl⟩
  have e1 := m_lt hl hE
  have e2 := m_lt hh hE
  have e3 : (2 : Nat) ^ (E + 1) = 2 ^ E + 2 ^ E := by rw [Nat.pow_succ]; omega
  unfold prodO
  simp only [Option.bind_some]
  rw [if_pos ⟨hl, by decide, by decide, by decide⟩, Int.zero_add, m_half hb, m_hold hb (E := E + 1) (by omega) (by omega)]
  simp only [Option.bind_some]
  rw [if_pos ⟨hh, by decide, by decide, by decide⟩, m_half hb, ← Int.add_mul, m_hold hb (E := E + 1) (by omega) (by omega)]
theorem m_told {lo hi : Nat} {b u : Nat} {k : Bool} (hb : b = 1165) (h : RndO 0 (some ((fval lo + fval hi) * ((2 ^ b : Nat) : Int))) u k) : RndZ 0 (fval lo + fval hi) 2 (u, k) := by
  have h1 := h (b + 1) (by omega)
  refine h1.of_ratio (by decide) ?_
  have e : (2 : Nat) ^ (b + 1) = 2 ^ b * 2 := Nat.pow_succ ..
  rw [e, Int.natCast_mul, Int.mul_assoc]
set_option maxRecDepth 100000 in
set_option maxHeartbeats 2000000 in
theorem middle_any (al ah : Nat) (ab : Bool) (hal : al < 18446744073709551616) (hah : ah < 18446744073709551616) (w : World) :
    Calls Try.prog 32 #[.agg #[.float .f64 al, .float .f64 ah, .bool ab]] w fun e w' => ∃ u b, e = .returned (.tuple #[.float .f64 u, .bool b]) ∧ (Good al ah ab → RndZ 0 (fval al + fval ah) 2 (u, b)) ∧ (¬ Good al ah ab → u = 0 ∧ b = false) ∧ Below w.heap.size w w' := by
  by_cases hg : Good al ah ab
  · have HG : Hid _ := hg
    have hgd : decide (Good al ah ab) = true := decide_eq_true hg
    clear hg
    obtain ⟨g0, gb⟩ := alloc1_facts w (Obj.cells #[Value.float .f64 al, .float .f64 ah, .bool ab] 24)
    have GA : Hid _ := g0
    have GB : Hid _ := gb
    clear g0 gb
    go_enter Try.func32, Try.ntmps32
    go_upto_region 1 with fail
    generalize (w.alloc (Obj.cells #[Value.float .f64 al, .float .f64 ah, .bool ab] 24)) = W3 at GA GB ⊢
    obtain ⟨a0, a1, a2⟩ := cells3 GA.out
    have N4 : Hid _ := heap_alloc_new W3 (Obj.cells #[Value.float .f64 al, .float .f64 ah, .bool ab] 24)
    have PGA : Hid _ := alloc4 GA.out GB.out (Obj.cells #[Value.float .f64 al, .float .f64 ah, .bool ab] 24)
    clear GB GA
    go_wp2_with fail
    clear a0 a1 a2
    generalize W3.alloc (Obj.cells #[Value.float .f64 al, .float .f64 ah, .bool ab] 24) = W4 at N4 PGA ⊢
    refine Calls.mono (good1_any N4.out hal hah) ?_
    rintro e w1 ⟨rfl, bw⟩
    have GA1 : Hid _ := (bw.block _ (blk_lt PGA.out.1)).trans PGA.out.1
    have C1 : Hid (Below w.heap.size w w1) := PGA.out.2.trans (bw.mono PGA.out.2.size)
    clear bw N4 PGA
    rw [hgd]
    go_wp2_with fail
    refine Calls.mono (new_any _) ?_
    rintro e w2 ⟨rfl, hA, bw, hsz⟩
    have A2 : Hid (AccO w2 w1.heap.size (some 0)) := hA
    have G2 : Hid _ := (bw.block _ (blk_lt GA1.out)).trans GA1.out
    have C2 : Hid (Below w.heap.size w w2) := C1.out.trans (bw.mono C1.out.size)
    obtain ⟨Bx, hBx⟩ : ∃ B, w1.heap.size = B := ⟨_, rfl⟩
    have HX : Hid (w.heap.size < Bx) := by have := blk_lt GA1.out; unfold Hid; omega
    rw [hBx] at A2 ⊢
    clear hA bw hsz GA1 C1 hBx
    obtain ⟨a0, a1, a2⟩ := cells3 G2.out
    go_wp2_with fail
    refine Calls.mono (accProd_any Bx (some 0) al 4607182418800017408 (-1) hal (by decide) _ A2.out) ?_
    rintro e w3 ⟨rfl, hA, hC⟩
    have A3 : Hid _ := hA
    have G3 : Hid _ := (hC.other w.heap.size (blk_lt G2.out) (by have := HX.out; omega)).trans G2.out
    have H3 : Hid (Chg Bx w2 w3) := hC
    clear hA hC a0 a1 a2 A2
    obtain ⟨a0, a1, a2⟩ := cells3 G3.out
    go_wp2_with fail
    refine Calls.mono (accProd_any Bx _ ah 4607182418800017408 (-1) hah (by decide) _ A3.out) ?_
    rintro e w4 ⟨rfl, hA, hC⟩
    have A4 : Hid _ := hA
    have H4 : Hid (Chg Bx w2 w4) := H3.out.trans hC
    clear hA hC a0 a1 a2 A3 G3 H3
    go_wp2_with fail
    refine Calls.mono (accRound_any 0 Bx _ _ A4.out) ?_
    rintro e w5 ⟨u, b, rfl, hR, bw⟩
    have HR : Hid (RndO 0 (prodO (prodO (some 0) al 4607182418800017408 (-1)) ah 4607182418800017408 (-1)) u b) := hR
    have C4 : Hid (Below w.heap.size w w4) := C2.out.trans (H4.out.below.mono (by have := HX.out; omega))
    have C5 : Hid (Below w.heap.size w w5) := C4.out.trans (bw.mono C4.out.size)
    clear hR bw A4
    go_wp2_with fail
    go_ret2
    refine ⟨u, b, rfl, fun _ => ?_, fun c => absurd HG.out c, C5.out⟩
    obtain ⟨bb, hbb⟩ : ∃ b : Nat, b = 1165 := ⟨_, rfl⟩
    have h := HR.out
    rw [m_prod HG.out.2.1 HG.out.2.2.1 hbb] at h
    exact m_told hbb h
  · have HG : Hid _ := hg
    have hgd : decide (Good al ah ab) = false := decide_eq_false hg
    clear hg
    obtain ⟨g0, gb⟩ := alloc1_facts w (Obj.cells #[Value.float .f64 al, .float .f64 ah, .bool ab] 24)
    have GA : Hid _ := g0
    have GB : Hid _ := gb
    clear g0 gb
    go_enter Try.func32, Try.ntmps32
    go_upto_region 1 with fail
    generalize (w.alloc (Obj.cells #[Value.float .f64 al, .float .f64 ah, .bool ab] 24)) = W3 at GA GB ⊢
    obtain ⟨a0, a1, a2⟩ := cells3 GA.out
    have N4 : Hid _ := heap_alloc_new W3 (Obj.cells #[Value.float .f64 al, .float .f64 ah, .bool ab] 24)
    have PGA : Hid _ := alloc4 GA.out GB.out (Obj.cells #[Value.float .f64 al, .float .f64 ah, .bool ab] 24)
    clear GB GA
    go_wp2_with fail
    clear a0 a1 a2
    generalize W3.alloc (Obj.cells #[Value.float .f64 al, .float .f64 ah, .bool ab] 24) = W4 at N4 PGA ⊢
    refine Calls.mono (good1_any N4.out hal hah) ?_
    rintro e w1 ⟨rfl, bw⟩
    have GA1 : Hid _ := (bw.block _ (blk_lt PGA.out.1)).trans PGA.out.1
    have C1 : Hid (Below w.heap.size w w1) := PGA.out.2.trans (bw.mono PGA.out.2.size)
    clear bw N4 PGA
    rw [hgd]
    go_wp2_with fail
    go_ret2
    exact ⟨0, false, rfl, fun c => absurd c HG.out, fun _ => ⟨rfl, rfl⟩, C1.out⟩
end Go.Proofs.Ytigaggkipmcgeab
