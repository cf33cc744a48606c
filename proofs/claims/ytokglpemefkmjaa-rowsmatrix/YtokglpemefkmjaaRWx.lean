import Derived.Test.YtokglpemefkmjaaRWw
import Derived.Test.YtokglpemefkmjaaRWv
import Derived.Test.YtokglpemefkmjaaRWj
import Derived.Test.YtokglpemefkmjaaRWd
namespace Go.Proofs.Ytokglpemefkmjaa
open Go.RowKit
set_option linter.unusedVariables false
set_option linter.unusedSimpArgs false
/-- The places of a window: of all channels (cv), or of the coordinate's own. -/
def psW (cv : Bool) (C H K KH KW SH SW PH PW D1 D2 i : Nat) : List P3 :=
  csP (if cv = true then 0 else ((i / (D1 * D2) : Nat) : Int)) (if cv = true then (C : Int) else ((i / (D1 * D2) : Nat) : Int) + 1) (max (((i / D2 % D1 : Nat) : Int) * SH - PH) 0) (min (((i / D2 % D1 : Nat) : Int) * SH - PH + KH) H) (max (((i % D2 : Nat) : Int) * SW - PW) 0) (min (((i % D2 : Nat) : Int) * SW - PW + KW) K)
structure PsOk (cv : Bool) (C H K KH KW D1 D2 i : Nat) (ps : List P3) : Prop where
  pos : 0 < ps.length
  le : ps.length ≤ KH * KW * C
  le2 : ps.length ≤ 256
  rise : (ps.map (ixW H K)).Pairwise (· < ·)
  mem : ∀ p, p ∈ ps → (0 ≤ p.1 ∧ p.1 < C) ∧ (0 ≤ p.2.1 ∧ p.2.1 < H) ∧ (0 ≤ p.2.2 ∧ p.2.2 < K) ∧ (cv = false → p.1 = ((i / (D1 * D2) : Nat) : Int))
theorem psW_ok (cv : Bool) {gO c h k g1 g2 g3 g4 g5 g6 : Int} {C H K KH KW SH SW PH PW o D1 D2 i : Nat} (hw : WK gO g1 g2 g3 g4 g5 g6 c h k C H K KH KW SH SW PH PW o D1 D2) (ho : cv = false → o = C) (hi : i < o * D1 * D2) : PsOk cv C H K KH KW D1 D2 i (psW cv C H K KH KW SH SW PH PW D1 D2 i) := by
  obtain ⟨c1, h1, k1, hch⟩ := hw.sz
  obtain ⟨f1, f2, f3, f4, f5, f6, f7, f8, f9, f10, f11, f12⟩ := hw.f
  have d1 : 1 ≤ D1 := by rw [hw.d.1]; exact Nat.le_add_left 1 _
  have d2 : 1 ≤ D2 := by rw [hw.d.2]; exact Nat.le_add_left 1 _
  have hD : 1 ≤ D1 * D2 := Nat.mul_pos d1 d2
  have hq : i / (D1 * D2) < o := (Nat.div_lt_iff_lt_mul hD).2 (by rw [← Nat.mul_assoc]; exact hi)
  obtain ⟨y0, e0⟩ : ∃ y, max (((i / D2 % D1 : Nat) : Int) * SH - PH) 0 = y := ⟨_, rfl⟩
  obtain ⟨y1, e1⟩ : ∃ y, min (((i / D2 % D1 : Nat) : Int) * SH - PH + KH) (H : Int) = y := ⟨_, rfl⟩
  obtain ⟨z0, e2⟩ : ∃ y, max (((i % D2 : Nat) : Int) * SW - PW) 0 = y := ⟨_, rfl⟩
  obtain ⟨z1, e3⟩ : ∃ y, min (((i % D2 : Nat) : Int) * SW - PW + KW) (K : Int) = y := ⟨_, rfl⟩
  have sy := win_span h1 f9 f11 f5 hw.d.1 (Nat.mod_lt (i / D2) d1) rfl e0 e1
  have sz := win_span k1 f10 f12 f7 hw.d.2 (Nat.mod_lt i d2) rfl e2 e3
  unfold psW
  rw [e0, e1, e2, e3]
  have hlo : (if cv = true then (0 : Int) else ((i / (D1 * D2) : Nat) : Int)) < (if cv = true then (C : Int) else ((i / (D1 * D2) : Nat) : Int) + 1) := by cases cv <;> simp <;> omega
  have hr : ((if cv = true then (C : Int) else ((i / (D1 * D2) : Nat) : Int) + 1) - (if cv = true then (0 : Int) else ((i / (D1 * D2) : Nat) : Int))).toNat ≤ C := by cases cv <;> simp <;> omega
  refine ⟨csP_pos hlo sy.2.2.1 sz.2.2.1, ?_, ?_, csP_rises ⟨sy.1, sy.2.1⟩ ⟨sz.1, sz.2.1⟩, fun p hp => ?_⟩
  · refine Nat.le_trans (csP_leN (M := KH) (N := KW) sz.2.2.2.1 sy.2.2.2.1) ?_
    rw [Nat.mul_comm (KH * KW)]
    exact Nat.mul_le_mul_right _ hr
  · refine Nat.le_trans (csP_leN (M := H) (N := K) sz.2.2.2.2.1 sy.2.2.2.2.1) (Nat.le_trans ?_ hch)
    rw [Nat.mul_assoc C]
    exact Nat.mul_le_mul_right _ hr
  · obtain ⟨m1, m2, m3⟩ := mem_csP hp
    generalize i / (D1 * D2) = q at hq m1 ⊢
    refine ⟨?_, by omega, by omega, fun h => ?_⟩
    · cases cv with
      | true => simp at m1; exact m1
      | false => simp at m1; have := ho rfl; omega
    · subst h; simp at m1; omega
set_option maxRecDepth 100000 in
set_option maxHeartbeats 8000000 in
theorem have_bent (c h k i : Int) (x1 x2 x3 x4 x5 x6 x7 x8 x9 v1 v2 v3 v4 : Value) (y0 y1 y2 y3 : Int) (w : World)
    (hL : ∀ w, Calls Try.prog 36 #[.agg #[.int .i64 12, x1, x2, x3, x4, x5, x6, x7, x8, x9, v1, v2, v3, v4], .agg #[.int .i64 c, .int .i64 h, .int .i64 k]] w fun e w' => e = .returned (.tuple #[.int .i64 y0, .int .i64 y1, .int .i64 y2, .int .i64 y3, .int .i64 0]) ∧ Below w.heap.size w w') :
    Calls Try.prog 22 #[.agg #[.int .i64 12, x1, x2, x3, x4, x5, x6, x7, x8, x9, v1, v2, v3, v4], .agg #[.int .i64 c, .int .i64 h, .int .i64 k], .int .i64 i] w fun e w' => e = .returned (.int .i64 61) ∧ Below w.heap.size w w' := by
  have HL : Hid _ := hL
  clear hL
  have X0 : Below w.heap.size w ((w.alloc (.cells #[.int .i64 12, x1, x2, x3, x4, x5, x6, x7, x8, x9, v1, v2, v3, v4] 30)).alloc (.cells #[.int .i64 c, .int .i64 h, .int .i64 k] 25)) := ((Below.refl _ w).alloc (Nat.le_refl _) _).alloc (by simp only [alloc_size]; omega) _
  have Y0 : ((w.alloc (.cells #[.int .i64 12, x1, x2, x3, x4, x5, x6, x7, x8, x9, v1, v2, v3, v4] 30)).alloc (.cells #[.int .i64 c, .int .i64 h, .int .i64 k] 25)).heap[w.heap.size]? = _ := alloc_kept (heap_alloc_new w _) _
  go_enter Try.func22, Try.ntmps22
  go_wp2_with fail
  refine Calls.mono (HL.out _) ?_
  rintro e w1 ⟨rfl, hb⟩
  have HX : Hid (Below w.heap.size w w1) := to_call X0 hb
  have a0 := cellAt (kept hb Y0) 0 (.int .i64 12) rfl
  have HLN : Hid (∀ w, Calls Try.prog 6 #[.int .i64 12] w fun e w' => e = .returned (.bool false) ∧ w' = w) := fun w => by
    have h := linear_any 12 w
    rw [decide_eq_false (by decide)] at h
    exact h
  clear hb X0 Y0 HL
  go_wp2_with fail
  refine Calls.mono (HLN.out _) ?_
  rintro e m ⟨rfl, hm⟩
  subst hm
  go_wp2_with fail
  go_ret
  exact ⟨rfl, HX.out⟩
theorem wrap_id {x : Int} (h1 : -9223372036854775808 ≤ x) (h2 : x ≤ 9223372036854775807) : (x + 9223372036854775808) % 18446744073709551616 - 9223372036854775808 = x := by omega
set_option maxRecDepth 100000 in
set_option maxHeartbeats 8000000 in
theorem row_bent (c h k i : Int) (x1 x2 x3 x4 x5 x6 x7 x8 x9 v1 v2 v3 v4 : Value) (y0 y1 y2 y3 : Int) (w : World)
    (hL : ∀ w, Calls Try.prog 36 #[.agg #[.int .i64 12, x1, x2, x3, x4, x5, x6, x7, x8, x9, v1, v2, v3, v4], .agg #[.int .i64 c, .int .i64 h, .int .i64 k]] w fun e w' => e = .returned (.tuple #[.int .i64 y0, .int .i64 y1, .int .i64 y2, .int .i64 y3, .int .i64 0]) ∧ Below w.heap.size w w') :
    Calls Try.prog 12 #[.agg #[.int .i64 12, x1, x2, x3, x4, x5, x6, x7, x8, x9, v1, v2, v3, v4], .agg #[.int .i64 c, .int .i64 h, .int .i64 k], .int .i64 i] w fun e w' => e = .returned (.tuple #[.slice none 0 0, .slice none 0 0, .float .f64 0, .int .i64 61]) ∧ Below w.heap.size w w' := by
  have HH : Hid _ := fun w => have_bent c h k i x1 x2 x3 x4 x5 x6 x7 x8 x9 v1 v2 v3 v4 y0 y1 y2 y3 w hL
  clear hL
  have X0 : Below w.heap.size w ((w.alloc (.cells #[.int .i64 12, x1, x2, x3, x4, x5, x6, x7, x8, x9, v1, v2, v3, v4] 30)).alloc (.cells #[.int .i64 c, .int .i64 h, .int .i64 k] 25)) := ((Below.refl _ w).alloc (Nat.le_refl _) _).alloc (by simp only [alloc_size]; omega) _
  go_enter Try.func12, Try.ntmps12
  go_wp2_with fail
  refine Calls.mono (HH.out _) ?_
  rintro e w1 ⟨rfl, hb⟩
  have HX : Hid (Below w.heap.size w w1) := to_call X0 hb
  clear hb X0 HH
  go_wp2_with fail
  refine bodyPost_ret (res_tmp4 _ 6 7 8 9 (by kernel_rfl) _ _ _ _ _ _ (by rfl) (by rfl) (by rfl) (by rfl)) rfl ?_
  exact ⟨rfl, HX.out⟩
set_option maxRecDepth 100000 in
set_option maxHeartbeats 8000000 in
theorem kit12 {C H K KH KW SH SW PH PW o D1 D2 : Nat} (hw : WK 0 (KH : Int) (KW : Int) (SH : Int) (SW : Int) (PH : Int) (PW : Int) (C : Int) (H : Int) (K : Int) C H K KH KW SH SW PH PW o D1 D2) (ho : o = C) (wo bo zo yo : Option Addr) (wc bc zc yc : Nat) :
    (∀ w, Calls Try.prog 11 #[.agg #[.int .i64 12, .int .i64 0, .int .i64 (KH : Int), .int .i64 (KW : Int), .int .i64 (SH : Int), .int .i64 (SW : Int), .int .i64 (PH : Int), .int .i64 (PW : Int), .int .i64 0, .float .f64 0, .slice wo 0 wc, .slice bo 0 bc, .slice zo 0 zc, .slice yo 0 yc], .agg #[.int .i64 (C : Int), .int .i64 (H : Int), .int .i64 (K : Int)]] w fun e w' => e = .returned (.tuple #[.int .i64 ((o * D1 * D2 : Nat) : Int), .int .i64 0]) ∧ Below w.heap.size w w') ∧
    ∀ i : Nat, i < o * D1 * D2 → (∀ w, Calls Try.prog 13 #[.agg #[.int .i64 12, .int .i64 0, .int .i64 (KH : Int), .int .i64 (KW : Int), .int .i64 (SH : Int), .int .i64 (SW : Int), .int .i64 (PH : Int), .int .i64 (PW : Int), .int .i64 0, .float .f64 0, .slice wo 0 wc, .slice bo 0 bc, .slice zo 0 zc, .slice yo 0 yc], .agg #[.int .i64 (C : Int), .int .i64 (H : Int), .int .i64 (K : Int)], .int .i64 (i : Int)] w fun e w' => ∃ v, e = .returned (.tuple #[v, .int .i64 0]) ∧ OwnM w' w.heap.size 3 v (inV ((psW false C H K KH KW SH SW PH PW D1 D2 i).map (ixW H K))) ∧ Below w.heap.size w w') ∧
      (∀ w : World, Calls Try.prog 12 #[.agg #[.int .i64 12, .int .i64 0, .int .i64 (KH : Int), .int .i64 (KW : Int), .int .i64 (SH : Int), .int .i64 (SW : Int), .int .i64 (PH : Int), .int .i64 (PW : Int), .int .i64 0, .float .f64 0, .slice wo 0 wc, .slice bo 0 bc, .slice zo 0 zc, .slice yo 0 yc], .agg #[.int .i64 (C : Int), .int .i64 (H : Int), .int .i64 (K : Int)], .int .i64 (i : Int)] w fun e w' => e = .returned (.tuple #[.slice none 0 0, .slice none 0 0, .float .f64 0, .int .i64 61]) ∧ Below w.heap.size w w') := by
  obtain ⟨c1, h1, k1, hch⟩ := hw.sz
  obtain ⟨hC, hH, hK⟩ := le_prod3 c1 h1 k1 hch
  obtain ⟨f1, f2, f3, f4, f5, f6, f7, f8, f9, f10, f11, f12⟩ := hw.f
  have dd1 : 1 ≤ D1 := by rw [hw.d.1]; exact Nat.le_add_left 1 _
  have dd2 : 1 ≤ D2 := by rw [hw.d.2]; exact Nat.le_add_left 1 _
  obtain ⟨o1, hto⟩ := hw.t
  obtain ⟨ho256, hD1, hD2⟩ := le_prod3 o1 dd1 dd2 hto
  have hsz : szF [(C : Int), (H : Int), (K : Int)] 1 = (((C * H * K : Nat) : Int), 0) := by
    have e1 : (C : Int) * (H : Int) ≤ 256 := by rw [← Int.natCast_mul]; have := Nat.le_mul_of_pos_right (C * H) (show 0 < K by omega); omega
    have e2 : (C : Int) * (H : Int) * (K : Int) = ((C * H * K : Nat) : Int) := by rw [← Int.natCast_mul, ← Int.natCast_mul]
    rw [szF_mk (by omega) (by omega) (by omega) e1 (by rw [e2]; generalize C * H * K = x at hch ⊢; omega), e2]
  have hst : szF [(o : Int), (D1 : Int), (D2 : Int)] 1 = (((o * D1 * D2 : Nat) : Int), 0) := by
    have e1 : (o : Int) * (D1 : Int) ≤ 256 := by rw [← Int.natCast_mul]; have := Nat.le_mul_of_pos_right (o * D1) (show 0 < D2 by omega); omega
    have e2 : (o : Int) * (D1 : Int) * (D2 : Int) = ((o * D1 * D2 : Nat) : Int) := by rw [← Int.natCast_mul, ← Int.natCast_mul]
    rw [szF_mk (by omega) (by omega) (by omega) e1 (by rw [e2]; generalize o * D1 * D2 = x at hto ⊢; omega), e2]
  have hk1 : IntKind.i64.wrap ((KH : Int) - 1) = (KH : Int) - 1 := by rw [IntKind.wrap_i64]; omega
  have hk2 : IntKind.i64.wrap ((KW : Int) - 1) = (KW : Int) - 1 := by rw [IntKind.wrap_i64]; omega
  have t1 : ((H : Int) + 2 * PH - KH).tdiv (SH : Int) + 1 = (D1 : Int) := by
    rw [show (H : Int) + 2 * PH - KH = ((H + 2 * PH - KH : Nat) : Int) by omega, tdivN, hw.d.1]; omega
  have t2 : ((K : Int) + 2 * PW - KW).tdiv (SW : Int) + 1 = (D2 : Int) := by
    rw [show (K : Int) + 2 * PW - KW = ((K + 2 * PW - KW : Nat) : Int) by omega, tdivN, hw.d.2]; omega
  have hW1 := fun w => windowsQ_any (H : Int) PH KH SH _ rfl (by omega) (by omega) (by omega) (by omega) (by omega) w
  have hW2 := fun w => windowsQ_any (K : Int) PW KW SW _ rfl (by omega) (by omega) (by omega) (by omega) (by omega) w
  rw [t1] at hW1
  rw [t2] at hW2
  have hfit := fun (v1 v2 v3 v4 : Value) (w : World) => fit_ok 0 0 1 16 1 16 1 16 1 16 0 ((KH : Int) - 1) 0 ((KW : Int) - 1) 0 0 0 (o : Int) (D1 : Int) (D2 : Int) 0 0 0 0 (C : Int) (H : Int) (K : Int) ((C * H * K : Nat) : Int) ((o * D1 * D2 : Nat) : Int) (.int .i64 12) (.int .i64 0) (.int .i64 (KH : Int)) (.int .i64 (KW : Int)) (.int .i64 (SH : Int)) (.int .i64 (SW : Int)) (.int .i64 (PH : Int)) (.int .i64 (PW : Int)) (.int .i64 0) (.float .f64 0) v1 v2 v3 v4 w
    (fun w => by rw [ho]; exact formMax_any 0 (KH : Int) (KW : Int) (SH : Int) (SW : Int) (PH : Int) (PW : Int) 0 0 v1 v2 v3 v4 (C : Int) (H : Int) (K : Int) ((KH : Int) - 1) ((KW : Int) - 1) (D1 : Int) (D2 : Int) hk1 hk2 hW1 hW2 w)
    (fun w => fields_ok 0 1 1 1 1 0 0 0 0 16 16 16 16 ((KH : Int) - 1) ((KW : Int) - 1) 0 0 (KH : Int) (KW : Int) (SH : Int) (SW : Int) (PH : Int) (PW : Int) 0 (o : Int) (D1 : Int) (D2 : Int) 0 0 0 0 12 v1 v2 v3 v4 (by omega) (by omega) (by omega) (by omega) (by omega) (by omega) (by omega) (by omega) w) hsz hst
  have hout := fun (v1 v2 v3 v4 : Value) (w : World) => outOf 0 0 1 16 1 16 1 16 1 16 0 ((KH : Int) - 1) 0 ((KW : Int) - 1) 0 0 0 (o : Int) (D1 : Int) (D2 : Int) 0 0 0 0 (C : Int) (H : Int) (K : Int) (.int .i64 12) (.int .i64 0) (.int .i64 (KH : Int)) (.int .i64 (KW : Int)) (.int .i64 (SH : Int)) (.int .i64 (SW : Int)) (.int .i64 (PH : Int)) (.int .i64 (PW : Int)) (.int .i64 0) (.float .f64 0) v1 v2 v3 v4 w (hfit v1 v2 v3 v4)
  have hlis := fun (v1 v2 v3 v4 : Value) (w : World) => listsOf 0 0 1 16 1 16 1 16 1 16 0 ((KH : Int) - 1) 0 ((KW : Int) - 1) 0 0 0 (o : Int) (D1 : Int) (D2 : Int) 0 0 0 0 (C : Int) (H : Int) (K : Int) (.int .i64 12) (.int .i64 0) (.int .i64 (KH : Int)) (.int .i64 (KW : Int)) (.int .i64 (SH : Int)) (.int .i64 (SW : Int)) (.int .i64 (PH : Int)) (.int .i64 (PW : Int)) (.int .i64 0) (.float .f64 0) v1 v2 v3 v4 w (hfit v1 v2 v3 v4)
  have hcnt := fun (v1 v2 v3 v4 : Value) (w : World) => countOf (C : Int) (H : Int) (K : Int) (o : Int) (D1 : Int) (D2 : Int) ((o * D1 * D2 : Nat) : Int) (.int .i64 12) (.int .i64 0) (.int .i64 (KH : Int)) (.int .i64 (KW : Int)) (.int .i64 (SH : Int)) (.int .i64 (SW : Int)) (.int .i64 (PH : Int)) (.int .i64 (PW : Int)) (.int .i64 0) (.float .f64 0) v1 v2 v3 v4 w (hout v1 v2 v3 v4) hst
  refine ⟨fun w => hcnt _ _ _ _ w, fun i hi => ?_⟩
  have ok := psW_ok false hw (fun _ => ho) hi
  have htol := fun (v1 v2 v3 v4 : Value) (w : World) => toldOf (C : Int) (H : Int) (K : Int) ((o * D1 * D2 : Nat) : Int) (i : Int) (.int .i64 12) (.int .i64 0) (.int .i64 (KH : Int)) (.int .i64 (KW : Int)) (.int .i64 (SH : Int)) (.int .i64 (SW : Int)) (.int .i64 (PH : Int)) (.int .i64 (PW : Int)) (.int .i64 0) (.float .f64 0) v1 v2 v3 v4 w (hcnt v1 v2 v3 v4) (by omega) (by omega)
  have hD : 1 ≤ D1 * D2 := Nat.mul_pos dd1 dd2
  have hDle : D1 * D2 ≤ 256 := by have := Nat.le_mul_of_pos_left (D1 * D2) (show 0 < o by omega); rw [← Nat.mul_assoc] at this; omega
  have hi256 : i < 256 := by omega
  have hq : i / (D1 * D2) < o := (Nat.div_lt_iff_lt_mul hD).2 (by rw [← Nat.mul_assoc]; exact hi)
  have hr : i / D2 % D1 < D1 := Nat.mod_lt _ dd1
  have hs : i % D2 < D2 := Nat.mod_lt _ dd2
  have hti : i / D2 ≤ i := Nat.div_le_self _ _
  have hP := fun (w : World) => placeOf_any (i : Int) (o : Int) (D1 : Int) (D2 : Int) ((D1 * D2 : Nat) : Int) ((i / (D1 * D2) : Nat) : Int) ((i / D2 : Nat) : Int) ((i / D2 % D1 : Nat) : Int) ((i % D2 : Nat) : Int) (by rw [← Int.natCast_mul, IntKind.wrap_i64]; generalize D1 * D2 = x at hDle ⊢; omega) (by generalize D1 * D2 = x at hD ⊢; omega) (by omega) (by omega)
    (by rw [tdivN]; unfold wrap64; generalize i / (D1 * D2) = x at hq ⊢; omega) (by rw [tdivN]; unfold wrap64; generalize i / D2 = x at hti ⊢; omega) rfl rfl w
  have b1 : ((i / D2 % D1 : Nat) : Int) * SH ≤ 256 * 16 := by
    have : (i / D2 % D1) * SH ≤ 256 * 16 := Nat.mul_le_mul (by omega) f6
    rw [← Int.natCast_mul]; omega
  have b2 : ((i % D2 : Nat) : Int) * SW ≤ 256 * 16 := by
    have : (i % D2) * SW ≤ 256 * 16 := Nat.mul_le_mul (by omega) f8
    rw [← Int.natCast_mul]; omega
  have b3 : 0 ≤ ((i / D2 % D1 : Nat) : Int) * (SH : Int) := Int.mul_nonneg (by omega) (by omega)
  have b4 : 0 ≤ ((i % D2 : Nat) : Int) * (SW : Int) := Int.mul_nonneg (by omega) (by omega)
  have hwin := fun (v1 v2 v3 v4 : Value) (w : World) => windowX_any 0 (KH : Int) (KW : Int) (SH : Int) (SW : Int) (PH : Int) (PW : Int) 0 0 v1 v2 v3 v4 (C : Int) (H : Int) (K : Int) ((i / (D1 * D2) : Nat) : Int) ((i / D2 % D1 : Nat) : Int) ((i % D2 : Nat) : Int) (((i / D2 % D1 : Nat) : Int) * SH) (((i / D2 % D1 : Nat) : Int) * SH - PH) (((i % D2 : Nat) : Int) * SW) (((i % D2 : Nat) : Int) * SW - PW) ((((i / D2 % D1 : Nat) : Int) * SH - PH) + KH) ((((i % D2 : Nat) : Int) * SW - PW) + KW) (((i / (D1 * D2) : Nat) : Int) + 1) (by rw [IntKind.wrap_i64]; omega) (by rw [IntKind.wrap_i64]; omega) (by rw [IntKind.wrap_i64]; omega) (by rw [IntKind.wrap_i64]; omega) (by rw [IntKind.wrap_i64]; omega) (by rw [IntKind.wrap_i64]; omega) (by rw [IntKind.wrap_i64]; generalize i / (D1 * D2) = x at hq ⊢; omega) w
  have hwit := fun (v1 v2 v3 v4 : Value) (w : World) => withinP_any (.int .i64 12) (.int .i64 0) (.int .i64 (KH : Int)) (.int .i64 (KW : Int)) (.int .i64 (SH : Int)) (.int .i64 (SW : Int)) (.int .i64 (PH : Int)) (.int .i64 (PW : Int)) (.int .i64 0) (.float .f64 0) v1 v2 v3 v4 (C : Int) (H : Int) (K : Int) ((i / (D1 * D2) : Nat) : Int) ((i / D2 % D1 : Nat) : Int) ((i % D2 : Nat) : Int) ((i / (D1 * D2) : Nat) : Int) (((i / D2 % D1 : Nat) : Int) * SH - PH) (((i % D2 : Nat) : Int) * SW - PW) (((i / (D1 * D2) : Nat) : Int) + 1) ((((i / D2 % D1 : Nat) : Int) * SH - PH) + KH) ((((i % D2 : Nat) : Int) * SW - PW) + KW) _ _ _ _ (hwin v1 v2 v3 v4) (by generalize i / (D1 * D2) = x at hq ⊢; omega) rfl rfl rfl rfl (by omega) (by omega) (by omega) (by omega) (by omega) (by omega) (by omega) w
  have hps : psW false C H K KH KW SH SW PH PW D1 D2 i = csP ((i / (D1 * D2) : Nat) : Int) (((i / (D1 * D2) : Nat) : Int) + 1) (max (((i / D2 % D1 : Nat) : Int) * SH - PH) 0) (min ((((i / D2 % D1 : Nat) : Int) * SH - PH) + KH) (H : Int)) (max (((i % D2 : Nat) : Int) * SW - PW) 0) (min ((((i % D2 : Nat) : Int) * SW - PW) + KW) (K : Int)) := by unfold psW; simp
  rw [← hps] at hwit
  have hidx : ∀ p, p ∈ psW false C H K KH KW SH SW PH PW D1 D2 i → ∀ w, Calls Try.prog 28 #[.agg #[.int .i64 p.1, .int .i64 p.2.1, .int .i64 p.2.2], .agg #[.int .i64 (C : Int), .int .i64 (H : Int), .int .i64 (K : Int)]] w fun e w' => e = .returned (.int .i64 (ixW H K p)) ∧ Below w.heap.size w w' := fun p hp w => by
    obtain ⟨y1, y2, y3, _⟩ := ok.mem p hp
    obtain ⟨z1, z2, _⟩ := ixW_in (C := (C : Int)) y1 y2 y3
    have z3 : (C : Int) * H * K ≤ 256 := by rw [← Int.natCast_mul, ← Int.natCast_mul]; omega
    have n0 : 0 ≤ p.1 * (H : Int) := Int.mul_nonneg y1.1 (by omega)
    have n1 : 0 ≤ (p.1 * H + p.2.1) * (K : Int) := Int.mul_nonneg (by omega) (by omega)
    have n2 : (p.1 * H + p.2.1) * 1 ≤ (p.1 * H + p.2.1) * (K : Int) := Int.mul_le_mul_of_nonneg_left (by omega) (by omega)
    unfold ixW at z1 z2
    exact index_any p.1 p.2.1 p.2.2 (C : Int) (H : Int) (K : Int) (p.1 * H) (p.1 * H + p.2.1) ((p.1 * H + p.2.1) * K) (ixW H K p) (by rw [IntKind.wrap_i64]; omega) (by rw [IntKind.wrap_i64]; omega) (by rw [IntKind.wrap_i64]; omega) (by unfold ixW; rw [IntKind.wrap_i64]; omega) w
  refine ⟨fun w => window_all 12 (C : Int) (H : Int) (K : Int) (o : Int) (D1 : Int) (D2 : Int) ((i / (D1 * D2) : Nat) : Int) ((i / D2 % D1 : Nat) : Int) ((i % D2 : Nat) : Int) (i : Int) (by decide) (.int .i64 0) (.int .i64 (KH : Int)) (.int .i64 (KW : Int)) (.int .i64 (SH : Int)) (.int .i64 (SW : Int)) (.int .i64 (PH : Int)) (.int .i64 (PW : Int)) (.int .i64 0) (.float .f64 0) (.slice wo 0 wc) (.slice bo 0 bc) (.slice zo 0 zc) (.slice yo 0 yc) _ (ixW H K) (by have := ok.le2; omega) (hout _ _ _ _) (htol _ _ _ _) hP (hwit _ _ _ _) hidx w, ?_⟩
  exact fun w => row_bent (C : Int) (H : Int) (K : Int) (i : Int) (.int .i64 0) (.int .i64 (KH : Int)) (.int .i64 (KW : Int)) (.int .i64 (SH : Int)) (.int .i64 (SW : Int)) (.int .i64 (PH : Int)) (.int .i64 (PW : Int)) (.int .i64 0) (.float .f64 0) _ _ _ _ _ _ _ _ w (hlis _ _ _ _)
set_option maxRecDepth 100000 in
set_option maxHeartbeats 8000000 in
theorem kit4 {C H K KH KW SH SW PH PW o D1 D2 : Nat} (AV : Nat) (hA : AV < 18446744073709551616) (hF : Fin AV) (hw : WK 0 (KH : Int) (KW : Int) (SH : Int) (SW : Int) (PH : Int) (PW : Int) (C : Int) (H : Int) (K : Int) C H K KH KW SH SW PH PW o D1 D2) (ho : o = C) (wo bo zo yo : Option Addr) (wc bc zc yc : Nat) :
    (∀ w, Calls Try.prog 11 #[.agg #[.int .i64 4, .int .i64 0, .int .i64 (KH : Int), .int .i64 (KW : Int), .int .i64 (SH : Int), .int .i64 (SW : Int), .int .i64 (PH : Int), .int .i64 (PW : Int), .int .i64 0, .float .f64 AV, .slice wo 0 wc, .slice bo 0 bc, .slice zo 0 zc, .slice yo 0 yc], .agg #[.int .i64 (C : Int), .int .i64 (H : Int), .int .i64 (K : Int)]] w fun e w' => e = .returned (.tuple #[.int .i64 ((o * D1 * D2 : Nat) : Int), .int .i64 0]) ∧ Below w.heap.size w w') ∧
    ∀ i : Nat, i < o * D1 * D2 → (∀ w, Calls Try.prog 13 #[.agg #[.int .i64 4, .int .i64 0, .int .i64 (KH : Int), .int .i64 (KW : Int), .int .i64 (SH : Int), .int .i64 (SW : Int), .int .i64 (PH : Int), .int .i64 (PW : Int), .int .i64 0, .float .f64 AV, .slice wo 0 wc, .slice bo 0 bc, .slice zo 0 zc, .slice yo 0 yc], .agg #[.int .i64 (C : Int), .int .i64 (H : Int), .int .i64 (K : Int)], .int .i64 (i : Int)] w fun e w' => ∃ v, e = .returned (.tuple #[v, .int .i64 0]) ∧ OwnM w' w.heap.size 3 v (inV ((psW false C H K KH KW SH SW PH PW D1 D2 i).map (ixW H K))) ∧ Below w.heap.size w w') ∧
      (∀ w : World, Calls Try.prog 12 #[.agg #[.int .i64 4, .int .i64 0, .int .i64 (KH : Int), .int .i64 (KW : Int), .int .i64 (SH : Int), .int .i64 (SW : Int), .int .i64 (PH : Int), .int .i64 (PW : Int), .int .i64 0, .float .f64 AV, .slice wo 0 wc, .slice bo 0 bc, .slice zo 0 zc, .slice yo 0 yc], .agg #[.int .i64 (C : Int), .int .i64 (H : Int), .int .i64 (K : Int)], .int .i64 (i : Int)] w fun e w' => ∃ v1 v2 b ws, e = .returned (.tuple #[v1, v2, .float .f64 b, .int .i64 0]) ∧ RowV w' w.heap.size v1 v2 ((psW false C H K KH KW SH SW PH PW D1 D2 i).map (ixW H K)) ws ∧ Below w.heap.size w w') := by
  obtain ⟨c1, h1, k1, hch⟩ := hw.sz
  obtain ⟨hC, hH, hK⟩ := le_prod3 c1 h1 k1 hch
  obtain ⟨f1, f2, f3, f4, f5, f6, f7, f8, f9, f10, f11, f12⟩ := hw.f
  have dd1 : 1 ≤ D1 := by rw [hw.d.1]; exact Nat.le_add_left 1 _
  have dd2 : 1 ≤ D2 := by rw [hw.d.2]; exact Nat.le_add_left 1 _
  obtain ⟨o1, hto⟩ := hw.t
  obtain ⟨ho256, hD1, hD2⟩ := le_prod3 o1 dd1 dd2 hto
  have hsz : szF [(C : Int), (H : Int), (K : Int)] 1 = (((C * H * K : Nat) : Int), 0) := by
    have e1 : (C : Int) * (H : Int) ≤ 256 := by rw [← Int.natCast_mul]; have := Nat.le_mul_of_pos_right (C * H) (show 0 < K by omega); omega
    have e2 : (C : Int) * (H : Int) * (K : Int) = ((C * H * K : Nat) : Int) := by rw [← Int.natCast_mul, ← Int.natCast_mul]
    rw [szF_mk (by omega) (by omega) (by omega) e1 (by rw [e2]; generalize C * H * K = x at hch ⊢; omega), e2]
  have hst : szF [(o : Int), (D1 : Int), (D2 : Int)] 1 = (((o * D1 * D2 : Nat) : Int), 0) := by
    have e1 : (o : Int) * (D1 : Int) ≤ 256 := by rw [← Int.natCast_mul]; have := Nat.le_mul_of_pos_right (o * D1) (show 0 < D2 by omega); omega
    have e2 : (o : Int) * (D1 : Int) * (D2 : Int) = ((o * D1 * D2 : Nat) : Int) := by rw [← Int.natCast_mul, ← Int.natCast_mul]
    rw [szF_mk (by omega) (by omega) (by omega) e1 (by rw [e2]; generalize o * D1 * D2 = x at hto ⊢; omega), e2]
  have hk1 : IntKind.i64.wrap ((KH : Int) - 1) = (KH : Int) - 1 := by rw [IntKind.wrap_i64]; omega
  have hk2 : IntKind.i64.wrap ((KW : Int) - 1) = (KW : Int) - 1 := by rw [IntKind.wrap_i64]; omega
  have t1 : ((H : Int) + 2 * PH - KH).tdiv (SH : Int) + 1 = (D1 : Int) := by
    rw [show (H : Int) + 2 * PH - KH = ((H + 2 * PH - KH : Nat) : Int) by omega, tdivN, hw.d.1]; omega
  have t2 : ((K : Int) + 2 * PW - KW).tdiv (SW : Int) + 1 = (D2 : Int) := by
    rw [show (K : Int) + 2 * PW - KW = ((K + 2 * PW - KW : Nat) : Int) by omega, tdivN, hw.d.2]; omega
  have hW1 := fun w => windowsQ_any (H : Int) PH KH SH _ rfl (by omega) (by omega) (by omega) (by omega) (by omega) w
  have hW2 := fun w => windowsQ_any (K : Int) PW KW SW _ rfl (by omega) (by omega) (by omega) (by omega) (by omega) w
  rw [t1] at hW1
  rw [t2] at hW2
  have hfit := fun (v1 v2 v3 v4 : Value) (w : World) => fit_ok 0 0 1 16 1 16 1 16 1 16 0 ((KH : Int) - 1) 0 ((KW : Int) - 1) 0 0 1 (o : Int) (D1 : Int) (D2 : Int) 0 0 0 0 (C : Int) (H : Int) (K : Int) ((C * H * K : Nat) : Int) ((o * D1 * D2 : Nat) : Int) (.int .i64 4) (.int .i64 0) (.int .i64 (KH : Int)) (.int .i64 (KW : Int)) (.int .i64 (SH : Int)) (.int .i64 (SW : Int)) (.int .i64 (PH : Int)) (.int .i64 (PW : Int)) (.int .i64 0) (.float .f64 AV) v1 v2 v3 v4 w
    (fun w => by rw [ho]; exact formMean_any 0 (KH : Int) (KW : Int) (SH : Int) (SW : Int) (PH : Int) (PW : Int) 0 AV v1 v2 v3 v4 (C : Int) (H : Int) (K : Int) ((KH : Int) - 1) ((KW : Int) - 1) (D1 : Int) (D2 : Int) hk1 hk2 hW1 hW2 w)
    (fun w => fieldsA_ok AV hA hF 0 1 1 1 1 0 0 0 0 16 16 16 16 ((KH : Int) - 1) ((KW : Int) - 1) 0 0 (KH : Int) (KW : Int) (SH : Int) (SW : Int) (PH : Int) (PW : Int) 0 (o : Int) (D1 : Int) (D2 : Int) 0 0 0 0 4 v1 v2 v3 v4 (by omega) (by omega) (by omega) (by omega) (by omega) (by omega) (by omega) (by omega) w) hsz hst
  have hout := fun (v1 v2 v3 v4 : Value) (w : World) => outOf 0 0 1 16 1 16 1 16 1 16 0 ((KH : Int) - 1) 0 ((KW : Int) - 1) 0 0 1 (o : Int) (D1 : Int) (D2 : Int) 0 0 0 0 (C : Int) (H : Int) (K : Int) (.int .i64 4) (.int .i64 0) (.int .i64 (KH : Int)) (.int .i64 (KW : Int)) (.int .i64 (SH : Int)) (.int .i64 (SW : Int)) (.int .i64 (PH : Int)) (.int .i64 (PW : Int)) (.int .i64 0) (.float .f64 AV) v1 v2 v3 v4 w (hfit v1 v2 v3 v4)
  have hlis := fun (v1 v2 v3 v4 : Value) (w : World) => listsOf 0 0 1 16 1 16 1 16 1 16 0 ((KH : Int) - 1) 0 ((KW : Int) - 1) 0 0 1 (o : Int) (D1 : Int) (D2 : Int) 0 0 0 0 (C : Int) (H : Int) (K : Int) (.int .i64 4) (.int .i64 0) (.int .i64 (KH : Int)) (.int .i64 (KW : Int)) (.int .i64 (SH : Int)) (.int .i64 (SW : Int)) (.int .i64 (PH : Int)) (.int .i64 (PW : Int)) (.int .i64 0) (.float .f64 AV) v1 v2 v3 v4 w (hfit v1 v2 v3 v4)
  have hcnt := fun (v1 v2 v3 v4 : Value) (w : World) => countOf (C : Int) (H : Int) (K : Int) (o : Int) (D1 : Int) (D2 : Int) ((o * D1 * D2 : Nat) : Int) (.int .i64 4) (.int .i64 0) (.int .i64 (KH : Int)) (.int .i64 (KW : Int)) (.int .i64 (SH : Int)) (.int .i64 (SW : Int)) (.int .i64 (PH : Int)) (.int .i64 (PW : Int)) (.int .i64 0) (.float .f64 AV) v1 v2 v3 v4 w (hout v1 v2 v3 v4) hst
  refine ⟨fun w => hcnt _ _ _ _ w, fun i hi => ?_⟩
  have ok := psW_ok false hw (fun _ => ho) hi
  have htol := fun (v1 v2 v3 v4 : Value) (w : World) => toldOf (C : Int) (H : Int) (K : Int) ((o * D1 * D2 : Nat) : Int) (i : Int) (.int .i64 4) (.int .i64 0) (.int .i64 (KH : Int)) (.int .i64 (KW : Int)) (.int .i64 (SH : Int)) (.int .i64 (SW : Int)) (.int .i64 (PH : Int)) (.int .i64 (PW : Int)) (.int .i64 0) (.float .f64 AV) v1 v2 v3 v4 w (hcnt v1 v2 v3 v4) (by omega) (by omega)
  have hD : 1 ≤ D1 * D2 := Nat.mul_pos dd1 dd2
  have hDle : D1 * D2 ≤ 256 := by have := Nat.le_mul_of_pos_left (D1 * D2) (show 0 < o by omega); rw [← Nat.mul_assoc] at this; omega
  have hi256 : i < 256 := by omega
  have hq : i / (D1 * D2) < o := (Nat.div_lt_iff_lt_mul hD).2 (by rw [← Nat.mul_assoc]; exact hi)
  have hr : i / D2 % D1 < D1 := Nat.mod_lt _ dd1
  have hs : i % D2 < D2 := Nat.mod_lt _ dd2
  have hti : i / D2 ≤ i := Nat.div_le_self _ _
  have hP := fun (w : World) => placeOf_any (i : Int) (o : Int) (D1 : Int) (D2 : Int) ((D1 * D2 : Nat) : Int) ((i / (D1 * D2) : Nat) : Int) ((i / D2 : Nat) : Int) ((i / D2 % D1 : Nat) : Int) ((i % D2 : Nat) : Int) (by rw [← Int.natCast_mul, IntKind.wrap_i64]; generalize D1 * D2 = x at hDle ⊢; omega) (by generalize D1 * D2 = x at hD ⊢; omega) (by omega) (by omega)
    (by rw [tdivN]; unfold wrap64; generalize i / (D1 * D2) = x at hq ⊢; omega) (by rw [tdivN]; unfold wrap64; generalize i / D2 = x at hti ⊢; omega) rfl rfl w
  have b1 : ((i / D2 % D1 : Nat) : Int) * SH ≤ 256 * 16 := by
    have : (i / D2 % D1) * SH ≤ 256 * 16 := Nat.mul_le_mul (by omega) f6
    rw [← Int.natCast_mul]; omega
  have b2 : ((i % D2 : Nat) : Int) * SW ≤ 256 * 16 := by
    have : (i % D2) * SW ≤ 256 * 16 := Nat.mul_le_mul (by omega) f8
    rw [← Int.natCast_mul]; omega
  have b3 : 0 ≤ ((i / D2 % D1 : Nat) : Int) * (SH : Int) := Int.mul_nonneg (by omega) (by omega)
  have b4 : 0 ≤ ((i % D2 : Nat) : Int) * (SW : Int) := Int.mul_nonneg (by omega) (by omega)
  have hwin := fun (v1 v2 v3 v4 : Value) (w : World) => windowM_any 0 (KH : Int) (KW : Int) (SH : Int) (SW : Int) (PH : Int) (PW : Int) 0 AV v1 v2 v3 v4 (C : Int) (H : Int) (K : Int) ((i / (D1 * D2) : Nat) : Int) ((i / D2 % D1 : Nat) : Int) ((i % D2 : Nat) : Int) (((i / D2 % D1 : Nat) : Int) * SH) (((i / D2 % D1 : Nat) : Int) * SH - PH) (((i % D2 : Nat) : Int) * SW) (((i % D2 : Nat) : Int) * SW - PW) ((((i / D2 % D1 : Nat) : Int) * SH - PH) + KH) ((((i % D2 : Nat) : Int) * SW - PW) + KW) (((i / (D1 * D2) : Nat) : Int) + 1) (by rw [IntKind.wrap_i64]; omega) (by rw [IntKind.wrap_i64]; omega) (by rw [IntKind.wrap_i64]; omega) (by rw [IntKind.wrap_i64]; omega) (by rw [IntKind.wrap_i64]; omega) (by rw [IntKind.wrap_i64]; omega) (by rw [IntKind.wrap_i64]; generalize i / (D1 * D2) = x at hq ⊢; omega) w
  have hwit := fun (v1 v2 v3 v4 : Value) (w : World) => withinP_any (.int .i64 4) (.int .i64 0) (.int .i64 (KH : Int)) (.int .i64 (KW : Int)) (.int .i64 (SH : Int)) (.int .i64 (SW : Int)) (.int .i64 (PH : Int)) (.int .i64 (PW : Int)) (.int .i64 0) (.float .f64 AV) v1 v2 v3 v4 (C : Int) (H : Int) (K : Int) ((i / (D1 * D2) : Nat) : Int) ((i / D2 % D1 : Nat) : Int) ((i % D2 : Nat) : Int) ((i / (D1 * D2) : Nat) : Int) (((i / D2 % D1 : Nat) : Int) * SH - PH) (((i % D2 : Nat) : Int) * SW - PW) (((i / (D1 * D2) : Nat) : Int) + 1) ((((i / D2 % D1 : Nat) : Int) * SH - PH) + KH) ((((i % D2 : Nat) : Int) * SW - PW) + KW) _ _ _ _ (hwin v1 v2 v3 v4) (by generalize i / (D1 * D2) = x at hq ⊢; omega) rfl rfl rfl rfl (by omega) (by omega) (by omega) (by omega) (by omega) (by omega) (by omega) w
  have hps : psW false C H K KH KW SH SW PH PW D1 D2 i = csP ((i / (D1 * D2) : Nat) : Int) (((i / (D1 * D2) : Nat) : Int) + 1) (max (((i / D2 % D1 : Nat) : Int) * SH - PH) 0) (min ((((i / D2 % D1 : Nat) : Int) * SH - PH) + KH) (H : Int)) (max (((i % D2 : Nat) : Int) * SW - PW) 0) (min ((((i % D2 : Nat) : Int) * SW - PW) + KW) (K : Int)) := by unfold psW; simp
  rw [← hps] at hwit
  have hidx : ∀ p, p ∈ psW false C H K KH KW SH SW PH PW D1 D2 i → ∀ w, Calls Try.prog 28 #[.agg #[.int .i64 p.1, .int .i64 p.2.1, .int .i64 p.2.2], .agg #[.int .i64 (C : Int), .int .i64 (H : Int), .int .i64 (K : Int)]] w fun e w' => e = .returned (.int .i64 (ixW H K p)) ∧ Below w.heap.size w w' := fun p hp w => by
    obtain ⟨y1, y2, y3, _⟩ := ok.mem p hp
    obtain ⟨z1, z2, _⟩ := ixW_in (C := (C : Int)) y1 y2 y3
    have z3 : (C : Int) * H * K ≤ 256 := by rw [← Int.natCast_mul, ← Int.natCast_mul]; omega
    have n0 : 0 ≤ p.1 * (H : Int) := Int.mul_nonneg y1.1 (by omega)
    have n1 : 0 ≤ (p.1 * H + p.2.1) * (K : Int) := Int.mul_nonneg (by omega) (by omega)
    have n2 : (p.1 * H + p.2.1) * 1 ≤ (p.1 * H + p.2.1) * (K : Int) := Int.mul_le_mul_of_nonneg_left (by omega) (by omega)
    unfold ixW at z1 z2
    exact index_any p.1 p.2.1 p.2.2 (C : Int) (H : Int) (K : Int) (p.1 * H) (p.1 * H + p.2.1) ((p.1 * H + p.2.1) * K) (ixW H K p) (by rw [IntKind.wrap_i64]; omega) (by rw [IntKind.wrap_i64]; omega) (by rw [IntKind.wrap_i64]; omega) (by unfold ixW; rw [IntKind.wrap_i64]; omega) w
  refine ⟨fun w => window_all 4 (C : Int) (H : Int) (K : Int) (o : Int) (D1 : Int) (D2 : Int) ((i / (D1 * D2) : Nat) : Int) ((i / D2 % D1 : Nat) : Int) ((i % D2 : Nat) : Int) (i : Int) (by decide) (.int .i64 0) (.int .i64 (KH : Int)) (.int .i64 (KW : Int)) (.int .i64 (SH : Int)) (.int .i64 (SW : Int)) (.int .i64 (PH : Int)) (.int .i64 (PW : Int)) (.int .i64 0) (.float .f64 AV) (.slice wo 0 wc) (.slice bo 0 bc) (.slice zo 0 zc) (.slice yo 0 yc) _ (ixW H K) (by have := ok.le2; omega) (hout _ _ _ _) (htol _ _ _ _) hP (hwit _ _ _ _) hidx w, ?_⟩
  intro w
  have hhav := fun (w : World) => haveOf 4 (C : Int) (H : Int) (K : Int) (i : Int) (.int .i64 0) (.int .i64 (KH : Int)) (.int .i64 (KW : Int)) (.int .i64 (SH : Int)) (.int .i64 (SW : Int)) (.int .i64 (PH : Int)) (.int .i64 (PW : Int)) (.int .i64 0) (.float .f64 AV) wo bo zo yo 0 wc 0 bc 0 zc 0 yc w ⟨by omega, by omega⟩ (by decide) (hlis _ _ _ _) (htol _ _ _ _)
  refine Calls.mono (rowFrom (C : Int) (H : Int) (K : Int) (i : Int) (.int .i64 4) (.int .i64 0) (.int .i64 (KH : Int)) (.int .i64 (KW : Int)) (.int .i64 (SH : Int)) (.int .i64 (SW : Int)) (.int .i64 (PH : Int)) (.int .i64 (PW : Int)) (.int .i64 0) (.float .f64 AV) _ _ _ _ _ _ _ w hhav fun wx hb => rowOfMean (C : Int) (H : Int) (K : Int) (i : Int) (.int .i64 0) (.int .i64 (KH : Int)) (.int .i64 (KW : Int)) (.int .i64 (SH : Int)) (.int .i64 (SW : Int)) (.int .i64 (PH : Int)) (.int .i64 (PW : Int)) (.int .i64 0) (.float .f64 AV) _ _ _ _ _ _ _ wx fun wy hb' => meanRow_any (.int .i64 4) (.int .i64 0) (.int .i64 (KH : Int)) (.int .i64 (KW : Int)) (.int .i64 (SH : Int)) (.int .i64 (SW : Int)) (.int .i64 (PH : Int)) (.int .i64 (PW : Int)) (.int .i64 0) _ _ _ _ AV (C : Int) (H : Int) (K : Int) (o : Int) (D1 : Int) (D2 : Int) ((i / (D1 * D2) : Nat) : Int) ((i / D2 % D1 : Nat) : Int) ((i % D2 : Nat) : Int) (i : Int) (psW false C H K KH KW SH SW PH PW D1 D2 i) (ixW H K) (by have := ok.le2; omega) (hout _ _ _ _) hP (hwit _ _ _ _) hidx wy) ?_
  rintro e w' ⟨v1, v2, h1, h2, h3⟩
  exact ⟨v1, v2, _, _, h1, h2, h3⟩
set_option maxRecDepth 100000 in
set_option maxHeartbeats 8000000 in
theorem kit2 {C H K KH KW SH SW PH PW o D1 D2 : Nat} (hw : WK (o : Int) (KH : Int) (KW : Int) (SH : Int) (SW : Int) (PH : Int) (PW : Int) (C : Int) (H : Int) (K : Int) C H K KH KW SH SW PH PW o D1 D2) (wo bo zo yo : Option Addr) (wc bc zc yc : Nat) (us vs : List Nat) :
    (∀ w, Calls Try.prog 11 #[.agg #[.int .i64 2, .int .i64 (o : Int), .int .i64 (KH : Int), .int .i64 (KW : Int), .int .i64 (SH : Int), .int .i64 (SW : Int), .int .i64 (PH : Int), .int .i64 (PW : Int), .int .i64 0, .float .f64 0, .slice wo (o * C * KH * KW) wc, .slice bo o bc, .slice zo 0 zc, .slice yo 0 yc], .agg #[.int .i64 (C : Int), .int .i64 (H : Int), .int .i64 (K : Int)]] w fun e w' => e = .returned (.tuple #[.int .i64 ((o * D1 * D2 : Nat) : Int), .int .i64 0]) ∧ Below w.heap.size w w') ∧
    ∀ i : Nat, i < o * D1 * D2 → (∀ w, Calls Try.prog 13 #[.agg #[.int .i64 2, .int .i64 (o : Int), .int .i64 (KH : Int), .int .i64 (KW : Int), .int .i64 (SH : Int), .int .i64 (SW : Int), .int .i64 (PH : Int), .int .i64 (PW : Int), .int .i64 0, .float .f64 0, .slice wo (o * C * KH * KW) wc, .slice bo o bc, .slice zo 0 zc, .slice yo 0 yc], .agg #[.int .i64 (C : Int), .int .i64 (H : Int), .int .i64 (K : Int)], .int .i64 (i : Int)] w fun e w' => ∃ v, e = .returned (.tuple #[v, .int .i64 0]) ∧ OwnM w' w.heap.size 3 v (inV ((psW true C H K KH KW SH SW PH PW D1 D2 i).map (ixW H K))) ∧ Below w.heap.size w w') ∧
      (∀ w : World, RdF w wo (o * C * KH * KW) wc us → RdF w bo o bc vs → Calls Try.prog 12 #[.agg #[.int .i64 2, .int .i64 (o : Int), .int .i64 (KH : Int), .int .i64 (KW : Int), .int .i64 (SH : Int), .int .i64 (SW : Int), .int .i64 (PH : Int), .int .i64 (PW : Int), .int .i64 0, .float .f64 0, .slice wo (o * C * KH * KW) wc, .slice bo o bc, .slice zo 0 zc, .slice yo 0 yc], .agg #[.int .i64 (C : Int), .int .i64 (H : Int), .int .i64 (K : Int)], .int .i64 (i : Int)] w fun e w' => ∃ v1 v2 b ws, e = .returned (.tuple #[v1, v2, .float .f64 b, .int .i64 0]) ∧ RowV w' w.heap.size v1 v2 ((psW true C H K KH KW SH SW PH PW D1 D2 i).map (ixW H K)) ws ∧ Below w.heap.size w w') := by
  obtain ⟨c1, h1, k1, hch⟩ := hw.sz
  obtain ⟨hC, hH, hK⟩ := le_prod3 c1 h1 k1 hch
  obtain ⟨f1, f2, f3, f4, f5, f6, f7, f8, f9, f10, f11, f12⟩ := hw.f
  have dd1 : 1 ≤ D1 := by rw [hw.d.1]; exact Nat.le_add_left 1 _
  have dd2 : 1 ≤ D2 := by rw [hw.d.2]; exact Nat.le_add_left 1 _
  obtain ⟨o1, hto⟩ := hw.t
  obtain ⟨ho256, hD1, hD2⟩ := le_prod3 o1 dd1 dd2 hto
  have hsz : szF [(C : Int), (H : Int), (K : Int)] 1 = (((C * H * K : Nat) : Int), 0) := by
    have e1 : (C : Int) * (H : Int) ≤ 256 := by rw [← Int.natCast_mul]; have := Nat.le_mul_of_pos_right (C * H) (show 0 < K by omega); omega
    have e2 : (C : Int) * (H : Int) * (K : Int) = ((C * H * K : Nat) : Int) := by rw [← Int.natCast_mul, ← Int.natCast_mul]
    rw [szF_mk (by omega) (by omega) (by omega) e1 (by rw [e2]; generalize C * H * K = x at hch ⊢; omega), e2]
  have hst : szF [(o : Int), (D1 : Int), (D2 : Int)] 1 = (((o * D1 * D2 : Nat) : Int), 0) := by
    have e1 : (o : Int) * (D1 : Int) ≤ 256 := by rw [← Int.natCast_mul]; have := Nat.le_mul_of_pos_right (o * D1) (show 0 < D2 by omega); omega
    have e2 : (o : Int) * (D1 : Int) * (D2 : Int) = ((o * D1 * D2 : Nat) : Int) := by rw [← Int.natCast_mul, ← Int.natCast_mul]
    rw [szF_mk (by omega) (by omega) (by omega) e1 (by rw [e2]; generalize o * D1 * D2 = x at hto ⊢; omega), e2]
  have hk1 : IntKind.i64.wrap ((KH : Int) - 1) = (KH : Int) - 1 := by rw [IntKind.wrap_i64]; omega
  have hk2 : IntKind.i64.wrap ((KW : Int) - 1) = (KW : Int) - 1 := by rw [IntKind.wrap_i64]; omega
  have t1 : ((H : Int) + 2 * PH - KH).tdiv (SH : Int) + 1 = (D1 : Int) := by
    rw [show (H : Int) + 2 * PH - KH = ((H + 2 * PH - KH : Nat) : Int) by omega, tdivN, hw.d.1]; omega
  have t2 : ((K : Int) + 2 * PW - KW).tdiv (SW : Int) + 1 = (D2 : Int) := by
    rw [show (K : Int) + 2 * PW - KW = ((K + 2 * PW - KW : Nat) : Int) by omega, tdivN, hw.d.2]; omega
  have hW1 := fun w => windowsQ_any (H : Int) PH KH SH _ rfl (by omega) (by omega) (by omega) (by omega) (by omega) w
  have hW2 := fun w => windowsQ_any (K : Int) PW KW SW _ rfl (by omega) (by omega) (by omega) (by omega) (by omega) w
  rw [t1] at hW1
  rw [t2] at hW2
  have m1 : o * C ≤ 256 * 256 := Nat.mul_le_mul ho256 hC
  have m2 : o * C * KH ≤ 256 * 256 * 16 := Nat.mul_le_mul m1 f2
  have m3 : o * C * KH * KW ≤ 256 * 256 * 16 * 16 := Nat.mul_le_mul m2 f4
  have p1 : IntKind.i64.wrap ((o : Int) * (C : Int)) = ((o * C : Nat) : Int) := by rw [← Int.natCast_mul, IntKind.wrap_i64]; generalize o * C = x at m1 ⊢; omega
  have p2 : IntKind.i64.wrap (((o * C : Nat) : Int) * (KH : Int)) = ((o * C * KH : Nat) : Int) := by rw [← Int.natCast_mul, IntKind.wrap_i64]; generalize o * C * KH = x at m2 ⊢; omega
  have p3 : IntKind.i64.wrap (((o * C * KH : Nat) : Int) * (KW : Int)) = ((o * C * KH * KW : Nat) : Int) := by rw [← Int.natCast_mul, IntKind.wrap_i64]; generalize o * C * KH * KW = x at m3 ⊢; omega
  have hfit := fun (v1 v2 v3 v4 : Value) (w : World) => fit_ok 1 256 1 16 1 16 1 16 1 16 0 ((KH : Int) - 1) 0 ((KW : Int) - 1) 0 0 0 (o : Int) (D1 : Int) (D2 : Int) ((o * C * KH * KW : Nat) : Int) (o : Int) 0 0 (C : Int) (H : Int) (K : Int) ((C * H * K : Nat) : Int) ((o * D1 * D2 : Nat) : Int) (.int .i64 2) (.int .i64 (o : Int)) (.int .i64 (KH : Int)) (.int .i64 (KW : Int)) (.int .i64 (SH : Int)) (.int .i64 (SW : Int)) (.int .i64 (PH : Int)) (.int .i64 (PW : Int)) (.int .i64 0) (.float .f64 0) v1 v2 v3 v4 w
    (fun w => formConv_any (o : Int) (KH : Int) (KW : Int) (SH : Int) (SW : Int) (PH : Int) (PW : Int) 0 0 v1 v2 v3 v4 (C : Int) (H : Int) (K : Int) ((KH : Int) - 1) ((KW : Int) - 1) (D1 : Int) (D2 : Int) hk1 hk2 hW1 hW2 ((o * C : Nat) : Int) ((o * C * KH : Nat) : Int) ((o * C * KH * KW : Nat) : Int) p1 p2 p3 w)
    (fun w => fields_ok 1 1 1 1 1 0 0 0 256 16 16 16 16 ((KH : Int) - 1) ((KW : Int) - 1) 0 (o : Int) (KH : Int) (KW : Int) (SH : Int) (SW : Int) (PH : Int) (PW : Int) 0 (o : Int) (D1 : Int) (D2 : Int) ((o * C * KH * KW : Nat) : Int) (o : Int) 0 0 2 v1 v2 v3 v4 (by omega) (by omega) (by omega) (by omega) (by omega) (by omega) (by omega) (by omega) w) hsz hst
  have hout := fun (v1 v2 v3 v4 : Value) (w : World) => outOf 1 256 1 16 1 16 1 16 1 16 0 ((KH : Int) - 1) 0 ((KW : Int) - 1) 0 0 0 (o : Int) (D1 : Int) (D2 : Int) ((o * C * KH * KW : Nat) : Int) (o : Int) 0 0 (C : Int) (H : Int) (K : Int) (.int .i64 2) (.int .i64 (o : Int)) (.int .i64 (KH : Int)) (.int .i64 (KW : Int)) (.int .i64 (SH : Int)) (.int .i64 (SW : Int)) (.int .i64 (PH : Int)) (.int .i64 (PW : Int)) (.int .i64 0) (.float .f64 0) v1 v2 v3 v4 w (hfit v1 v2 v3 v4)
  have hlis := fun (v1 v2 v3 v4 : Value) (w : World) => listsOf 1 256 1 16 1 16 1 16 1 16 0 ((KH : Int) - 1) 0 ((KW : Int) - 1) 0 0 0 (o : Int) (D1 : Int) (D2 : Int) ((o * C * KH * KW : Nat) : Int) (o : Int) 0 0 (C : Int) (H : Int) (K : Int) (.int .i64 2) (.int .i64 (o : Int)) (.int .i64 (KH : Int)) (.int .i64 (KW : Int)) (.int .i64 (SH : Int)) (.int .i64 (SW : Int)) (.int .i64 (PH : Int)) (.int .i64 (PW : Int)) (.int .i64 0) (.float .f64 0) v1 v2 v3 v4 w (hfit v1 v2 v3 v4)
  have hcnt := fun (v1 v2 v3 v4 : Value) (w : World) => countOf (C : Int) (H : Int) (K : Int) (o : Int) (D1 : Int) (D2 : Int) ((o * D1 * D2 : Nat) : Int) (.int .i64 2) (.int .i64 (o : Int)) (.int .i64 (KH : Int)) (.int .i64 (KW : Int)) (.int .i64 (SH : Int)) (.int .i64 (SW : Int)) (.int .i64 (PH : Int)) (.int .i64 (PW : Int)) (.int .i64 0) (.float .f64 0) v1 v2 v3 v4 w (hout v1 v2 v3 v4) hst
  refine ⟨fun w => hcnt _ _ _ _ w, fun i hi => ?_⟩
  have ok := psW_ok true hw (fun h => by cases h) hi
  have htol := fun (v1 v2 v3 v4 : Value) (w : World) => toldOf (C : Int) (H : Int) (K : Int) ((o * D1 * D2 : Nat) : Int) (i : Int) (.int .i64 2) (.int .i64 (o : Int)) (.int .i64 (KH : Int)) (.int .i64 (KW : Int)) (.int .i64 (SH : Int)) (.int .i64 (SW : Int)) (.int .i64 (PH : Int)) (.int .i64 (PW : Int)) (.int .i64 0) (.float .f64 0) v1 v2 v3 v4 w (hcnt v1 v2 v3 v4) (by omega) (by omega)
  have hD : 1 ≤ D1 * D2 := Nat.mul_pos dd1 dd2
  have hDle : D1 * D2 ≤ 256 := by have := Nat.le_mul_of_pos_left (D1 * D2) (show 0 < o by omega); rw [← Nat.mul_assoc] at this; omega
  have hi256 : i < 256 := by omega
  have hq : i / (D1 * D2) < o := (Nat.div_lt_iff_lt_mul hD).2 (by rw [← Nat.mul_assoc]; exact hi)
  have hr : i / D2 % D1 < D1 := Nat.mod_lt _ dd1
  have hs : i % D2 < D2 := Nat.mod_lt _ dd2
  have hti : i / D2 ≤ i := Nat.div_le_self _ _
  have hP := fun (w : World) => placeOf_any (i : Int) (o : Int) (D1 : Int) (D2 : Int) ((D1 * D2 : Nat) : Int) ((i / (D1 * D2) : Nat) : Int) ((i / D2 : Nat) : Int) ((i / D2 % D1 : Nat) : Int) ((i % D2 : Nat) : Int) (by rw [← Int.natCast_mul, IntKind.wrap_i64]; generalize D1 * D2 = x at hDle ⊢; omega) (by generalize D1 * D2 = x at hD ⊢; omega) (by omega) (by omega)
    (by rw [tdivN]; unfold wrap64; generalize i / (D1 * D2) = x at hq ⊢; omega) (by rw [tdivN]; unfold wrap64; generalize i / D2 = x at hti ⊢; omega) rfl rfl w
  have b1 : ((i / D2 % D1 : Nat) : Int) * SH ≤ 256 * 16 := by
    have : (i / D2 % D1) * SH ≤ 256 * 16 := Nat.mul_le_mul (by omega) f6
    rw [← Int.natCast_mul]; omega
  have b2 : ((i % D2 : Nat) : Int) * SW ≤ 256 * 16 := by
    have : (i % D2) * SW ≤ 256 * 16 := Nat.mul_le_mul (by omega) f8
    rw [← Int.natCast_mul]; omega
  have b3 : 0 ≤ ((i / D2 % D1 : Nat) : Int) * (SH : Int) := Int.mul_nonneg (by omega) (by omega)
  have b4 : 0 ≤ ((i % D2 : Nat) : Int) * (SW : Int) := Int.mul_nonneg (by omega) (by omega)
  have hwin := fun (v1 v2 v3 v4 : Value) (w : World) => windowC_any (o : Int) (KH : Int) (KW : Int) (SH : Int) (SW : Int) (PH : Int) (PW : Int) 0 0 v1 v2 v3 v4 (C : Int) (H : Int) (K : Int) ((i / (D1 * D2) : Nat) : Int) ((i / D2 % D1 : Nat) : Int) ((i % D2 : Nat) : Int) (((i / D2 % D1 : Nat) : Int) * SH) (((i / D2 % D1 : Nat) : Int) * SH - PH) (((i % D2 : Nat) : Int) * SW) (((i % D2 : Nat) : Int) * SW - PW) ((((i / D2 % D1 : Nat) : Int) * SH - PH) + KH) ((((i % D2 : Nat) : Int) * SW - PW) + KW) (C : Int) (by rw [IntKind.wrap_i64]; omega) (by rw [IntKind.wrap_i64]; omega) (by rw [IntKind.wrap_i64]; omega) (by rw [IntKind.wrap_i64]; omega) (by rw [IntKind.wrap_i64]; omega) (by rw [IntKind.wrap_i64]; omega) (by rw [IntKind.wrap_i64]; omega) w
  have hwit := fun (v1 v2 v3 v4 : Value) (w : World) => withinP_any (.int .i64 2) (.int .i64 (o : Int)) (.int .i64 (KH : Int)) (.int .i64 (KW : Int)) (.int .i64 (SH : Int)) (.int .i64 (SW : Int)) (.int .i64 (PH : Int)) (.int .i64 (PW : Int)) (.int .i64 0) (.float .f64 0) v1 v2 v3 v4 (C : Int) (H : Int) (K : Int) ((i / (D1 * D2) : Nat) : Int) ((i / D2 % D1 : Nat) : Int) ((i % D2 : Nat) : Int) 0 (((i / D2 % D1 : Nat) : Int) * SH - PH) (((i % D2 : Nat) : Int) * SW - PW) (C : Int) ((((i / D2 % D1 : Nat) : Int) * SH - PH) + KH) ((((i % D2 : Nat) : Int) * SW - PW) + KW) _ _ _ _ (hwin v1 v2 v3 v4) (by generalize i / (D1 * D2) = x at hq ⊢; omega) rfl rfl rfl rfl (by omega) (by omega) (by omega) (by omega) (by omega) (by omega) (by omega) w
  have hps : psW true C H K KH KW SH SW PH PW D1 D2 i = csP 0 (C : Int) (max (((i / D2 % D1 : Nat) : Int) * SH - PH) 0) (min ((((i / D2 % D1 : Nat) : Int) * SH - PH) + KH) (H : Int)) (max (((i % D2 : Nat) : Int) * SW - PW) 0) (min ((((i % D2 : Nat) : Int) * SW - PW) + KW) (K : Int)) := by unfold psW; simp
  rw [← hps] at hwit
  have hidx : ∀ p, p ∈ psW true C H K KH KW SH SW PH PW D1 D2 i → ∀ w, Calls Try.prog 28 #[.agg #[.int .i64 p.1, .int .i64 p.2.1, .int .i64 p.2.2], .agg #[.int .i64 (C : Int), .int .i64 (H : Int), .int .i64 (K : Int)]] w fun e w' => e = .returned (.int .i64 (ixW H K p)) ∧ Below w.heap.size w w' := fun p hp w => by
    obtain ⟨y1, y2, y3, _⟩ := ok.mem p hp
    obtain ⟨z1, z2, _⟩ := ixW_in (C := (C : Int)) y1 y2 y3
    have z3 : (C : Int) * H * K ≤ 256 := by rw [← Int.natCast_mul, ← Int.natCast_mul]; omega
    have n0 : 0 ≤ p.1 * (H : Int) := Int.mul_nonneg y1.1 (by omega)
    have n1 : 0 ≤ (p.1 * H + p.2.1) * (K : Int) := Int.mul_nonneg (by omega) (by omega)
    have n2 : (p.1 * H + p.2.1) * 1 ≤ (p.1 * H + p.2.1) * (K : Int) := Int.mul_le_mul_of_nonneg_left (by omega) (by omega)
    unfold ixW at z1 z2
    exact index_any p.1 p.2.1 p.2.2 (C : Int) (H : Int) (K : Int) (p.1 * H) (p.1 * H + p.2.1) ((p.1 * H + p.2.1) * K) (ixW H K p) (by rw [IntKind.wrap_i64]; omega) (by rw [IntKind.wrap_i64]; omega) (by rw [IntKind.wrap_i64]; omega) (by unfold ixW; rw [IntKind.wrap_i64]; omega) w
  refine ⟨fun w => window_all 2 (C : Int) (H : Int) (K : Int) (o : Int) (D1 : Int) (D2 : Int) ((i / (D1 * D2) : Nat) : Int) ((i / D2 % D1 : Nat) : Int) ((i % D2 : Nat) : Int) (i : Int) (by decide) (.int .i64 (o : Int)) (.int .i64 (KH : Int)) (.int .i64 (KW : Int)) (.int .i64 (SH : Int)) (.int .i64 (SW : Int)) (.int .i64 (PH : Int)) (.int .i64 (PW : Int)) (.int .i64 0) (.float .f64 0) (.slice wo (o * C * KH * KW) wc) (.slice bo o bc) (.slice zo 0 zc) (.slice yo 0 yc) _ (ixW H K) (by have := ok.le2; omega) (hout _ _ _ _) (htol _ _ _ _) hP (hwit _ _ _ _) hidx w, ?_⟩
  intro w hUW hUB
  have hhav := fun (w : World) => haveOf 2 (C : Int) (H : Int) (K : Int) (i : Int) (.int .i64 (o : Int)) (.int .i64 (KH : Int)) (.int .i64 (KW : Int)) (.int .i64 (SH : Int)) (.int .i64 (SW : Int)) (.int .i64 (PH : Int)) (.int .i64 (PW : Int)) (.int .i64 0) (.float .f64 0) wo bo zo yo (o * C * KH * KW) wc o bc 0 zc 0 yc w ⟨by omega, by omega⟩ (by decide) (hlis _ _ _ _) (htol _ _ _ _)
  obtain ⟨f, hfe⟩ : ∃ f, i / (D1 * D2) = f := ⟨_, rfl⟩
  have hfb : f < o := hfe ▸ hq
  have hfc : f * C + C ≤ o * C := by rw [← Nat.succ_mul]; exact Nat.mul_le_mul_right C hfb
  rw [hfe] at hP hwin hwit
  refine Calls.mono (rowFrom (C : Int) (H : Int) (K : Int) (i : Int) (.int .i64 2) (.int .i64 (o : Int)) (.int .i64 (KH : Int)) (.int .i64 (KW : Int)) (.int .i64 (SH : Int)) (.int .i64 (SW : Int)) (.int .i64 (PH : Int)) (.int .i64 (PW : Int)) (.int .i64 0) (.float .f64 0) _ _ _ _ _ _ _ w hhav fun wx hb => rowOfConv (C : Int) (H : Int) (K : Int) (i : Int) (.int .i64 (o : Int)) (.int .i64 (KH : Int)) (.int .i64 (KW : Int)) (.int .i64 (SH : Int)) (.int .i64 (SW : Int)) (.int .i64 (PH : Int)) (.int .i64 (PW : Int)) (.int .i64 0) (.float .f64 0) _ _ _ _ _ _ _ wx fun wy hb' => convRow_any (.int .i64 2) (.int .i64 (SH : Int)) (.int .i64 (SW : Int)) (.int .i64 (PH : Int)) (.int .i64 (PW : Int)) (.int .i64 0) (.float .f64 0) (.slice zo 0 zc) (.slice yo 0 yc) wo bo (o * C * KH * KW) wc o bc us vs (o : Int) (KH : Int) (KW : Int) (C : Int) (H : Int) (K : Int) (o : Int) (D1 : Int) (D2 : Int) ((i / D2 % D1 : Nat) : Int) ((i % D2 : Nat) : Int) (i : Int) 0 (((i / D2 % D1 : Nat) : Int) * SH - PH) (((i % D2 : Nat) : Int) * SW - PW) (C : Int) ((((i / D2 % D1 : Nat) : Int) * SH - PH) + KH) ((((i % D2 : Nat) : Int) * SW - PW) + KW) ((o * C : Nat) : Int) ((f * C : Nat) : Int) f (psW true C H K KH KW SH SW PH PW D1 D2 i) (ixW H K) (fun p => p.1) (fun p => p.2.1 - (((i / D2 % D1 : Nat) : Int) * SH - PH)) (fun p => p.2.2 - (((i % D2 : Nat) : Int) * SW - PW)) (fun p => p.1 + ((f * C : Nat) : Int)) (fun p => (ixW KH KW (p.1 + ((f * C : Nat) : Int), p.2.1 - (((i / D2 % D1 : Nat) : Int) * SH - PH), p.2.2 - (((i % D2 : Nat) : Int) * SW - PW))).toNat) (by have := ok.le2; omega) hfb p1
    (by rw [← Int.natCast_mul, IntKind.wrap_i64]; generalize f * C = x at hfc ⊢; generalize o * C = y at hfc m1; omega) (fun p hp => ?_) (fun p hp => ?_) (hout _ _ _ _) hP (hwin _ _ _ _) (hwit _ _ _ _) hidx (fun p hp w => ?_) (fun p hp w => ?_) wy (hUW.later (to_call hb hb')) (hUB.later (to_call hb hb'))) ?_
  · have y1 := (ok.mem p hp).1
    rw [IntKind.wrap_i64]; generalize f * C = x at hfc ⊢; generalize o * C = y at hfc m1; omega
  · have hp2 := hp
    rw [hps] at hp2
    obtain ⟨y1, y2, y3⟩ := mem_csP hp2
    have hx := ixW_in (C := ((o * C : Nat) : Int)) (H := KH) (K := KW) (p := (p.1 + ((f * C : Nat) : Int), p.2.1 - (((i / D2 % D1 : Nat) : Int) * SH - PH), p.2.2 - (((i % D2 : Nat) : Int) * SW - PW))) (by dsimp only; generalize f * C = x at hfc ⊢; generalize o * C = y at hfc ⊢; omega) (by dsimp only; omega) (by dsimp only; omega)
    have e9 : ((o * C : Nat) : Int) * KH * KW = ((o * C * KH * KW : Nat) : Int) := by rw [Int.natCast_mul (o * C * KH), Int.natCast_mul (o * C)]
    rw [e9] at hx
    try dsimp only
    omega
  · obtain ⟨y1, y2, y3, _⟩ := ok.mem p hp
    exact from_any p.1 p.2.1 p.2.2 0 (((i / D2 % D1 : Nat) : Int) * SH - PH) (((i % D2 : Nat) : Int) * SW - PW) p.1 (p.2.1 - (((i / D2 % D1 : Nat) : Int) * SH - PH)) (p.2.2 - (((i % D2 : Nat) : Int) * SW - PW)) (by rw [IntKind.wrap_i64]; omega) (by rw [IntKind.wrap_i64]; omega) (by rw [IntKind.wrap_i64]; omega) w
  · have hp2 := hp
    rw [hps] at hp2
    obtain ⟨y1, y2, y3⟩ := mem_csP hp2
    have hx := ixW_in (C := ((o * C : Nat) : Int)) (H := KH) (K := KW) (p := (p.1 + ((f * C : Nat) : Int), p.2.1 - (((i / D2 % D1 : Nat) : Int) * SH - PH), p.2.2 - (((i % D2 : Nat) : Int) * SW - PW))) (by dsimp only; generalize f * C = x at hfc ⊢; generalize o * C = y at hfc ⊢; omega) (by dsimp only; omega) (by dsimp only; omega)
    have e9 : ((o * C : Nat) : Int) * KH * KW = ((o * C * KH * KW : Nat) : Int) := by rw [Int.natCast_mul (o * C * KH), Int.natCast_mul (o * C)]
    rw [e9] at hx
    dsimp only at hx ⊢
    have n0 : 0 ≤ (p.1 + ((f * C : Nat) : Int)) * (KH : Int) := Int.mul_nonneg (by omega) (by omega)
    have n1 : 0 ≤ ((p.1 + ((f * C : Nat) : Int)) * KH + (p.2.1 - (((i / D2 % D1 : Nat) : Int) * SH - PH))) * (KW : Int) := Int.mul_nonneg (by omega) (by omega)
    have n2 : ((p.1 + ((f * C : Nat) : Int)) * KH + (p.2.1 - (((i / D2 % D1 : Nat) : Int) * SH - PH))) * 1 ≤ ((p.1 + ((f * C : Nat) : Int)) * KH + (p.2.1 - (((i / D2 % D1 : Nat) : Int) * SH - PH))) * (KW : Int) := Int.mul_le_mul_of_nonneg_left (by omega) (by omega)
    rw [Int.toNat_of_nonneg hx.1]
    unfold ixW at hx ⊢
    dsimp only at hx ⊢
    exact index_any _ _ _ ((o * C : Nat) : Int) (KH : Int) (KW : Int) ((p.1 + ((f * C : Nat) : Int)) * (KH : Int)) ((p.1 + ((f * C : Nat) : Int)) * (KH : Int) + (p.2.1 - (((i / D2 % D1 : Nat) : Int) * SH - PH))) (((p.1 + ((f * C : Nat) : Int)) * (KH : Int) + (p.2.1 - (((i / D2 % D1 : Nat) : Int) * SH - PH))) * (KW : Int)) (((p.1 + ((f * C : Nat) : Int)) * (KH : Int) + (p.2.1 - (((i / D2 % D1 : Nat) : Int) * SH - PH))) * (KW : Int) + (p.2.2 - (((i % D2 : Nat) : Int) * SW - PW))) (by rw [IntKind.wrap_i64]; exact wrap_id (by omega) (by omega)) (by rw [IntKind.wrap_i64]; exact wrap_id (by omega) (by omega)) (by rw [IntKind.wrap_i64]; exact wrap_id (by omega) (by omega)) (by rw [IntKind.wrap_i64]; exact wrap_id (by omega) (by omega)) w
  rintro e w' ⟨v1, v2, h1, h2, h3⟩
  exact ⟨v1, v2, _, _, h1, h2, h3⟩
end Go.Proofs.Ytokglpemefkmjaa
