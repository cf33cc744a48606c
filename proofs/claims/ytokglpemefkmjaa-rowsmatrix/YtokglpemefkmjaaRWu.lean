import Derived.Test.YtokglpemefkmjaaRWy
import Derived.Test.YtokglpemefkmjaaRWj
namespace Go.Proofs.Ytokglpemefkmjaa
open Go.RowKit
set_option linter.unusedVariables false
set_option linter.unusedSimpArgs false
theorem slM {w : World} {base : Nat} {E : TypeId} {v : Value} {xs : List Value} (h : OwnM w base E v xs) {n : Nat} (hn : xs.length = n) : ∃ ao cap, v = .slice ao n cap := by
  rcases h.2 with ⟨h0, h1⟩ | ⟨g, cap, cur, hv, hg, hh, hc, hx, hs, ht⟩
  · exact ⟨none, 0, by rw [h0, ← hn, h1]⟩
  · exact ⟨_, cap, by rw [hv, hn]⟩
theorem rdFL {w : World} {base : Nat} {v : Value} {us : List Nat} (h : OwnF w base v us) (hl : ∀ u ∈ us, u < 18446744073709551616) : ∃ ao cap, v = .slice ao us.length cap ∧ RdF w ao us.length cap us := by
  have hfl : (flV' us).length = us.length := by simp [flV']
  rcases h.2 with ⟨h0, h1⟩ | ⟨g, cap, cur, hv, hg, hh, hc, hx, hs, ht⟩
  · have hl0 : us.length = 0 := by rw [hfl] at h1; exact h1
    exact ⟨none, 0, by rw [h0, hl0], ⟨rfl, by rw [hl0]; exact Nat.zero_le _, hl, .inl hl0⟩⟩
  · rw [hfl] at hv hc
    refine ⟨some ⟨g, 0, none⟩, cap, hv, ⟨rfl, Nat.le_trans hc hx, hl, .inr ⟨g, 0, rfl, fun j hj => ?_⟩⟩⟩
    rw [cell_of_row _ g _ _ _ _ hh]
    have hu := flV'_at us j hj
    rw [← ht, List.getElem?_take] at hu
    split at hu
    · rw [Array.getElem?_toList] at hu; rw [Nat.zero_add]; exact hu
    · cases hu
theorem wV_fl (seed : Int) (p : Nat) : wV seed p = flV' (wL seed p) := by unfold wV wL flV'; rw [List.map_map]; rfl
theorem bV_fl (seed : Int) (p : Nat) : bV seed p = flV' (bL seed p) := by unfold bV bL flV'; rw [List.map_map]; rfl
/-- The pure part of Kt. -/
theorem kt_num (cv : Bool) {gO : Int} {C H K KH KW SH SW PH PW o D1 D2 : Nat} (hw : WK gO (KH : Int) (KW : Int) (SH : Int) (SW : Int) (PH : Int) (PW : Int) (C : Int) (H : Int) (K : Int) C H K KH KW SH SW PH PW o D1 D2) (ho : cv = false → o = C) :
    (1 ≤ o * D1 * D2 ∧ o * D1 * D2 ≤ 256) ∧ ¬ (C : Int) = 0 ∧ IntKind.i64.wrap ((KH : Int) * KW) = ((KH * KW : Nat) : Int) ∧ IntKind.i64.wrap (((KH * KW : Nat) : Int) * C) = ((KH * KW * C : Nat) : Int) ∧ IntKind.i64.wrap ((H : Int) * K) = ((H * K : Nat) : Int) ∧ ¬ ((H * K : Nat) : Int) = 0 ∧
    IntKind.i64.wrap ((C : Int) * H) = ((C * H : Nat) : Int) ∧ IntKind.i64.wrap (((C * H : Nat) : Int) * K) = ((C * H * K : Nat) : Int) ∧ (cv = false → ¬ IntKind.i64.wrap (((o * D1 * D2 : Nat) : Int).tdiv C) = 0) ∧
    (∀ i, i < o * D1 * D2 → 0 < ((psW cv C H K KH KW SH SW PH PW D1 D2 i).map (ixW H K)).length ∧ (((psW cv C H K KH KW SH SW PH PW D1 D2 i).map (ixW H K)).length : Int) ≤ ((KH * KW * C : Nat) : Int) ∧ ((psW cv C H K KH KW SH SW PH PW D1 D2 i).map (ixW H K)).length ≤ 256) ∧
    (∀ i, i < o * D1 * D2 → ((psW cv C H K KH KW SH SW PH PW D1 D2 i).map (ixW H K)).Pairwise (· < ·)) ∧
    (∀ i, i < o * D1 * D2 → ∀ x ∈ (psW cv C H K KH KW SH SW PH PW D1 D2 i).map (ixW H K), 0 ≤ x ∧ x < ((C * H * K : Nat) : Int) ∧ (cv = false → IntKind.i64.wrap (x.tdiv ((H * K : Nat) : Int)) = IntKind.i64.wrap ((i : Int).tdiv (IntKind.i64.wrap (((o * D1 * D2 : Nat) : Int).tdiv C))))) := by
  obtain ⟨c1, h1, k1, hch⟩ := hw.sz
  obtain ⟨hC, hH, hK⟩ := le_prod3 c1 h1 k1 hch
  obtain ⟨f1, f2, f3, f4, _⟩ := hw.f
  have dd1 : 1 ≤ D1 := by rw [hw.d.1]; exact Nat.le_add_left 1 _
  have dd2 : 1 ≤ D2 := by rw [hw.d.2]; exact Nat.le_add_left 1 _
  obtain ⟨o1, hto⟩ := hw.t
  have hD : 1 ≤ D1 * D2 := Nat.mul_pos dd1 dd2
  have hHK : 1 ≤ H * K := Nat.mul_pos h1 k1
  have hN : 1 ≤ o * D1 * D2 := Nat.mul_pos (Nat.mul_pos o1 dd1) dd2
  have a1 : KH * KW ≤ 16 * 16 := Nat.mul_le_mul f2 f4
  have a2 : KH * KW * C ≤ 16 * 16 * 256 := Nat.mul_le_mul a1 hC
  have a3 : C * H ≤ 256 := Nat.le_trans (Nat.le_mul_of_pos_right _ k1) hch
  have a4 : H * K ≤ 256 := by have := Nat.le_mul_of_pos_left (H * K) c1; rw [← Nat.mul_assoc] at this; omega
  have hz : cv = false → ((o * D1 * D2 : Nat) : Int).tdiv C = ((D1 * D2 : Nat) : Int) := fun h => by
    rw [tdivN, ho h, Nat.mul_assoc, Nat.mul_div_cancel_left _ c1]
  have hDle : D1 * D2 ≤ 256 := by have := Nat.le_mul_of_pos_left (D1 * D2) (show 0 < o by omega); rw [← Nat.mul_assoc] at this; omega
  have hwD : IntKind.i64.wrap ((D1 * D2 : Nat) : Int) = ((D1 * D2 : Nat) : Int) := by rw [IntKind.wrap_i64]; generalize D1 * D2 = x at hDle ⊢; omega
  have ok := fun (i : Nat) (hi : i < o * D1 * D2) => psW_ok cv hw ho hi
  refine ⟨⟨hN, hto⟩, by omega, ?_, ?_, ?_, ?_, ?_, ?_, fun h => ?_, fun i hi => ?_, fun i hi => (ok i hi).rise, fun i hi x hx => ?_⟩
  · rw [← Int.natCast_mul, IntKind.wrap_i64]; generalize KH * KW = x at a1 ⊢; omega
  · rw [← Int.natCast_mul, IntKind.wrap_i64]; generalize KH * KW * C = x at a2 ⊢; omega
  · rw [← Int.natCast_mul, IntKind.wrap_i64]; generalize H * K = x at a4 ⊢; omega
  · generalize H * K = x at hHK ⊢; omega
  · rw [← Int.natCast_mul, IntKind.wrap_i64]; generalize C * H = x at a3 ⊢; omega
  · rw [← Int.natCast_mul, IntKind.wrap_i64]; generalize C * H * K = x at hch ⊢; omega
  · rw [hz h, hwD]; generalize D1 * D2 = x at hD ⊢; omega
  · rw [List.length_map]
    exact ⟨(ok i hi).pos, by have := (ok i hi).le; generalize KH * KW * C = x at this ⊢; omega, (ok i hi).le2⟩
  · obtain ⟨p, hp, rfl⟩ := List.mem_map.1 hx
    obtain ⟨y1, y2, y3, y4⟩ := (ok i hi).mem p hp
    obtain ⟨z1, z2, z3⟩ := ixW_in (C := (C : Int)) y1 y2 y3
    rw [← Int.natCast_mul, ← Int.natCast_mul] at z2
    refine ⟨z1, z2, fun h => ?_⟩
    rw [hz h, hwD, Int.tdiv_eq_ediv_of_nonneg z1, Int.natCast_mul H K, z3, y4 h, tdivN]
set_option maxRecDepth 100000 in
set_option maxHeartbeats 8000000 in
theorem mdR2 (g0 g1 g2 g3 g4 g5 g6 seed c h k : Int) (hc : c ≤ 9223372036854775807) (hh : h ≤ 9223372036854775807) (hk : k ≤ 9223372036854775807) (hg : g0 ≤ 9223372036854775807) (w : World) : Calls Try.prog 5 #[.agg #[.int .i64 2, .int .i64 g0, .int .i64 g1, .int .i64 g2, .int .i64 g3, .int .i64 g4, .int .i64 g5, .int .i64 g6, .int .i64 seed], .agg #[.int .i64 c, .int .i64 h, .int .i64 k]] w fun e w' => MdR 2 g0 g1 g2 g3 g4 g5 g6 c h k 0 w' e ∧ Below w.heap.size w w' := by
  refine (made_all 2 g0 g1 g2 g3 g4 g5 g6 seed c h k 0 (Or.inr ⟨by decide, rfl⟩) (LW2 g0 g1 g2 g3 g4 g5 g6 c h k) (fun q0 q1 q2 q3 hq => ?_) (lsW2 g0 g1 g2 g3 g4 g5 g6 c h k hc hh hk hg) w).mono fun e w' ⟨hm, hb⟩ => ⟨?_, hb⟩
  · obtain ⟨C, H, K, KH, KW, SH, SW, PH, PW, o, D1, D2, hw, hg0, ho, e0, e1, e2, e3⟩ := hq
    rw [e0, e1, e2, e3]
    exact ⟨by omega, by omega, by omega, by omega, by omega, by omega⟩
  rcases hm with h | ⟨q0, q1, q2, q3, v1, v2, v3, v4, hq, hq0, hq2, rfl, o1, o2, o3, o4⟩
  · exact .inl h
  obtain ⟨C, H, K, KH, KW, SH, SW, PH, PW, o, D1, D2, hw, hg0, ho, e0, e1, e2, e3⟩ := hq
  obtain ⟨r1, r2, r3, r4, r5, r6, r7, r8, r9⟩ := hw.e
  subst r1 r2 r3 r4 r5 r6 r7 r8 r9 hg0
  obtain rfl : o * C * KH * KW = q0 := by omega
  obtain rfl : o = q1 := by omega
  obtain rfl : 0 = q2 := by omega
  obtain rfl : 0 = q3 := by omega
  clear e0 e1 e2 e3
  obtain ⟨zo, zc, rfl⟩ := slM o3 (n := 0) (zV_len _ _)
  obtain ⟨yo, yc, rfl⟩ := slM o4 (n := 0) (yV_len _ _)
  rw [wV_fl] at o1
  rw [bV_fl] at o2
  obtain ⟨wo, wc, rfl, hU⟩ := rdFL o1 (wL_lt _ _)
  obtain ⟨bo, bc, rfl, hV⟩ := rdFL o2 (bL_lt _ _)
  rw [wL_len] at hU ⊢
  rw [bL_len] at hV ⊢
  have kt := kit2 hw wo bo zo yo wc bc zc yc (wL seed (o * C * KH * KW)) (bL seed o)
  obtain ⟨n1, n2, n3, n4, n5, n6, n7, n8, n9, n10, n11, n12⟩ := kt_num true hw (fun h => by cases h)
  refine .inr ⟨_, _, _, _, ((KH * KW : Nat) : Int), ((KH * KW * C : Nat) : Int), ((H * K : Nat) : Int), ((C * H : Nat) : Int), ((C * H * K : Nat) : Int), IntKind.i64.wrap (((o * D1 * D2 : Nat) : Int).tdiv (C : Int)), o * D1 * D2, fun i => (psW true C H K KH KW SH SW PH PW D1 D2 i).map (ixW H K), rfl, ?_⟩
  exact ⟨n1, n2, n3, n4, n5, n6, n7, n8, rfl, (fun h => absurd rfl h), ⟨rfl, rfl, rfl, rfl⟩, n10, n11, (fun i hi x hx => ⟨(n12 i hi x hx).1, (n12 i hi x hx).2.1, fun h => absurd rfl h⟩), kt.1, fun i hi => (kt.2 i hi).1, (fun i hi w2 hb2 => ((kt.2 i hi).2 w2 (hU.later hb2) (hV.later hb2)).mono fun e w9 hx => by
      obtain ⟨va, vb, b, ws, he, hr, hbl⟩ := hx
      exact ⟨.inr ⟨by decide, va, vb, b, ws, he, hr⟩, hbl⟩)⟩
set_option maxRecDepth 100000 in
set_option maxHeartbeats 8000000 in
theorem mdR4 (g0 g1 g2 g3 g4 g5 g6 seed c h k : Int) (AV : Nat) (hAV : AV = flZ (smallZ seed 7)) (hc : c ≤ 9223372036854775807) (hh : h ≤ 9223372036854775807) (hk : k ≤ 9223372036854775807) (w : World) : Calls Try.prog 5 #[.agg #[.int .i64 4, .int .i64 g0, .int .i64 g1, .int .i64 g2, .int .i64 g3, .int .i64 g4, .int .i64 g5, .int .i64 g6, .int .i64 seed], .agg #[.int .i64 c, .int .i64 h, .int .i64 k]] w fun e w' => MdR 4 g0 g1 g2 g3 g4 g5 g6 c h k AV w' e ∧ Below w.heap.size w w' := by
  have hA : AV < 18446744073709551616 := by rw [hAV]; exact (flZ_lt (smallZ_bd _ _)).1
  have hF : Fin AV := by rw [hAV]; exact (flZ_lt (smallZ_bd _ _)).2
  refine (made_all 4 g0 g1 g2 g3 g4 g5 g6 seed c h k AV (Or.inl ⟨rfl, hAV⟩) (LW4 g0 g1 g2 g3 g4 g5 g6 c h k) (fun q0 q1 q2 q3 hq => ?_) (lsW4 g0 g1 g2 g3 g4 g5 g6 c h k hc hh hk AV hA hF) w).mono fun e w' ⟨hm, hb⟩ => ⟨?_, hb⟩
  · obtain ⟨C, H, K, KH, KW, SH, SW, PH, PW, o, D1, D2, hw, hg0, ho, e0, e1, e2, e3⟩ := hq
    rw [e0, e1, e2, e3]
    decide
  rcases hm with h | ⟨q0, q1, q2, q3, v1, v2, v3, v4, hq, hq0, hq2, rfl, o1, o2, o3, o4⟩
  · exact .inl h
  obtain ⟨C, H, K, KH, KW, SH, SW, PH, PW, o, D1, D2, hw, hg0, ho, e0, e1, e2, e3⟩ := hq
  obtain ⟨r1, r2, r3, r4, r5, r6, r7, r8, r9⟩ := hw.e
  subst r1 r2 r3 r4 r5 r6 r7 r8 r9 hg0
  obtain rfl : 0 = q0 := by omega
  obtain rfl : 0 = q1 := by omega
  obtain rfl : 0 = q2 := by omega
  obtain rfl : 0 = q3 := by omega
  clear e0 e1 e2 e3
  obtain ⟨zo, zc, rfl⟩ := slM o3 (n := 0) (zV_len _ _)
  obtain ⟨yo, yc, rfl⟩ := slM o4 (n := 0) (yV_len _ _)
  obtain ⟨wo, wc, rfl⟩ := slM o1 (n := 0) (wV_len _ _)
  obtain ⟨bo, bc, rfl⟩ := slM o2 (n := 0) (bV_len _ _)
  have kt := kit4 AV hA hF hw ho wo bo zo yo wc bc zc yc
  obtain ⟨n1, n2, n3, n4, n5, n6, n7, n8, n9, n10, n11, n12⟩ := kt_num false hw (fun _ => ho)
  refine .inr ⟨_, _, _, _, ((KH * KW : Nat) : Int), ((KH * KW * C : Nat) : Int), ((H * K : Nat) : Int), ((C * H : Nat) : Int), ((C * H * K : Nat) : Int), IntKind.i64.wrap (((o * D1 * D2 : Nat) : Int).tdiv (C : Int)), o * D1 * D2, fun i => (psW false C H K KH KW SH SW PH PW D1 D2 i).map (ixW H K), rfl, ?_⟩
  exact ⟨n1, n2, n3, n4, n5, n6, n7, n8, rfl, (fun _ => n9 rfl), ⟨rfl, rfl, rfl, rfl⟩, n10, n11, (fun i hi x hx => ⟨(n12 i hi x hx).1, (n12 i hi x hx).2.1, fun _ => (n12 i hi x hx).2.2 rfl⟩), kt.1, fun i hi => (kt.2 i hi).1, (fun i hi w2 hb2 => ((kt.2 i hi).2 w2).mono fun e w9 hx => by
      obtain ⟨va, vb, b, ws, he, hr, hbl⟩ := hx
      exact ⟨.inr ⟨by decide, va, vb, b, ws, he, hr⟩, hbl⟩)⟩
set_option maxRecDepth 100000 in
set_option maxHeartbeats 8000000 in
theorem mdR12 (g0 g1 g2 g3 g4 g5 g6 seed c h k : Int) (hc : c ≤ 9223372036854775807) (hh : h ≤ 9223372036854775807) (hk : k ≤ 9223372036854775807) (w : World) : Calls Try.prog 5 #[.agg #[.int .i64 12, .int .i64 g0, .int .i64 g1, .int .i64 g2, .int .i64 g3, .int .i64 g4, .int .i64 g5, .int .i64 g6, .int .i64 seed], .agg #[.int .i64 c, .int .i64 h, .int .i64 k]] w fun e w' => MdR 12 g0 g1 g2 g3 g4 g5 g6 c h k 0 w' e ∧ Below w.heap.size w w' := by
  refine (made_all 12 g0 g1 g2 g3 g4 g5 g6 seed c h k 0 (Or.inr ⟨by decide, rfl⟩) (LW12 g0 g1 g2 g3 g4 g5 g6 c h k) (fun q0 q1 q2 q3 hq => ?_) (lsW12 g0 g1 g2 g3 g4 g5 g6 c h k hc hh hk) w).mono fun e w' ⟨hm, hb⟩ => ⟨?_, hb⟩
  · obtain ⟨C, H, K, KH, KW, SH, SW, PH, PW, o, D1, D2, hw, hg0, ho, e0, e1, e2, e3⟩ := hq
    rw [e0, e1, e2, e3]
    decide
  rcases hm with h | ⟨q0, q1, q2, q3, v1, v2, v3, v4, hq, hq0, hq2, rfl, o1, o2, o3, o4⟩
  · exact .inl h
  obtain ⟨C, H, K, KH, KW, SH, SW, PH, PW, o, D1, D2, hw, hg0, ho, e0, e1, e2, e3⟩ := hq
  obtain ⟨r1, r2, r3, r4, r5, r6, r7, r8, r9⟩ := hw.e
  subst r1 r2 r3 r4 r5 r6 r7 r8 r9 hg0
  obtain rfl : 0 = q0 := by omega
  obtain rfl : 0 = q1 := by omega
  obtain rfl : 0 = q2 := by omega
  obtain rfl : 0 = q3 := by omega
  clear e0 e1 e2 e3
  obtain ⟨zo, zc, rfl⟩ := slM o3 (n := 0) (zV_len _ _)
  obtain ⟨yo, yc, rfl⟩ := slM o4 (n := 0) (yV_len _ _)
  obtain ⟨wo, wc, rfl⟩ := slM o1 (n := 0) (wV_len _ _)
  obtain ⟨bo, bc, rfl⟩ := slM o2 (n := 0) (bV_len _ _)
  have kt := kit12 hw ho wo bo zo yo wc bc zc yc
  obtain ⟨n1, n2, n3, n4, n5, n6, n7, n8, n9, n10, n11, n12⟩ := kt_num false hw (fun _ => ho)
  refine .inr ⟨_, _, _, _, ((KH * KW : Nat) : Int), ((KH * KW * C : Nat) : Int), ((H * K : Nat) : Int), ((C * H : Nat) : Int), ((C * H * K : Nat) : Int), IntKind.i64.wrap (((o * D1 * D2 : Nat) : Int).tdiv (C : Int)), o * D1 * D2, fun i => (psW false C H K KH KW SH SW PH PW D1 D2 i).map (ixW H K), rfl, ?_⟩
  exact ⟨n1, n2, n3, n4, n5, n6, n7, n8, rfl, (fun _ => n9 rfl), ⟨rfl, rfl, rfl, rfl⟩, n10, n11, (fun i hi x hx => ⟨(n12 i hi x hx).1, (n12 i hi x hx).2.1, fun _ => (n12 i hi x hx).2.2 rfl⟩), kt.1, fun i hi => (kt.2 i hi).1, (fun i hi w2 hb2 => ((kt.2 i hi).2 w2).mono fun e w9 hx => ⟨.inl ⟨rfl, hx.1⟩, hx.2⟩)⟩
end Go.Proofs.Ytokglpemefkmjaa
