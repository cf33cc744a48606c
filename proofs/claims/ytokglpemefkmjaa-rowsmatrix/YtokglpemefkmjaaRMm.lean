import Derived.Test.YtokglpemefkmjaaRMy
namespace Go.Proofs.Ytokglpemefkmjaa
open Go.RowKit
set_option linter.unusedVariables false
set_option linter.unusedSimpArgs false
theorem rdFLc {w : World} {base : Nat} {v : Value} {us : List Nat} (h : OwnF w base v us) (hl : ∀ u ∈ us, u < 18446744073709551616) {n : Nat} (hn : us.length = n) : ∃ ao cap, v = .slice ao n cap ∧ RdF w ao n cap us ∧ n ≤ cap := by
  subst hn
  obtain ⟨ao, cap, rfl, hr⟩ := rdFL h hl
  refine ⟨ao, cap, rfl, hr, ?_⟩
  have hfl : (flV' us).length = us.length := by simp [flV']
  rcases h.2 with ⟨h0, h1⟩ | ⟨g, cap', cur, hv, hg, hh, hc, hx, hs, ht⟩
  · rw [hfl] at h1; omega
  · rw [hfl] at hv hc
    injection hv with _ _ e
    omega
theorem rdCL {w : World} {base : Nat} {v : Value} {f g : Nat → Nat} {p : Nat} (h : OwnM w base 57 v ((List.range p).map fun (i : Nat) => .complex .f64 (f i) (g i))) : ∃ ao cap, v = .slice ao p cap ∧ RdC2 w ao p cap f g := by
  have hl : ((List.range p).map fun (i : Nat) => Value.complex .f64 (f i) (g i)).length = p := by simp
  rcases h.2 with ⟨h0, h1⟩ | ⟨b, cap, cur, hv, hg, hh, hc, hx, hs, ht⟩
  · rw [hl] at h1
    exact ⟨none, 0, by rw [h0, h1], by omega, .inl h1⟩
  · rw [hl] at hv hc
    refine ⟨some ⟨b, 0, none⟩, cap, hv, hc, .inr ⟨b, 0, rfl, fun j hj => ?_⟩⟩
    rw [cell_of_row _ b _ _ _ _ hh, Nat.zero_add]
    have hu : ((List.range p).map fun (i : Nat) => Value.complex .f64 (f i) (g i))[j]? = some (.complex .f64 (f j) (g j)) := by
      rw [List.getElem?_map, List.getElem?_range hj]
      rfl
    rw [← ht, List.getElem?_take] at hu
    split at hu
    · rw [Array.getElem?_toList] at hu; exact hu
    · cases hu
theorem q4_of {C H K n : Nat} (c1 : 1 ≤ C) (h1 : 1 ≤ H) (k1 : 1 ≤ K) (hch : C * H * K ≤ 256) (hn : C * H * K = n) : IntKind.i64.wrap ((C : Int) * (H : Int)) = ((C * H : Nat) : Int) ∧ IntKind.i64.wrap (((C * H : Nat) : Int) * (K : Int)) = (n : Int) ∧ 1 ≤ n ∧ n ≤ 256 := by
  have e1 : C * H ≤ 256 := Nat.le_trans (Nat.le_mul_of_pos_right _ k1) hch
  have e2 : 1 ≤ n := by rw [← hn]; exact Nat.mul_pos (Nat.mul_pos c1 h1) k1
  rw [← Int.natCast_mul, ← Int.natCast_mul, hn]
  exact ⟨wrN (by omega), wrN (by omega), e2, by omega⟩
set_option maxRecDepth 100000 in
set_option maxHeartbeats 8000000 in
theorem mdM1 (g0 g1 g2 g3 g4 g5 g6 seed c h k : Int) (hc : c ≤ 9223372036854775807) (hh : h ≤ 9223372036854775807) (hk : k ≤ 9223372036854775807) (hg : g0 ≤ 9223372036854775807) (w : World) : Calls Try.prog 5 #[.agg #[.int .i64 1, .int .i64 g0, .int .i64 g1, .int .i64 g2, .int .i64 g3, .int .i64 g4, .int .i64 g5, .int .i64 g6, .int .i64 seed], .agg #[.int .i64 c, .int .i64 h, .int .i64 k]] w fun e w' => MdM false 1 g0 g1 g2 g3 g4 g5 g6 c h k 0 (wrap64 (seed + 1)) w' e ∧ Below w.heap.size w w' := by
  refine (made_all 1 g0 g1 g2 g3 g4 g5 g6 seed c h k 0 (Or.inr ⟨by decide, rfl⟩) (LD g0 g1 g2 g3 g4 g5 g6 c h k) (fun q0 q1 q2 q3 hq => ?_) (lsD g0 g1 g2 g3 g4 g5 g6 c h k hc hh hk hg) w).mono fun e w' ⟨hm, hb⟩ => ⟨?_, hb⟩
  · obtain ⟨C, H, K, o, _, _, o1, o2, _, e0, e1, e2, e3⟩ := hq
    rw [e0, e1, e2, e3]; exact ⟨by omega, by omega, by omega, by omega, by omega, by omega⟩
  rcases hm with h | ⟨q0, q1, q2, q3, v1, v2, v3, v4, hq, hq0, hq2, rfl, o1, o2, o3, o4⟩
  · exact .inl h
  obtain ⟨C, H, K, o, ⟨rfl, rfl, rfl, c1, h1, k1, hch⟩, rfl, p1, p2, ⟨rfl, rfl, rfl, rfl, rfl, rfl⟩, e0, e1, e2, e3⟩ := hq
  obtain ⟨n, hn⟩ : ∃ n, C * H * K = n := ⟨_, rfl⟩
  rw [hn] at e0
  obtain ⟨L, hL⟩ : ∃ L, o * n = L := ⟨_, rfl⟩
  rw [hL] at e0
  obtain rfl : L = q0 := by omega
  obtain rfl : o = q1 := by omega
  obtain rfl : 0 = q2 := by omega
  obtain rfl : 0 = q3 := by omega
  clear e0 e1 e2 e3 hc hh hk hg
  obtain ⟨zo, zc, rfl⟩ := slM o3 (n := 0) (zV_len _ _)
  obtain ⟨yo, yc, rfl⟩ := slM o4 (n := 0) (yV_len _ _)
  rw [wV_fl] at o1
  rw [bV_fl] at o2
  obtain ⟨wo, wc, rfl, hU, hwc⟩ := rdFLc o1 (wL_lt _ _) (wL_len _ _)
  obtain ⟨bo, bc, rfl, hV, _⟩ := rdFLc o2 (bL_lt _ _) (bL_len _ _)
  obtain ⟨r4, r5, n1, n2⟩ := q4_of c1 h1 k1 hch hn
  have kt := kitDW c1 h1 k1 hch hn hL ⟨p1, p2⟩ wo bo zo yo wc bc zc yc hwc (wL seed L) (bL seed o)
  refine .inr ⟨_, _, _, _, _, o, n, plD seed (inZ (wrap64 (seed + 1)) n) n o, rfl, ⟨⟨p1, p2, n1, n2⟩, r4, r5, ⟨rfl, rfl, rfl, rfl⟩, plD_len _ _ _ _, kt.1, fun i hi w2 hb2 => ?_⟩, fun w2 ao cap hb2 hr => ?_, fun h => by cases h⟩
  · refine (kt.2 i hi w2 (hU.later hb2) (hV.later hb2)).mono fun e w9 hx => ?_
    obtain ⟨u1, u2, he, hv, hbl⟩ := hx
    exact ⟨u1, u2, _, _, _, he, hv, rowG_dense seed _ hL n2 hi, hbl⟩
  · exact plainD_any seed C H K 0 0 0 0 0 0 o n L hL p2 n2 wo bo zo yo ao wc bc zc yc 0 0 cap _ (inZ_bd _ _) w2 (hU.later hb2) (hV.later hb2) hr
set_option maxRecDepth 100000 in
set_option maxHeartbeats 8000000 in
theorem mdM3 (g0 g1 g2 g3 g4 g5 g6 seed c h k : Int) (hc : c ≤ 9223372036854775807) (hh : h ≤ 9223372036854775807) (hk : k ≤ 9223372036854775807) (w : World) : Calls Try.prog 5 #[.agg #[.int .i64 3, .int .i64 g0, .int .i64 g1, .int .i64 g2, .int .i64 g3, .int .i64 g4, .int .i64 g5, .int .i64 g6, .int .i64 seed], .agg #[.int .i64 c, .int .i64 h, .int .i64 k]] w fun e w' => MdM false 3 g0 g1 g2 g3 g4 g5 g6 c h k 0 (wrap64 (seed + 1)) w' e ∧ Below w.heap.size w w' := by
  refine (made_all 3 g0 g1 g2 g3 g4 g5 g6 seed c h k 0 (Or.inr ⟨by decide, rfl⟩) (LS g0 g1 g2 g3 g4 g5 g6 c h k) (fun q0 q1 q2 q3 hq => ?_) (lsS g0 g1 g2 g3 g4 g5 g6 c h k hc hh hk) w).mono fun e w' ⟨hm, hb⟩ => ⟨?_, hb⟩
  · obtain ⟨C, H, K, ⟨_, _, _, c1, h1, k1, hch⟩, _, e0, e1, e2, e3⟩ := hq
    have := (le_prod3 c1 h1 k1 hch).1
    rw [e0, e1, e2, e3]; exact ⟨by omega, by omega, by omega, by omega, by omega, by omega⟩
  rcases hm with h | ⟨q0, q1, q2, q3, v1, v2, v3, v4, hq, hq0, hq2, rfl, o1, o2, o3, o4⟩
  · exact .inl h
  obtain ⟨C, H, K, ⟨rfl, rfl, rfl, c1, h1, k1, hch⟩, ⟨rfl, rfl, rfl, rfl, rfl, rfl, rfl⟩, e0, e1, e2, e3⟩ := hq
  obtain ⟨n, hn⟩ : ∃ n, C * H * K = n := ⟨_, rfl⟩
  obtain rfl : C = q0 := by omega
  obtain rfl : C = q1 := by omega
  obtain rfl : 0 = q2 := by omega
  obtain rfl : 0 = q3 := by omega
  clear e0 e1 e2 e3 hc hh hk
  obtain ⟨zo, zc, rfl⟩ := slM o3 (n := 0) (zV_len _ _)
  obtain ⟨yo, yc, rfl⟩ := slM o4 (n := 0) (yV_len _ _)
  rw [wV_fl] at o1
  rw [bV_fl] at o2
  obtain ⟨wo, wc, rfl, hU, hwc⟩ := rdFLc o1 (wL_lt _ _) (wL_len _ _)
  obtain ⟨bo, bc, rfl, hV, _⟩ := rdFLc o2 (bL_lt _ _) (bL_len _ _)
  obtain ⟨r4, r5, n1, n2⟩ := q4_of c1 h1 k1 hch hn
  have hm1 : 1 ≤ H * K := Nat.mul_pos h1 k1
  have hcm : C * (H * K) = n := by rw [← Nat.mul_assoc]; exact hn
  refine .inr ⟨_, _, _, _, _, n, n, plS seed (inZ (wrap64 (seed + 1)) n) (H * K) n, rfl, ⟨⟨n1, n2, n1, n2⟩, r4, r5, ⟨rfl, rfl, rfl, rfl⟩, plS_len _ _ _ _, countS C H K n c1 h1 k1 hn n2 wo bo zo yo wc bc zc yc, fun i hi w2 hb2 => ?_⟩, fun w2 ao cap hb2 hr => ?_, fun h => by cases h⟩
  · refine (rowScaleW C H K n i c1 h1 k1 hn n2 hi wo bo zo yo wc bc zc yc (wL seed C) (bL seed C) w2 (hU.later hb2) (hV.later hb2)).mono fun e w9 hx => ?_
    obtain ⟨u1, u2, he, hv, hbl⟩ := hx
    exact ⟨u1, u2, _, _, _, he, hv, rowG_scale seed _ hm1 hcm n2 hi, hbl⟩
  · exact plainS_any seed 0 0 0 0 0 0 0 C H K (H * K) n rfl hm1 hcm n2 wo bo zo yo ao wc bc zc yc 0 0 cap _ (inZ_bd _ _) w2 (hU.later hb2) (hV.later hb2) hr
set_option maxRecDepth 100000 in
set_option maxHeartbeats 8000000 in
theorem mdM6 (g0 g1 g2 g3 g4 g5 g6 seed c h k : Int) (hc : c ≤ 9223372036854775807) (hh : h ≤ 9223372036854775807) (hk : k ≤ 9223372036854775807) (w : World) : Calls Try.prog 5 #[.agg #[.int .i64 6, .int .i64 g0, .int .i64 g1, .int .i64 g2, .int .i64 g3, .int .i64 g4, .int .i64 g5, .int .i64 g6, .int .i64 seed], .agg #[.int .i64 c, .int .i64 h, .int .i64 k]] w fun e w' => MdM false 6 g0 g1 g2 g3 g4 g5 g6 c h k 0 (wrap64 (seed + 1)) w' e ∧ Below w.heap.size w w' := by
  refine (made_all 6 g0 g1 g2 g3 g4 g5 g6 seed c h k 0 (Or.inr ⟨by decide, rfl⟩) (LT g0 g1 g2 g3 g4 g5 g6 c h k) (fun q0 q1 q2 q3 hq => ?_) (lsT g0 g1 g2 g3 g4 g5 g6 c h k hc hh hk) w).mono fun e w' ⟨hm, hb⟩ => ⟨?_, hb⟩
  · obtain ⟨C, H, K, o, _, _, o1, o2, _, _, e0, e1, e2, e3⟩ := hq
    rw [e0, e1, e2, e3]; exact ⟨by omega, by omega, by omega, by omega, by omega, by omega⟩
  rcases hm with h | ⟨q0, q1, q2, q3, v1, v2, v3, v4, hq, hq0, hq2, rfl, o1, o2, o3, o4⟩
  · exact .inl h
  obtain ⟨C, H, K, o, ⟨rfl, rfl, rfl, c1, h1, k1, hch⟩, rfl, p1, p2, hev, ⟨rfl, rfl, rfl, rfl, rfl, rfl⟩, e0, e1, e2, e3⟩ := hq
  obtain ⟨n, hn⟩ : ∃ n, C * H * K = n := ⟨_, rfl⟩
  rw [hn] at e2 hev
  obtain ⟨p, hp⟩ : ∃ p, n = 2 * p := ⟨n / 2, by omega⟩
  obtain ⟨L, hL⟩ : ∃ L, o * p = L := ⟨_, rfl⟩
  have hLe : o * n / 2 = L := by rw [hp, ← hL, show o * (2 * p) = 2 * (o * p) by rw [Nat.mul_left_comm]]; exact Nat.mul_div_cancel_left _ (by decide)
  rw [hLe] at e2
  obtain rfl : 0 = q0 := by omega
  obtain rfl : 0 = q1 := by omega
  obtain rfl : L = q2 := by omega
  obtain rfl : o = q3 := by omega
  clear e0 e1 e2 e3 hc hh hk
  obtain ⟨wo, wc, rfl⟩ := slM o1 (n := 0) (wV_len _ _)
  obtain ⟨bo, bc, rfl⟩ := slM o2 (n := 0) (bV_len _ _)
  obtain ⟨zo, zc, rfl, hU⟩ := rdCL (f := fun j => flZ (smallZ seed (2 * (j : Int)))) (g := fun j => flZ (smallZ seed (9 * (j : Int) + 4))) o3
  obtain ⟨yo, yc, rfl, hV⟩ := rdCL (f := fun j => flZ (smallZ seed ((j : Int) + 2))) (g := fun j => flZ (smallZ seed (6 * (j : Int)))) o4
  obtain ⟨fz, hfz⟩ : ∃ f : Nat → Int, (fun (j : Nat) => smallZ seed (2 * (j : Int))) = f := ⟨_, rfl⟩
  have bf : ∀ j, -9 ≤ fz j ∧ fz j ≤ 9 := fun j => by rw [← hfz]; exact smallZ_bd _ _
  obtain ⟨gz, hgz⟩ : ∃ f : Nat → Int, (fun (j : Nat) => smallZ seed (9 * (j : Int) + 4)) = f := ⟨_, rfl⟩
  have bg : ∀ j, -9 ≤ gz j ∧ gz j ≤ 9 := fun j => by rw [← hgz]; exact smallZ_bd _ _
  obtain ⟨fy, hfy⟩ : ∃ f : Nat → Int, (fun (j : Nat) => smallZ seed ((j : Int) + 2)) = f := ⟨_, rfl⟩
  have bfy : ∀ j, -9 ≤ fy j ∧ fy j ≤ 9 := fun j => by rw [← hfy]; exact smallZ_bd _ _
  obtain ⟨gy, hgy⟩ : ∃ f : Nat → Int, (fun (j : Nat) => smallZ seed (6 * (j : Int))) = f := ⟨_, rfl⟩
  have bgy : ∀ j, -9 ≤ gy j ∧ gy j ≤ 9 := fun j => by rw [← hgy]; exact smallZ_bd _ _
  have hU : RdC2 w' zo L zc (fun j => flZ (fz j)) (fun j => flZ (gz j)) := by rw [← hfz, ← hgz]; exact hU
  have hV : RdC2 w' yo o yc (fun j => flZ (fy j)) (fun j => flZ (gy j)) := by rw [← hfy, ← hgy]; exact hV
  clear hfz hgz hfy hgy
  obtain ⟨r4, r5, n1, n2⟩ := q4_of c1 h1 k1 hch hn
  have kt := kitTW c1 h1 k1 hch hn hp hL ⟨p1, p2⟩ wo bo zo yo wc bc zc yc fz gz fy gy bf bg
  refine .inr ⟨_, _, _, _, _, 2 * o, n, plT fz gz fy gy (inZ (wrap64 (seed + 1)) n) p o, rfl, ⟨⟨by omega, by omega, n1, n2⟩, r4, r5, ⟨rfl, rfl, rfl, rfl⟩, plT_len _ _ _ _ _ _ _, kt.1, fun i hi w2 hb2 => ?_⟩, fun w2 ao cap hb2 hr => ?_, fun h => by cases h⟩
  · refine (kt.2 i hi w2 (hU.later hb2) (hV.later hb2)).mono fun e w9 hx => ?_
    obtain ⟨u1, u2, he, hv, hbl⟩ := hx
    exact ⟨u1, u2, _, _, _, he, hv, rowG_turn _ bf bg bfy bgy hp n2 hi, hbl⟩
  · exact plainT_any C H K 0 0 0 0 0 0 fz gz fy gy o p n L hp hL p2 (by omega) wo bo zo yo ao wc bc zc yc 0 0 cap _ (inZ_bd _ _) bf bg bfy bgy w2 (hU.later hb2) (hV.later hb2) hr
/-- A window's first place. -/
theorem y0_of {y D S P : Nat} (hy : y < D) (hD : D ≤ 256) (hS : S ≤ 16) (hP : P < 16) : IntKind.i64.wrap ((y : Int) * (S : Int)) = (y : Int) * (S : Int) ∧ IntKind.i64.wrap ((y : Int) * (S : Int) - (P : Int)) = (y : Int) * (S : Int) - (P : Int) ∧ (-5000 ≤ (y : Int) * (S : Int) - (P : Int) ∧ (y : Int) * (S : Int) - (P : Int) ≤ 5000) := by
  have h1 : y * S ≤ 256 * 16 := Nat.mul_le_mul (by omega) hS
  obtain ⟨m, hm⟩ : ∃ m, y * S = m := ⟨_, rfl⟩
  rw [← Int.natCast_mul, hm]
  rw [hm] at h1
  exact ⟨wrN (by omega), wrI (by omega), by omega⟩
set_option maxRecDepth 100000 in
set_option maxHeartbeats 8000000 in
theorem mdM2 (g0 g1 g2 g3 g4 g5 g6 seed c h k : Int) (hc : c ≤ 9223372036854775807) (hh : h ≤ 9223372036854775807) (hk : k ≤ 9223372036854775807) (hg : g0 ≤ 9223372036854775807) (w : World) : Calls Try.prog 5 #[.agg #[.int .i64 2, .int .i64 g0, .int .i64 g1, .int .i64 g2, .int .i64 g3, .int .i64 g4, .int .i64 g5, .int .i64 g6, .int .i64 seed], .agg #[.int .i64 c, .int .i64 h, .int .i64 k]] w fun e w' => MdM true 2 g0 g1 g2 g3 g4 g5 g6 c h k 0 (wrap64 (seed + 1)) w' e ∧ Below w.heap.size w w' := by
  refine (made_all 2 g0 g1 g2 g3 g4 g5 g6 seed c h k 0 (Or.inr ⟨by decide, rfl⟩) (LW2 g0 g1 g2 g3 g4 g5 g6 c h k) (fun q0 q1 q2 q3 hq => ?_) (lsW2 g0 g1 g2 g3 g4 g5 g6 c h k hc hh hk hg) w).mono fun e w' ⟨hm, hb⟩ => ⟨?_, hb⟩
  · obtain ⟨C, H, K, KH, KW, SH, SW, PH, PW, o, D1, D2, hw, hg0, ho, e0, e1, e2, e3⟩ := hq
    rw [e0, e1, e2, e3]
    exact ⟨by omega, by omega, by omega, by omega, by omega, by omega⟩
  rcases hm with h | ⟨q0, q1, q2, q3, v1, v2, v3, v4, hq, hq0, hq2, rfl, o1, o2, o3, o4⟩
  · exact .inl h
  obtain ⟨C, H, K, KH, KW, SH, SW, PH, PW, o, D1, D2, hw, hg0, ho, e0, e1, e2, e3⟩ := hq
  obtain ⟨r1, r2, r3, r4, r5, r6, r7, r8, r9⟩ := hw.e
  subst r1 r2 r3 r4 r5 r6 r7 r8 r9 hg0
  obtain ⟨L, hL⟩ : ∃ L, o * C * KH * KW = L := ⟨_, rfl⟩
  rw [hL] at e0
  obtain rfl : L = q0 := by omega
  obtain rfl : o = q1 := by omega
  obtain rfl : 0 = q2 := by omega
  obtain rfl : 0 = q3 := by omega
  clear e0 e1 e2 e3 hc hh hk hg
  obtain ⟨zo, zc, rfl⟩ := slM o3 (n := 0) (zV_len _ _)
  obtain ⟨yo, yc, rfl⟩ := slM o4 (n := 0) (yV_len _ _)
  rw [wV_fl] at o1
  rw [bV_fl] at o2
  obtain ⟨wo, wc, rfl, hU, _⟩ := rdFLc o1 (wL_lt _ _) (wL_len _ _)
  obtain ⟨bo, bc, rfl, hV, _⟩ := rdFLc o2 (bL_lt _ _) (bL_len _ _)
  obtain ⟨c1, h1, k1, hch⟩ := hw.sz
  obtain ⟨hC, hH, hK⟩ := le_prod3 c1 h1 k1 hch
  obtain ⟨f1, f2, f3, f4, f5, f6, f7, f8, f9, f10, f11, f12⟩ := hw.f
  have dd1 : 1 ≤ D1 := by rw [hw.d.1]; exact Nat.le_add_left 1 _
  have dd2 : 1 ≤ D2 := by rw [hw.d.2]; exact Nat.le_add_left 1 _
  obtain ⟨t1, hto⟩ := hw.t
  obtain ⟨ho256, hD1, hD2⟩ := le_prod3 t1 dd1 dd2 hto
  have hN : 1 ≤ o * D1 * D2 := Nat.mul_pos (Nat.mul_pos t1 dd1) dd2
  obtain ⟨n, hn⟩ : ∃ n, C * H * K = n := ⟨_, rfl⟩
  obtain ⟨s4, s5, n1, n2⟩ := q4_of c1 h1 k1 hch hn
  have kt := kit2W hw wo bo zo yo wc bc zc yc (wL seed L) (bL seed o)
  rw [hL] at kt
  refine .inr ⟨_, _, _, _, _, o * D1 * D2, n, gL (fun f y x => win2Z seed (inZ (wrap64 (seed + 1)) n) C H K KH KW f ((y : Int) * SH - PH) ((x : Int) * SW - PW)) D1 D2 (o * D1 * D2), rfl, ⟨⟨hN, hto, n1, n2⟩, s4, s5, ⟨rfl, rfl, rfl, rfl⟩, gL_len _ _ _ _, kt.1, fun i hi w2 hb2 => ?_⟩, fun w2 ao cap hb2 hr => ?_, fun _ w2 ao cap hb2 hr => ?_⟩
  · refine ((kt.2 i hi).2 w2 (hU.later hb2) (hV.later hb2)).mono fun e w9 hx => ?_
    obtain ⟨u1, u2, he, hv, hbl⟩ := hx
    exact ⟨u1, u2, _, _, _, he, hv, rowG_conv seed _ hw hn hL hi, hbl⟩
  · refine (plainN2 o KH KW SH SW PH PW C H K 0 wo bo zo yo ao L wc o bc 0 zc 0 yc n cap w2).mono fun e w9 hx => ?_
    exact ⟨_, hx.1, World.ownsRow_nil _ _ _ 1, hx.2⟩
  · refine windows2_any hw n _ wo bo zo yo ao L wc o bc 0 zc 0 yc cap w2 fun f y x hf hy hx wx hbx => ?_
    obtain ⟨a1, a2, a3⟩ := y0_of hy hD1 f6 (by omega : PH < 16)
    obtain ⟨b1, b2, b3⟩ := y0_of hx hD2 f8 (by omega : PW < 16)
    exact window2_any seed C H K KH KW SH SW PH PW n f y x o L hL ho256 hf hn hC hH hK f2 f4 _ _ _ _ a1 a2 b1 b2 a3 b3 wo bo zo yo ao wc bc zc yc 0 0 cap _ (inZ_bd _ _) wx ((hU.later hb2).later hbx) ((hV.later hb2).later hbx) (hr.later hbx)
set_option maxRecDepth 100000 in
set_option maxHeartbeats 8000000 in
theorem mdM4 (g0 g1 g2 g3 g4 g5 g6 seed c h k : Int) (AV : Nat) (hAV : AV = flZ (smallZ seed 7)) (hc : c ≤ 9223372036854775807) (hh : h ≤ 9223372036854775807) (hk : k ≤ 9223372036854775807) (w : World) : Calls Try.prog 5 #[.agg #[.int .i64 4, .int .i64 g0, .int .i64 g1, .int .i64 g2, .int .i64 g3, .int .i64 g4, .int .i64 g5, .int .i64 g6, .int .i64 seed], .agg #[.int .i64 c, .int .i64 h, .int .i64 k]] w fun e w' => MdM true 4 g0 g1 g2 g3 g4 g5 g6 c h k AV (wrap64 (seed + 1)) w' e ∧ Below w.heap.size w w' := by
  have hA : AV < 18446744073709551616 := by rw [hAV]; exact (flZ_lt (smallZ_bd _ _)).1
  have hF : Fin AV := by rw [hAV]; exact (flZ_lt (smallZ_bd _ _)).2
  refine (made_all 4 g0 g1 g2 g3 g4 g5 g6 seed c h k AV (Or.inl ⟨rfl, hAV⟩) (LW4 g0 g1 g2 g3 g4 g5 g6 c h k) (fun q0 q1 q2 q3 hq => ?_) (lsW4 g0 g1 g2 g3 g4 g5 g6 c h k hc hh hk AV hA hF) w).mono fun e w' ⟨hm, hb⟩ => ⟨?_, hb⟩
  · obtain ⟨C, H, K, KH, KW, SH, SW, PH, PW, o, D1, D2, hw, hg0, ho, e0, e1, e2, e3⟩ := hq
    rw [e0, e1, e2, e3]
    decide
  rcases hm with h | ⟨q0, q1, q2, q3, v1, v2, v3, v4, hq, hq0, hq2, rfl, o1, o2, o3, o4⟩
  · exact .inl h
  obtain ⟨C, H, K, KH, KW, SH, SW, PH, PW, o, D1, D2, hw, hg0, ho, e0, e1, e2, e3⟩ := hq
  obtain ⟨r1, r2, r3, r4, r5, r6, r7, r8, r9⟩ := hw.e
  subst r1 r2 r3 r4 r5 r6 r7 r8 r9 hg0
  obtain rfl : 0 = q0 := by omega
  obtain rfl : 0 = q1 := by omega
  obtain rfl : 0 = q2 := by omega
  obtain rfl : 0 = q3 := by omega
  clear e0 e1 e2 e3 hc hh hk
  obtain ⟨zo, zc, rfl⟩ := slM o3 (n := 0) (zV_len _ _)
  obtain ⟨yo, yc, rfl⟩ := slM o4 (n := 0) (yV_len _ _)
  obtain ⟨wo, wc, rfl⟩ := slM o1 (n := 0) (wV_len _ _)
  obtain ⟨bo, bc, rfl⟩ := slM o2 (n := 0) (bV_len _ _)
  obtain ⟨c1, h1, k1, hch⟩ := hw.sz
  obtain ⟨hC, hH, hK⟩ := le_prod3 c1 h1 k1 hch
  obtain ⟨f1, f2, f3, f4, f5, f6, f7, f8, f9, f10, f11, f12⟩ := hw.f
  have dd1 : 1 ≤ D1 := by rw [hw.d.1]; exact Nat.le_add_left 1 _
  have dd2 : 1 ≤ D2 := by rw [hw.d.2]; exact Nat.le_add_left 1 _
  obtain ⟨t1, hto⟩ := hw.t
  obtain ⟨ho256, hD1, hD2⟩ := le_prod3 t1 dd1 dd2 hto
  have hN : 1 ≤ o * D1 * D2 := Nat.mul_pos (Nat.mul_pos t1 dd1) dd2
  obtain ⟨n, hn⟩ : ∃ n, C * H * K = n := ⟨_, rfl⟩
  obtain ⟨s4, s5, n1, n2⟩ := q4_of c1 h1 k1 hch hn
  have kt := kit4W AV hA hF hw ho wo bo zo yo wc bc zc yc
  obtain ⟨a, ha⟩ : ∃ a, smallZ seed 7 = a := ⟨_, rfl⟩
  have hab : -9 ≤ a ∧ a ≤ 9 := ha ▸ smallZ_bd _ _
  rw [ha] at hAV
  refine .inr ⟨_, _, _, _, _, o * D1 * D2, n, gL (fun f y x => win4Z a (inZ (wrap64 (seed + 1)) n) H K KH KW f ((y : Int) * SH - PH) ((x : Int) * SW - PW)) D1 D2 (o * D1 * D2), rfl, ⟨⟨hN, hto, n1, n2⟩, s4, s5, ⟨rfl, rfl, rfl, rfl⟩, gL_len _ _ _ _, kt.1, fun i hi w2 hb2 => ?_⟩, fun w2 ao cap hb2 hr => ?_, fun _ w2 ao cap hb2 hr => ?_⟩
  · refine ((kt.2 i hi).2 w2).mono fun e w9 hx => ?_
    obtain ⟨u1, u2, he, hv, hbl⟩ := hx
    rw [hAV] at hv
    exact ⟨u1, u2, _, _, _, he, hv, rowG_mean a hab _ hw ho hn hi, hbl⟩
  · refine (plainN4 0 KH KW SH SW PH PW C H K AV wo bo zo yo ao 0 wc 0 bc 0 zc 0 yc n cap w2).mono fun e w9 hx => ?_
    exact ⟨_, hx.1, World.ownsRow_nil _ _ _ 1, hx.2⟩
  · refine windows4_any AV hw ho n _ wo bo zo yo ao 0 wc 0 bc 0 zc 0 yc cap w2 fun f y x hf hy hx wx hbx => ?_
    obtain ⟨a1, a2, a3⟩ := y0_of hy hD1 f6 (by omega : PH < 16)
    obtain ⟨b1, b2, b3⟩ := y0_of hx hD2 f8 (by omega : PW < 16)
    exact window4_any C H K KH KW SH SW PH PW n f y x AV a hAV hab 0 0 (ho ▸ hf) hn hC hH hK f2 f4 _ _ _ _ a1 a2 b1 b2 a3 b3 wo bo zo yo ao wc bc zc yc 0 0 cap _ (inZ_bd _ _) wx (hr.later hbx)
end Go.Proofs.Ytokglpemefkmjaa
