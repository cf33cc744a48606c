import Derived.Test.YtokglpemefkmjaaRMj
import Derived.Test.YtokglpemefkmjaaRMf
namespace Go.Proofs.Ytokglpemefkmjaa
open Go.RowKit
set_option linter.unusedVariables false
set_option linter.unusedSimpArgs false
/-- A turn's sum up to the input's complex coordinate j. -/
def tsZ (fz gz fy gy : Nat → Int) (vs : List Int) (p i : Nat) : Nat → Int × Int
  | 0 => (fy i, gy i)
  | j + 1 => ((tsZ fz gz fy gy vs p i j).1 + (fz (i * p + j) * vs[2 * j]?.getD 0 - gz (i * p + j) * vs[2 * j + 1]?.getD 0), (tsZ fz gz fy gy vs p i j).2 + (fz (i * p + j) * vs[2 * j + 1]?.getD 0 + gz (i * p + j) * vs[2 * j]?.getD 0))
theorem tsZ_bd {fz gz fy gy : Nat → Int} {vs : List Int} (hv : ∀ j : Nat, -9 ≤ vs[j]?.getD 0 ∧ vs[j]?.getD 0 ≤ 9) (h1 : ∀ j, -9 ≤ fz j ∧ fz j ≤ 9) (h2 : ∀ j, -9 ≤ gz j ∧ gz j ≤ 9) (h3 : ∀ j, -9 ≤ fy j ∧ fy j ≤ 9) (h4 : ∀ j, -9 ≤ gy j ∧ gy j ≤ 9) (p i : Nat) : ∀ j : Nat, (-(9 + 162 * (j : Int)) ≤ (tsZ fz gz fy gy vs p i j).1 ∧ (tsZ fz gz fy gy vs p i j).1 ≤ 9 + 162 * (j : Int)) ∧ (-(9 + 162 * (j : Int)) ≤ (tsZ fz gz fy gy vs p i j).2 ∧ (tsZ fz gz fy gy vs p i j).2 ≤ 9 + 162 * (j : Int))
  | 0 => by have := h3 i; have := h4 i; unfold tsZ; omega
  | j + 1 => by
    have a := tsZ_bd hv h1 h2 h3 h4 p i j
    have b1 := mul_small (h1 (i * p + j)) (hv (2 * j))
    have b2 := mul_small (h2 (i * p + j)) (hv (2 * j + 1))
    have b3 := mul_small (h1 (i * p + j)) (hv (2 * j + 1))
    have b4 := mul_small (h2 (i * p + j)) (hv (2 * j))
    unfold tsZ
    dsimp only
    omega
/-- What plain tells of a turn. -/
def plT (fz gz fy gy : Nat → Int) (vs : List Int) (p : Nat) : Nat → List Int
  | 0 => []
  | i + 1 => plT fz gz fy gy vs p i ++ [(tsZ fz gz fy gy vs p i p).1, (tsZ fz gz fy gy vs p i p).2]
theorem plT_len (fz gz fy gy : Nat → Int) (vs : List Int) (p : Nat) : ∀ i, (plT fz gz fy gy vs p i).length = 2 * i
  | 0 => rfl
  | i + 1 => by unfold plT; rw [List.length_append, plT_len fz gz fy gy vs p i]; simp; omega
/-- One step of it: the product, the sum. -/
theorem step_fw {a b u v : Nat} {z y c d s t : Int} (ha : a = flZ z) (hb : b = flZ y) (hz : -9 ≤ z ∧ z ≤ 9) (hy : -9 ≤ y ∧ y ≤ 9) (hc : -9 ≤ c ∧ c ≤ 9) (hd : -9 ≤ d ∧ d ≤ 9) (hu : FW u s) (hv : FW v t) (hs : -100000 ≤ s ∧ s ≤ 100000) (ht : -100000 ≤ t ∧ t ≤ 100000) :
    ∃ re im u' v', cMulBits a b (flZ c) (flZ d) = some (re, im) ∧ cSumBits .add .f64 u v re im = some (u', v') ∧ FW u' (s + (z * c - y * d)) ∧ FW v' (t + (z * d + y * c)) := by
  have b1 := mul_small hz hc
  have b2 := mul_small hy hd
  have b3 := mul_small hz hd
  have b4 := mul_small hy hc
  have fa : FW a z := ha ▸ fw_int z (lt53 (m := 1000) (by omega) (by omega))
  have fb : FW b y := hb ▸ fw_int y (lt53 (m := 1000) (by omega) (by omega))
  have fc : FW (flZ c) c := fw_int c (lt53 (m := 1000) (by omega) (by omega))
  have fd : FW (flZ d) d := fw_int d (lt53 (m := 1000) (by omega) (by omega))
  obtain ⟨re, im, h1, f1, f2⟩ := fw_cmul fa fb fc fd (lt53 (m := 1000) (by omega) (by omega)) (lt53 (m := 1000) (by omega) (by omega)) (lt53 (m := 1000) (by omega) (by omega)) (lt53 (m := 1000) (by omega) (by omega)) (lt53 (m := 1000) (by omega) (by omega)) (lt53 (m := 1000) (by omega) (by omega))
  obtain ⟨u', v', h2, f3, f4⟩ := fw_csum hu hv f1 f2 (lt53 (m := 1000000) (by omega) (by omega)) (lt53 (m := 1000000) (by omega) (by omega))
  exact ⟨re, im, u', v', h1, h2, f3, f4⟩
set_option maxRecDepth 100000 in
set_option maxHeartbeats 8000000 in
theorem wr_1 {j : Nat} (h : j < 1000) : IntKind.i64.wrap ((j : Int) + 1) = (j : Int) + 1 := by rw [IntKind.wrap_i64]; omega
theorem wr_2 {j : Nat} (h : j < 1000) : wrap64 ((j : Int) + 1) = (j : Int) + 1 := by unfold wrap64; omega
theorem wi_s {n : Int} (h : -20000 ≤ n ∧ n ≤ 20000) : IntKind.i64.wrap n = n := by rw [IntKind.wrap_i64]; omega
theorem w6_s {n : Int} (h : -20000 ≤ n ∧ n ≤ 20000) : wrap64 n = n := by unfold wrap64; omega
theorem one2 (a b : Int) : ∀ u ∈ [Value.int .i64 a, Value.int .i64 b], u.oneCell' = true := by
  intro u hu
  simp only [List.mem_cons, List.not_mem_nil, or_false] at hu
  rcases hu with rfl | rfl <;> rfl
theorem news2 (w : World) (a b : Int) : ∀ j u, [Value.int .i64 a, Value.int .i64 b][j]? = some u → (w.alloc (.cells #[.int .i64 a, .int .i64 b] 3)).cell? ((⟨w.heap.size, 0, none⟩ : Addr).add j) = some u := by
  intro j u hj
  match j, hj with
  | 0, hj =>
    simp only [List.getElem?_cons_zero, Option.some.injEq] at hj
    subst hj
    rw [Addr.add_lit, cell_of_row _ w.heap.size _ _ _ _ (heap_alloc_new w _)]
    rfl
  | 1, hj =>
    simp only [List.getElem?_cons_succ, List.getElem?_cons_zero, Option.some.injEq] at hj
    subst hj
    rw [Addr.add_lit, cell_of_row _ w.heap.size _ _ _ _ (heap_alloc_new w _)]
    rfl
  | j + 2, hj => simp at hj
set_option maxRecDepth 100000 in
set_option maxHeartbeats 8000000 in
theorem plainT_any (c h k g1 g2 g3 g4 g5 g6 : Int) (fz gz fy gy : Nat → Int) (o p n L : Nat) (hn : n = 2 * p) (hL : o * p = L) (ho : o ≤ 128) (hp : p ≤ 128) (wo bo zo yo ao : Option Addr) (wc bc zc yc nw nb cap : Nat) (vs : List Int) (hv : ∀ j : Nat, -9 ≤ vs[j]?.getD 0 ∧ vs[j]?.getD 0 ≤ 9) (h1 : ∀ j, -9 ≤ fz j ∧ fz j ≤ 9) (h2 : ∀ j, -9 ≤ gz j ∧ gz j ≤ 9) (h3 : ∀ j, -9 ≤ fy j ∧ fy j ≤ 9) (h4 : ∀ j, -9 ≤ gy j ∧ gy j ≤ 9) (w : World)
    (hU : RdC2 w zo L zc (fun j => flZ (fz j)) (fun j => flZ (gz j))) (hV : RdC2 w yo o yc (fun j => flZ (fy j)) (fun j => flZ (gy j))) (hR : RdIn w ao n cap vs) :
    Calls Try.prog 9 #[.agg #[.int .i64 6, .int .i64 (o : Int), .int .i64 g1, .int .i64 g2, .int .i64 g3, .int .i64 g4, .int .i64 g5, .int .i64 g6, .int .i64 0, .float .f64 0, .slice wo nw wc, .slice bo nb bc, .slice zo L zc, .slice yo o yc], .agg #[.int .i64 c, .int .i64 h, .int .i64 k], .slice ao n cap] w fun e w' => ∃ v, e = .returned v ∧ OwnM w' w.heap.size 3 v (inV (plT fz gz fy gy vs p o)) ∧ Below w.heap.size w w' := by
  have HU : Hid _ := hU
  have HV : Hid _ := hV
  have HR : Hid _ := hR
  have HVS : Hid ((∀ j : Nat, -9 ≤ vs[j]?.getD 0 ∧ vs[j]?.getD 0 ≤ 9) ∧ (∀ j, -9 ≤ fz j ∧ fz j ≤ 9) ∧ (∀ j, -9 ≤ gz j ∧ gz j ≤ 9) ∧ (∀ j, -9 ≤ fy j ∧ fy j ≤ 9) ∧ (∀ j, -9 ≤ gy j ∧ gy j ≤ 9)) := ⟨hv, h1, h2, h3, h4⟩
  have HN : Hid (n = 2 * p) := hn
  clear hU hV hR hv h1 h2 h3 h4 hn
  have X0 : Hid (Below w.heap.size w ((w.alloc (.cells #[.int .i64 6, .int .i64 (o : Int), .int .i64 g1, .int .i64 g2, .int .i64 g3, .int .i64 g4, .int .i64 g5, .int .i64 g6, .int .i64 0, .float .f64 0, .slice wo nw wc, .slice bo nb bc, .slice zo L zc, .slice yo o yc] 30)).alloc (.cells #[.int .i64 c, .int .i64 h, .int .i64 k] 25))) := ((Below.refl _ w).alloc (Nat.le_refl _) _).alloc (by simp only [alloc_size]; omega) _
  have Y0 : Hid (((w.alloc (.cells #[.int .i64 6, .int .i64 (o : Int), .int .i64 g1, .int .i64 g2, .int .i64 g3, .int .i64 g4, .int .i64 g5, .int .i64 g6, .int .i64 0, .float .f64 0, .slice wo nw wc, .slice bo nb bc, .slice zo L zc, .slice yo o yc] 30)).alloc (.cells #[.int .i64 c, .int .i64 h, .int .i64 k] 25)).heap[w.heap.size]? = some (.cells #[.int .i64 6, .int .i64 (o : Int), .int .i64 g1, .int .i64 g2, .int .i64 g3, .int .i64 g4, .int .i64 g5, .int .i64 g6, .int .i64 0, .float .f64 0, .slice wo nw wc, .slice bo nb bc, .slice zo L zc, .slice yo o yc] 30)) := alloc_kept (heap_alloc_new w _) _
  have Y1 : Hid (((w.alloc (.cells #[.int .i64 6, .int .i64 (o : Int), .int .i64 g1, .int .i64 g2, .int .i64 g3, .int .i64 g4, .int .i64 g5, .int .i64 g6, .int .i64 0, .float .f64 0, .slice wo nw wc, .slice bo nb bc, .slice zo L zc, .slice yo o yc] 30)).alloc (.cells #[.int .i64 c, .int .i64 h, .int .i64 k] 25)).heap[w.heap.size + 1]? = some (.cells #[.int .i64 c, .int .i64 h, .int .i64 k] 25)) := heap_at _ _ (w.heap.size + 1) (by simp only [alloc_size])
  go_enter Try.func9, Try.ntmps9
  go_upto_region 3 with fail
  generalize (w.alloc (.cells #[.int .i64 6, .int .i64 (o : Int), .int .i64 g1, .int .i64 g2, .int .i64 g3, .int .i64 g4, .int .i64 g5, .int .i64 g6, .int .i64 0, .float .f64 0, .slice wo nw wc, .slice bo nb bc, .slice zo L zc, .slice yo o yc] 30)).alloc (.cells #[.int .i64 c, .int .i64 h, .int .i64 k] 25) = W at X0 Y0 Y1 ⊢
  have l0 := cellAt Y0.out 0 (.int .i64 6) rfl
  go_wp2_with fail
  clear l0
  go_loopg [8, 14] o (fun g lv v wx => ∃ i : Nat, v = .int .i64 i ∧ i + g = o ∧ Hid (OwnM wx W.heap.size 3 lv (inV (plT fz gz fy gy vs p i))) ∧ Hid (Below W.heap.size W wx))
  case atStart => exact ⟨0, rfl, by omega, World.ownsRow_nil _ _ _ 1, Below.refl _ _⟩
  case round =>
    obtain ⟨i, rfl, hi, HL, HB⟩ := hrel
    obtain ⟨V, rfl⟩ : ∃ V, V = wr := ⟨_, rfl⟩
    have HY : Hid (V.heap[w.heap.size]? = _) := kept HB.out Y0.out
    have l1 := cellAt HY.out 1 (.int .i64 (o : Int)) rfl
    by_cases hlt : i < o
    · obtain ⟨g, rfl⟩ : ∃ g, gk = g + 1 := ⟨gk - 1, by omega⟩
      have HIG : Hid (i < o ∧ i + (g + 1) = o) := ⟨hlt, hi⟩
      have hd : decide ((i : Int) < (o : Int)) = true := decide_eq_true (by omega)
      have HU2 : Hid (RdC2 V zo L zc _ _) := HU.out.later (to_call X0.out HB.out)
      have HV2 : Hid (RdC2 V yo o yc _ _) := HV.out.later (to_call X0.out HB.out)
      have HR2 : Hid (RdIn V ao n cap vs) := HR.out.later (to_call X0.out HB.out)
      rcases HV2.out.cells with h0 | ⟨b2, off2, rfl, hc2⟩
      · exact absurd h0 (by omega)
      have l13 := cellAt HY.out 13 (.slice (some ⟨b2, off2, none⟩) o yc) rfl
      have t2 := hc2 i hlt
      obtain ⟨ua, hua⟩ : ∃ ua, flZ (fy i) = ua := ⟨_, rfl⟩
      obtain ⟨ub, hub⟩ : ∃ ub, flZ (gy i) = ub := ⟨_, rfl⟩
      rw [hua, hub] at t2
      have HUA : Hid (FW ua (fy i) ∧ FW ub (gy i)) := ⟨hua ▸ fw_int _ (lt53 (m := 1000) (by have := HVS.out.2.2.2.1 i; omega) (by omega)), hub ▸ fw_int _ (lt53 (m := 1000) (by have := HVS.out.2.2.2.2 i; omega) (by omega))⟩
      have i0 : (0 : Int) ≤ (i : Int) := by omega
      have i1 : (i : Int) < (o : Int) := by omega
      clear hi hc2 hua hub
      go_wp2_with fail
      clear l1 l13 t2
      go_loopg [15, 16] p (fun g sv v wx => ∃ (j u x : Nat), sv = .complex .f64 u x ∧ v = .int .i64 j ∧ j + g = p ∧ Hid (FW u (tsZ fz gz fy gy vs p i j).1 ∧ FW x (tsZ fz gz fy gy vs p i j).2) ∧ Hid (Below V.heap.size V wx))
      case atStart => exact ⟨0, ua, ub, rfl, rfl, by omega, HUA.out, Below.refl _ _⟩
      case round =>
        obtain ⟨j, u, x, rfl, rfl, hj, HS, HB2⟩ := hrel
        have hw0 : IntKind.i64.wrap (2 * (j : Int)) = ((2 * j : Nat) : Int) := by rw [IntKind.wrap_i64]; omega
        have hw0' : wrap64 (2 * (j : Int)) = ((2 * j : Nat) : Int) := by unfold wrap64; omega
        obtain ⟨jj, hjj⟩ : ∃ jj, 2 * j = jj := ⟨_, rfl⟩
        rw [hjj] at hw0 hw0'
        have HW0 : Hid (IntKind.i64.wrap (2 * (j : Int)) = (jj : Int) ∧ wrap64 (2 * (j : Int)) = (jj : Int)) := ⟨hw0, hw0'⟩
        clear hw0 hw0'
        by_cases hjl : j < p
        · obtain ⟨g2, rfl⟩ : ∃ g2, gk = g2 + 1 := ⟨gk - 1, by omega⟩
          have HJ : Hid (j < p ∧ j + (g2 + 1) = p) := ⟨hjl, hj⟩
          have hdj : decide ((jj : Int) < (n : Int)) = true := decide_eq_true (by have := HN.out; omega)
          have HY2 := kept HB2.out HY.out
          obtain ⟨q, hq⟩ : ∃ q : Nat, i * p + j = q := ⟨_, rfl⟩
          have hqL : q < L := by
            rw [← hq, ← hL]
            have : i * p + p ≤ o * p := by rw [← Nat.succ_mul]; exact Nat.mul_le_mul_right p hlt
            omega
          rcases HU2.out.cells with h0 | ⟨b1, off1, rfl, hc1⟩
          · exact absurd h0 (by omega)
          rcases HR2.out.cells with h0 | ⟨b3, off3, rfl, hc3⟩
          · exact absurd h0 (by have := HN.out; omega)
          obtain ⟨jk, hjk⟩ : ∃ jk, jj + 1 = jk := ⟨_, rfl⟩
          have t1' := hc1 q hqL
          have t3' := hc3 jj (by have := HN.out; omega)
          have t4' := hc3 jk (by have := HN.out; omega)
          obtain ⟨z, hz⟩ : ∃ z, fz q = z := ⟨_, rfl⟩
          obtain ⟨y, hy⟩ : ∃ y, gz q = y := ⟨_, rfl⟩
          obtain ⟨c1, hc1e⟩ : ∃ c1, vs[jj]?.getD 0 = c1 := ⟨_, rfl⟩
          obtain ⟨d1, hd1e⟩ : ∃ d1, vs[jk]?.getD 0 = d1 := ⟨_, rfl⟩
          rw [hz, hy] at t1'
          rw [hc1e] at t3'
          rw [hd1e] at t4'
          have hzb : -9 ≤ z ∧ z ≤ 9 := hz ▸ HVS.out.2.1 q
          have hyb : -9 ≤ y ∧ y ≤ 9 := hy ▸ HVS.out.2.2.1 q
          have hcb : -9 ≤ c1 ∧ c1 ≤ 9 := hc1e ▸ HVS.out.1 jj
          have hdb : -9 ≤ d1 ∧ d1 ≤ 9 := hd1e ▸ HVS.out.1 jk
          obtain ⟨a, hae⟩ : ∃ a, flZ z = a := ⟨_, rfl⟩
          obtain ⟨b, hbe⟩ : ∃ b, flZ y = b := ⟨_, rfl⟩
          rw [hae, hbe] at t1'
          have hsb := tsZ_bd HVS.out.1 HVS.out.2.1 HVS.out.2.2.1 HVS.out.2.2.2.1 HVS.out.2.2.2.2 p i j
          obtain ⟨re, im, u', x', hm1, hm2, hf1, hf2⟩ := step_fw hae.symm hbe.symm hzb hyb hcb hdb HS.out.1 HS.out.2 (by omega) (by omega)
          have HE : Hid (FW u' (tsZ fz gz fy gy vs p i (j + 1)).1 ∧ FW x' (tsZ fz gz fy gy vs p i (j + 1)).2) := by
            unfold Hid tsZ
            dsimp only
            rw [hjj, hjk, hq, hz, hy, hc1e, hd1e]
            exact ⟨hf1, hf2⟩
          have hmul := fun (w : World) => run_complex_mul (P := Try.prog) w 57 a b (flZ c1) (flZ d1) re im hm1
          have hsum := fun (w : World) => run_complex_sum (P := Try.prog) w .add (Or.inl rfl) 57 .f64 u x re im u' x' hm2
          have HF : Hid (∀ w', Below V.heap.size V w' → w'.cell? ⟨w.heap.size, 12, none⟩ = some (.slice (some ⟨b1, off1, none⟩) L zc) ∧ w'.cell? ⟨b1, off1 + q, none⟩ = some (.complex .f64 a b) ∧ w'.cell? ⟨b3, off3 + jj, none⟩ = some (.int .i64 c1) ∧ w'.cell? ⟨b3, off3 + jk, none⟩ = some (.int .i64 d1)) := fun w' hb => by
            refine ⟨cellAt (kept hb HY.out) 12 _ rfl, ?_, ?_, ?_⟩
            · rw [hb.cell (p := ⟨b1, off1 + q, none⟩) (World.block_lt_of_cell? _ _ t1')]; exact t1'
            · rw [hb.cell (p := ⟨b3, off3 + jj, none⟩) (World.block_lt_of_cell? _ _ t3')]; exact t3'
            · rw [hb.cell (p := ⟨b3, off3 + jk, none⟩) (World.block_lt_of_cell? _ _ t4')]; exact t4'
          have hj1000 : j < 1000 := by omega
          obtain ⟨m1, hm1e⟩ : ∃ m1, (i : Int) * (p : Int) = m1 := ⟨_, rfl⟩
          have hm1n : m1 = ((i * p : Nat) : Int) := by rw [← hm1e, Int.natCast_mul]
          have hip : i * p ≤ 128 * 128 := Nat.mul_le_mul (by omega) hp
          have e1 : (n : Int) / 2 = (p : Int) := by have := HN.out; omega
          have e1t : (n : Int).tdiv 2 = (p : Int) := by rw [Int.tdiv_eq_ediv_of_nonneg (by omega)]; have := HN.out; omega
          have q0 : (0 : Int) ≤ (q : Int) := by omega
          have q1 : (q : Int) < (L : Int) := by omega
          have k0 : (0 : Int) ≤ (jj : Int) := by omega
          have k1 : (jj : Int) < (n : Int) := by have := HN.out; omega
          have k2 : (0 : Int) ≤ (jk : Int) := by omega
          have k3 : (jk : Int) < (n : Int) := by have := HN.out; omega
          have bp : -20000 ≤ (p : Int) ∧ (p : Int) ≤ 20000 := by omega
          have bm : -20000 ≤ m1 ∧ m1 ≤ 20000 := by omega
          have bq : -20000 ≤ m1 + (j : Int) ∧ m1 + (j : Int) ≤ 20000 := by omega
          have bqe : m1 + (j : Int) = (q : Int) := by omega
          have bj : -20000 ≤ (jj : Int) + 1 ∧ (jj : Int) + 1 ≤ 20000 := by omega
          have bje : (jj : Int) + 1 = (jk : Int) := by omega
          have p0 : wrap64 ((n : Int) / 2) = (p : Int) := by rw [e1]; exact w6_s bp
          have p0t : wrap64 ((n : Int).tdiv 2) = (p : Int) := by rw [e1t]; exact w6_s bp
          have p0w : IntKind.i64.wrap ((n : Int) / 2) = (p : Int) := by rw [e1]; exact wi_s bp
          have p0p : IntKind.i64.wrap (p : Int) = (p : Int) := wi_s bp
          have p1 : IntKind.i64.wrap ((i : Int) * (p : Int)) = m1 := by rw [hm1e]; exact wi_s bm
          have p2 : IntKind.i64.wrap (m1 + (j : Int)) = (q : Int) := (wi_s bq).trans bqe
          have p3 : IntKind.i64.wrap ((jj : Int) + 1) = (jk : Int) := (wi_s bj).trans bje
          have hw1 : IntKind.i64.wrap ((j : Int) + 1) = (j : Int) + 1 := wr_1 hj1000
          have hw2 : wrap64 ((j : Int) + 1) = (j : Int) + 1 := wr_2 hj1000
          clear bp bm bq bqe bj bje hj1000
          clear hm1e hm1n hip e1 e1t hm1 hm2 hf1 hf2 hsb hae hbe hzb hyb hcb hdb hz hy hc1e hd1e t1' t3' t4' hc1 hc3 hqL hq hjk hjj hj hjl HY2
          obtain ⟨hw0, hw0'⟩ := HW0.out
          go_upto_region 28 with fail
          clear hdj
          have bX : Below V.heap.size V wr.drew := HB2.out.drew
          refine wp_region_noPanic ?_
          refine wp_region_held_drew (S := (fun W' => Below V.heap.size V W')) (by kernel_rfl) bX (fun _ => ?_)
          refine takeH 115 (i := 0) (v := ?_) rfl rfl (by kernel_rfl) (by kernel_rfl) (by kernel_rfl) (fun _ _ _ h => h) (Or.inl ⟨by kernel_rfl, ?_⟩) bX ?_
          rotate_left
          · intro w' hSw; obtain ⟨c12, t1, t3, t4⟩ := HF.out w' hSw; go_simp; try with_reducible rfl
          try simp only [Act.put, List.setIfInBounds_toArray, List.set_cons_zero, List.set_cons_succ]
          refine takeH 116 (i := 1) (v := ?_) rfl rfl (by kernel_rfl) (by kernel_rfl) (by kernel_rfl) (fun _ _ _ h => h) (Or.inl ⟨by kernel_rfl, ?_⟩) bX ?_
          rotate_left
          · intro w' hSw; obtain ⟨c12, t1, t3, t4⟩ := HF.out w' hSw; go_simp; try with_reducible rfl
          try simp only [Act.put, List.setIfInBounds_toArray, List.set_cons_zero, List.set_cons_succ]
          refine takeH 117 (i := 2) (v := ?_) rfl rfl (by kernel_rfl) (by kernel_rfl) (by kernel_rfl) (fun _ _ _ h => h) (Or.inl ⟨by kernel_rfl, ?_⟩) bX ?_
          rotate_left
          · intro w' hSw; obtain ⟨c12, t1, t3, t4⟩ := HF.out w' hSw; go_simp; try with_reducible rfl
          try simp only [Act.put, List.setIfInBounds_toArray, List.set_cons_zero, List.set_cons_succ]
          refine takeH 118 (i := 3) (v := ?_) rfl rfl (by kernel_rfl) (by kernel_rfl) (by kernel_rfl) (fun _ _ _ h => h) (Or.inl ⟨by kernel_rfl, ?_⟩) bX ?_
          rotate_left
          · intro w' hSw; obtain ⟨c12, t1, t3, t4⟩ := HF.out w' hSw; go_simp; try with_reducible rfl
          try simp only [Act.put, List.setIfInBounds_toArray, List.set_cons_zero, List.set_cons_succ]
          refine takeH 119 (i := 4) (v := ?_) rfl rfl (by kernel_rfl) (by kernel_rfl) (by kernel_rfl) (fun _ _ _ h => h) (Or.inl ⟨by kernel_rfl, ?_⟩) bX ?_
          rotate_left
          · intro w' hSw; obtain ⟨c12, t1, t3, t4⟩ := HF.out w' hSw; go_simp; try with_reducible rfl
          try simp only [Act.put, List.setIfInBounds_toArray, List.set_cons_zero, List.set_cons_succ]
          refine takeH 120 (i := 5) (v := ?_) rfl rfl (by kernel_rfl) (by kernel_rfl) (by kernel_rfl) (fun _ _ _ h => h) (Or.inl ⟨by kernel_rfl, ?_⟩) bX ?_
          rotate_left
          · intro w' hSw; obtain ⟨c12, t1, t3, t4⟩ := HF.out w' hSw; go_simp; try with_reducible rfl
          try simp only [Act.put, List.setIfInBounds_toArray, List.set_cons_zero, List.set_cons_succ]
          refine takeH 121 (i := 6) (v := ?_) rfl rfl (by kernel_rfl) (by kernel_rfl) (by kernel_rfl) (fun _ _ _ h => h) (Or.inl ⟨by kernel_rfl, ?_⟩) bX ?_
          rotate_left
          · intro w' hSw; obtain ⟨c12, t1, t3, t4⟩ := HF.out w' hSw; go_simp; try with_reducible rfl
          try simp only [Act.put, List.setIfInBounds_toArray, List.set_cons_zero, List.set_cons_succ]
          refine takeH 122 (i := 7) (v := ?_) rfl rfl (by kernel_rfl) (by kernel_rfl) (by kernel_rfl) (fun _ _ _ h => h) (Or.inl ⟨by kernel_rfl, ?_⟩) bX ?_
          rotate_left
          · intro w' hSw; obtain ⟨c12, t1, t3, t4⟩ := HF.out w' hSw; go_simp; try with_reducible rfl
          try simp only [Act.put, List.setIfInBounds_toArray, List.set_cons_zero, List.set_cons_succ]
          refine takeH 123 (i := 8) (v := ?_) rfl rfl (by kernel_rfl) (by kernel_rfl) (by kernel_rfl) (fun _ _ _ h => h) (Or.inl ⟨by kernel_rfl, ?_⟩) bX ?_
          rotate_left
          · intro w' hSw; obtain ⟨c12, t1, t3, t4⟩ := HF.out w' hSw; go_simp; try with_reducible rfl
          try simp only [Act.put, List.setIfInBounds_toArray, List.set_cons_zero, List.set_cons_succ]
          refine takeH 124 (i := 9) (v := ?_) rfl rfl (by kernel_rfl) (by kernel_rfl) (by kernel_rfl) (fun _ _ _ h => h) (Or.inl ⟨by kernel_rfl, ?_⟩) bX ?_
          rotate_left
          · intro w' hSw; obtain ⟨c12, t1, t3, t4⟩ := HF.out w' hSw; go_simp; try with_reducible rfl
          try simp only [Act.put, List.setIfInBounds_toArray, List.set_cons_zero, List.set_cons_succ]
          refine takeH 125 (i := 10) (v := ?_) rfl rfl (by kernel_rfl) (by kernel_rfl) (by kernel_rfl) (fun _ _ _ h => h) (Or.inl ⟨by kernel_rfl, ?_⟩) bX ?_
          rotate_left
          · intro w' hSw; obtain ⟨c12, t1, t3, t4⟩ := HF.out w' hSw; go_simp; try with_reducible rfl
          try simp only [Act.put, List.setIfInBounds_toArray, List.set_cons_zero, List.set_cons_succ]
          refine takeH 126 (i := 11) (v := ?_) rfl rfl (by kernel_rfl) (by kernel_rfl) (by kernel_rfl) (fun _ _ _ h => h) (Or.inl ⟨by kernel_rfl, ?_⟩) bX ?_
          rotate_left
          · intro w' hSw; obtain ⟨c12, t1, t3, t4⟩ := HF.out w' hSw; go_simp; try with_reducible rfl
          try simp only [Act.put, List.setIfInBounds_toArray, List.set_cons_zero, List.set_cons_succ]
          refine takeH 127 (i := 12) (v := ?_) rfl rfl (by kernel_rfl) (by kernel_rfl) (by kernel_rfl) (fun _ _ _ h => h) (Or.inl ⟨by kernel_rfl, ?_⟩) bX ?_
          rotate_left
          · intro w' hSw; obtain ⟨c12, t1, t3, t4⟩ := HF.out w' hSw; go_simp; try with_reducible rfl
          try simp only [Act.put, List.setIfInBounds_toArray, List.set_cons_zero, List.set_cons_succ]
          refine takeH 128 (i := 13) (v := ?_) rfl rfl (by kernel_rfl) (by kernel_rfl) (by kernel_rfl) (fun _ _ _ h => h) (Or.inl ⟨by kernel_rfl, ?_⟩) bX ?_
          rotate_left
          · intro w' hSw; obtain ⟨c12, t1, t3, t4⟩ := HF.out w' hSw; go_simp; try with_reducible rfl
          try simp only [Act.put, List.setIfInBounds_toArray, List.set_cons_zero, List.set_cons_succ]
          refine takeH 129 (i := 14) (v := ?_) rfl rfl (by kernel_rfl) (by kernel_rfl) (by kernel_rfl) (fun _ _ _ h => h) (Or.inl ⟨by kernel_rfl, ?_⟩) bX ?_
          rotate_left
          · intro w' hSw; obtain ⟨c12, t1, t3, t4⟩ := HF.out w' hSw; go_simp; try with_reducible rfl
          try simp only [Act.put, List.setIfInBounds_toArray, List.set_cons_zero, List.set_cons_succ]
          refine takeH 130 (i := 15) (v := ?_) rfl rfl (by kernel_rfl) (by kernel_rfl) (by kernel_rfl) (fun _ _ _ h => h) (Or.inl ⟨by kernel_rfl, ?_⟩) bX ?_
          rotate_left
          · intro w' hSw; obtain ⟨c12, t1, t3, t4⟩ := HF.out w' hSw; go_simp; try with_reducible rfl
          try simp only [Act.put, List.setIfInBounds_toArray, List.set_cons_zero, List.set_cons_succ]
          refine takeH 131 (i := 16) (v := ?_) rfl rfl (by kernel_rfl) (by kernel_rfl) (by kernel_rfl) (fun _ _ _ h => h) (Or.inl ⟨by kernel_rfl, ?_⟩) bX ?_
          rotate_left
          · intro w' hSw; obtain ⟨c12, t1, t3, t4⟩ := HF.out w' hSw; go_simp; try with_reducible rfl
          try simp only [Act.put, List.setIfInBounds_toArray, List.set_cons_zero, List.set_cons_succ]
          refine takeH 132 (i := 17) (v := ?_) rfl rfl (by kernel_rfl) (by kernel_rfl) (by kernel_rfl) (fun _ _ _ h => h) (Or.inl ⟨by kernel_rfl, ?_⟩) bX ?_
          rotate_left
          · intro w' hSw; obtain ⟨c12, t1, t3, t4⟩ := HF.out w' hSw; go_simp; try with_reducible rfl
          try simp only [Act.put, List.setIfInBounds_toArray, List.set_cons_zero, List.set_cons_succ]
          refine takeH 133 (i := 18) (v := ?_) rfl rfl (by kernel_rfl) (by kernel_rfl) (by kernel_rfl) (fun _ _ _ h => h) (Or.inl ⟨by kernel_rfl, ?_⟩) bX ?_
          rotate_left
          · intro w' hSw; obtain ⟨c12, t1, t3, t4⟩ := HF.out w' hSw; go_simp; try with_reducible rfl
          try simp only [Act.put, List.setIfInBounds_toArray, List.set_cons_zero, List.set_cons_succ]
          refine takeH 134 (i := 19) (v := ?_) rfl rfl (by kernel_rfl) (by kernel_rfl) (by kernel_rfl) (fun _ _ _ h => h) (Or.inl ⟨by kernel_rfl, ?_⟩) bX ?_
          rotate_left
          · intro w' hSw; obtain ⟨c12, t1, t3, t4⟩ := HF.out w' hSw; go_simp; try with_reducible rfl
          try simp only [Act.put, List.setIfInBounds_toArray, List.set_cons_zero, List.set_cons_succ]
          refine takeH 135 (i := 20) (v := ?_) rfl rfl (by kernel_rfl) (by kernel_rfl) (by kernel_rfl) (fun _ _ _ h => h) (Or.inl ⟨by kernel_rfl, ?_⟩) bX ?_
          rotate_left
          · intro w' hSw; obtain ⟨c12, t1, t3, t4⟩ := HF.out w' hSw; go_simp; try with_reducible rfl
          try simp only [Act.put, List.setIfInBounds_toArray, List.set_cons_zero, List.set_cons_succ]
          refine takeH 136 (i := 21) (v := ?_) rfl rfl (by kernel_rfl) (by kernel_rfl) (by kernel_rfl) (fun _ _ _ h => h) (Or.inl ⟨by kernel_rfl, ?_⟩) bX ?_
          rotate_left
          · intro w' hSw; obtain ⟨c12, t1, t3, t4⟩ := HF.out w' hSw; go_simp; try with_reducible rfl
          try simp only [Act.put, List.setIfInBounds_toArray, List.set_cons_zero, List.set_cons_succ]
          refine takeH 137 (i := 22) (v := ?_) rfl rfl (by kernel_rfl) (by kernel_rfl) (by kernel_rfl) (fun _ _ _ h => h) (Or.inl ⟨by kernel_rfl, ?_⟩) bX ?_
          rotate_left
          · intro w' hSw; obtain ⟨c12, t1, t3, t4⟩ := HF.out w' hSw; go_simp; try with_reducible rfl
          try simp only [Act.put, List.setIfInBounds_toArray, List.set_cons_zero, List.set_cons_succ]
          refine takeH 138 (i := 23) (v := ?_) rfl rfl (by kernel_rfl) (by kernel_rfl) (by kernel_rfl) (fun _ _ _ h => h) (Or.inl ⟨by kernel_rfl, ?_⟩) bX ?_
          rotate_left
          · intro w' hSw; obtain ⟨c12, t1, t3, t4⟩ := HF.out w' hSw; go_simp; try with_reducible rfl
          try simp only [Act.put, List.setIfInBounds_toArray, List.set_cons_zero, List.set_cons_succ]
          refine takeH 139 (i := 24) (v := (.complex .f64 (flZ c1) (flZ d1))) rfl rfl (by kernel_rfl) (by kernel_rfl) (by kernel_rfl) (fun _ _ _ h => h) (Or.inl ⟨by kernel_rfl, fun w' _ => by kernel_rfl⟩) bX ?_
          try simp only [Act.put, List.setIfInBounds_toArray, List.set_cons_zero, List.set_cons_succ]
          refine takeH 140 (i := 25) (v := ?_) rfl rfl (by kernel_rfl) (by kernel_rfl) (by kernel_rfl) (fun _ _ _ h => h) (Or.inl ⟨by kernel_rfl, ?_⟩) bX ?_
          rotate_left
          · intro w' hSw; skip; go_simp; try with_reducible rfl
          try simp only [Act.put, List.setIfInBounds_toArray, List.set_cons_zero, List.set_cons_succ]
          refine takeH 141 (i := 26) (v := ?_) rfl rfl (by kernel_rfl) (by kernel_rfl) (by kernel_rfl) (fun _ _ _ h => h) (Or.inl ⟨by kernel_rfl, ?_⟩) bX ?_
          rotate_left
          · intro w' hSw; skip; go_simp; try with_reducible rfl
          try simp only [Act.put, List.setIfInBounds_toArray, List.set_cons_zero, List.set_cons_succ]
          refine takeH 15 (i := 27) (v := ?_) rfl rfl (by kernel_rfl) (by kernel_rfl) (by kernel_rfl) (fun _ _ _ h => h) (Or.inl ⟨by kernel_rfl, ?_⟩) bX ?_
          rotate_left
          · intro w' hSw; skip; go_simp; try with_reducible rfl
          try simp only [Act.put, List.setIfInBounds_toArray, List.set_cons_zero, List.set_cons_succ]
          refine wpAnyH_done (by kernel_rfl) ?_ _
          refine NoPanic.normal ?_
          try simp only [Act.put, List.setIfInBounds_toArray, List.set_cons_zero, List.set_cons_succ]
          have HB3 : Hid (Below V.heap.size V wr.drew) := bX
          clear bX HF hmul hsum hw0 hw0' HW0 p0 p0t p0w p0p p1 p2 p3 q0 q1 k0 k1 k2 k3
          go_wp2_with fail
          go_roundg g2
          case measure => omega
          case rel => exact ⟨j + 1, u', x', rfl, by go_num, by have := HJ.out; omega, HE, HB3⟩
        · obtain rfl : p = j := by omega
          have hdj : decide ((jj : Int) < (n : Int)) = false := decide_eq_false (by have := HN.out; omega)
          have hsb := tsZ_bd HVS.out.1 HVS.out.2.1 HVS.out.2.2.1 HVS.out.2.2.2.1 HVS.out.2.2.2.2 p i p
          obtain ⟨sa, hsa⟩ : ∃ sa, (tsZ fz gz fy gy vs p i p).1 = sa := ⟨_, rfl⟩
          obtain ⟨sb, hsb'⟩ : ∃ sb, (tsZ fz gz fy gy vs p i p).2 = sb := ⟨_, rfl⟩
          rw [hsa, hsb'] at hsb
          have hba : sa.natAbs ≤ 1000000 := by omega
          have hbb : sb.natAbs ≤ 1000000 := by omega
          have hcv : ∀ w, (convert 26 3 (.float .f64 u)).run Try.prog w = .ok (.int .i64 sa) w := fun w => conv_fw (hsa ▸ HS.out.1) hba w
          have hcx : ∀ w, (convert 26 3 (.float .f64 x)).run Try.prog w = .ok (.int .i64 sb) w := fun w => conv_fw (hsb' ▸ HS.out.2) hbb w
          clear hba hbb
          have HE : Hid (plT fz gz fy gy vs p (i + 1) = plT fz gz fy gy vs p i ++ [sa, sb]) := by
            show plT fz gz fy gy vs p i ++ [_, _] = _
            rw [hsa, hsb']
          have HLE : Hid ((inV (plT fz gz fy gy vs p i)).length + 2 ≤ 1000000) := by unfold Hid inV; rw [List.length_map, plT_len]; have := HIG.out; omega
          have HBS : Hid (W.heap.size ≤ wr.heap.size) := Nat.le_trans HB.out.size HB2.out.size
          have HB3 : Hid (Below W.heap.size W wr) := to_call HB.out HB2.out
          have HL3 : Hid _ := OwnM.keep HL.out fun k hk => HB2.out.block k (OwnM.lt HL.out k hk).2
          have hi1000 : i < 1000 := by have := HIG.out; omega
          have hw1 : IntKind.i64.wrap ((i : Int) + 1) = (i : Int) + 1 := wr_1 hi1000
          have hw2 : wrap64 ((i : Int) + 1) = (i : Int) + 1 := wr_2 hi1000
          clear hi1000
          clear hjl hj hlt hsa hsb' hsb
          have hnl : ¬ jj < n := by have := HN.out; omega
          have hnz : (n : Int) ≤ (jj : Int) := by omega
          obtain ⟨hw0, hw0'⟩ := HW0.out
          go_wp2_with (at_builtin; refine append_gr Try.underlying35 Try.infoIm rfl (by decide) (wr.alloc (.cells #[.int .i64 sa, .int .i64 sb] 3)) (by rfl) _ _ (by rfl) W.heap.size u8 (inV (plT fz gz fy gy vs p i)) (by rfl) (World.ownsRow.alloc HL3.out _) ⟨wr.heap.size, 0, none⟩ 2 2 [.int .i64 sa, .int .i64 sb] (by rfl) rfl (by decide) (news2 wr _ _) (one2 _ _) HLE.out (by simp only [alloc_size]; exact Nat.le_succ_of_le HBS.out) ?_; intro v5 w5 o5 gw5)
          have HL5 : Hid (OwnM w5 W.heap.size 3 v5 (inV (plT fz gz fy gy vs p (i + 1)))) := by
            unfold Hid
            rw [HE.out, inV, List.map_append]
            exact o5
          have HB5 : Hid (Below W.heap.size W w5) := (HB3.out.alloc HBS.out _).trans (gw5.below (fun k hk => (OwnM.lt HL3.out k hk).1) (by simp only [alloc_size]; exact Nat.le_succ_of_le HBS.out))
          clear HL HL3 HB HB2 HB3 HLE HBS o5 gw5
          go_roundg g
          case measure => omega
          case rel => exact ⟨i + 1, by go_num, by have := HIG.out; omega, HL5, HB5⟩
    · obtain rfl : o = i := by omega
      have hd : decide ((o : Int) < (o : Int)) = false := decide_eq_false (by omega)
      clear hlt hi
      go_wp2_with fail
      go_ret
      exact ⟨_, rfl, own_mono HL.out X0.out.size, to_call X0.out HB.out⟩
end Go.Proofs.Ytokglpemefkmjaa
