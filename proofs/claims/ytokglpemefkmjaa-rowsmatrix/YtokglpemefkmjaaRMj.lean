import Derived.Test.YtokglpemefkmjaaRMi
namespace Go.Proofs.Ytokglpemefkmjaa
open Go.RowKit
set_option linter.unusedVariables false
set_option linter.unusedSimpArgs false
theorem flZ_backA : ∀ n : _root_.Fin 19, (FloatKind.f64.decode (flZ ((n : Nat) - 9 : Int))).toInt .zero = some ((n : Nat) - 9 : Int) := by decide +kernel
/-- A small whole number's float goes back to it. -/
theorem back_conv {z : Int} (h : -9 ≤ z ∧ z ≤ 9) (w : World) : (convert 26 3 (.float .f64 (flZ z))).run Try.prog w = .ok (.int .i64 z) w := by
  have hk : ∀ u : Nat, (convert 26 3 (.float .f64 u)).run Try.prog w = (Conv.floatToInt .f64 u .i64).run Try.prog w := fun u => by kernel_rfl
  have hb := flZ_backA ⟨(z + 9).toNat, by omega⟩
  rw [show (((⟨(z + 9).toNat, by omega⟩ : _root_.Fin 19) : Nat) - 9 : Int) = z by simp; omega] at hb
  rw [hk]
  unfold Conv.floatToInt
  simp only [hb]
  have h1 : IntKind.i64.min = -9223372036854775808 := by decide
  have h2 : IntKind.i64.max = 9223372036854775807 := by decide
  rw [if_pos (by rw [h1, h2]; omega)]
  simp only [Sem.run_pure]
theorem map_range_at (f : Nat → Nat) {p j : Nat} (h : j < p) : ((List.range p).map f)[j]?.getD 0 = f j := by
  rw [List.getElem?_map, List.getElem?_range h]
  rfl
theorem wL_at (seed : Int) {p j : Nat} (h : j < p) : (wL seed p)[j]?.getD 0 = flZ (smallZ seed (3 * (j : Int))) := by
  unfold wL
  exact map_range_at (fun i => flZ (smallZ seed (3 * (i : Int)))) h
theorem bL_at (seed : Int) {p j : Nat} (h : j < p) : (bL seed p)[j]?.getD 0 = flZ (smallZ seed (5 * (j : Int) + 1)) := by
  unfold bL
  exact map_range_at (fun i => flZ (smallZ seed (5 * (i : Int) + 1))) h
theorem mul_small {a b : Int} (ha : -9 ≤ a ∧ a ≤ 9) (hb : -9 ≤ b ∧ b ≤ 9) : -81 ≤ a * b ∧ a * b ≤ 81 := by
  have h1 : (a * b).natAbs ≤ 9 * 9 := by rw [Int.natAbs_mul]; exact Nat.mul_le_mul (by omega) (by omega)
  omega
/-- A dense layer's sum up to the input's coordinate j. -/
def dsZ (seed : Int) (vs : List Int) (n i : Nat) : Nat → Int
  | 0 => smallZ seed (5 * (i : Int) + 1)
  | j + 1 => dsZ seed vs n i j + smallZ seed (3 * ((i * n + j : Nat) : Int)) * vs[j]?.getD 0
theorem dsZ_bd {seed : Int} {vs : List Int} (hv : ∀ j : Nat, -9 ≤ vs[j]?.getD 0 ∧ vs[j]?.getD 0 ≤ 9) (n i : Nat) : ∀ j : Nat, -(9 + 81 * (j : Int)) ≤ dsZ seed vs n i j ∧ dsZ seed vs n i j ≤ 9 + 81 * (j : Int)
  | 0 => by have := smallZ_bd seed (5 * (i : Int) + 1); unfold dsZ; omega
  | j + 1 => by
    have h1 := dsZ_bd (seed := seed) hv n i j
    have h2 := mul_small (smallZ_bd seed (3 * ((i * n + j : Nat) : Int))) (hv j)
    unfold dsZ
    omega
/-- What plain tells of a dense layer. -/
def plD (seed : Int) (vs : List Int) (n o : Nat) : List Int := (List.range o).map fun i => dsZ seed vs n i n
theorem plD_snoc (seed : Int) (vs : List Int) (n i : Nat) : plD seed vs n (i + 1) = plD seed vs n i ++ [dsZ seed vs n i n] := by unfold plD; rw [List.range_succ, List.map_append]; rfl
theorem plD_len (seed : Int) (vs : List Int) (n o : Nat) : (plD seed vs n o).length = o := by unfold plD; simp
theorem agFF (w : World) : (isAgg 27).run Try.prog w = .ok false w := by kernel_rfl
set_option maxRecDepth 100000 in
set_option maxHeartbeats 8000000 in
theorem plainD_any (seed c h k g1 g2 g3 g4 g5 g6 : Int) (o n L : Nat) (hL : o * n = L) (ho : o ≤ 256) (hn : n ≤ 256) (wo bo zo yo ao : Option Addr) (wc bc zc yc nz ny cap : Nat) (vs : List Int) (hv : ∀ j : Nat, -9 ≤ vs[j]?.getD 0 ∧ vs[j]?.getD 0 ≤ 9) (w : World)
    (hU : RdF w wo L wc (wL seed L)) (hV : RdF w bo o bc (bL seed o)) (hR : RdIn w ao n cap vs) :
    Calls Try.prog 9 #[.agg #[.int .i64 1, .int .i64 (o : Int), .int .i64 g1, .int .i64 g2, .int .i64 g3, .int .i64 g4, .int .i64 g5, .int .i64 g6, .int .i64 0, .float .f64 0, .slice wo L wc, .slice bo o bc, .slice zo nz zc, .slice yo ny yc], .agg #[.int .i64 c, .int .i64 h, .int .i64 k], .slice ao n cap] w fun e w' => ∃ v, e = .returned v ∧ OwnM w' w.heap.size 3 v (inV (plD seed vs n o)) ∧ Below w.heap.size w w' := by
  have HU : Hid _ := hU
  have HV : Hid _ := hV
  have HR : Hid _ := hR
  have HVS : Hid (∀ j : Nat, -9 ≤ vs[j]?.getD 0 ∧ vs[j]?.getD 0 ≤ 9) := hv
  clear hU hV hR hv
  have X0 : Hid (Below w.heap.size w ((w.alloc (.cells #[.int .i64 1, .int .i64 (o : Int), .int .i64 g1, .int .i64 g2, .int .i64 g3, .int .i64 g4, .int .i64 g5, .int .i64 g6, .int .i64 0, .float .f64 0, .slice wo L wc, .slice bo o bc, .slice zo nz zc, .slice yo ny yc] 30)).alloc (.cells #[.int .i64 c, .int .i64 h, .int .i64 k] 25))) := ((Below.refl _ w).alloc (Nat.le_refl _) _).alloc (by simp only [alloc_size]; omega) _
  have Y0 : Hid (((w.alloc (.cells #[.int .i64 1, .int .i64 (o : Int), .int .i64 g1, .int .i64 g2, .int .i64 g3, .int .i64 g4, .int .i64 g5, .int .i64 g6, .int .i64 0, .float .f64 0, .slice wo L wc, .slice bo o bc, .slice zo nz zc, .slice yo ny yc] 30)).alloc (.cells #[.int .i64 c, .int .i64 h, .int .i64 k] 25)).heap[w.heap.size]? = some (.cells #[.int .i64 1, .int .i64 (o : Int), .int .i64 g1, .int .i64 g2, .int .i64 g3, .int .i64 g4, .int .i64 g5, .int .i64 g6, .int .i64 0, .float .f64 0, .slice wo L wc, .slice bo o bc, .slice zo nz zc, .slice yo ny yc] 30)) := alloc_kept (heap_alloc_new w _) _
  go_enter Try.func9, Try.ntmps9
  go_upto_region 3 with fail
  generalize (w.alloc (.cells #[.int .i64 1, .int .i64 (o : Int), .int .i64 g1, .int .i64 g2, .int .i64 g3, .int .i64 g4, .int .i64 g5, .int .i64 g6, .int .i64 0, .float .f64 0, .slice wo L wc, .slice bo o bc, .slice zo nz zc, .slice yo ny yc] 30)).alloc (.cells #[.int .i64 c, .int .i64 h, .int .i64 k] 25) = W at X0 Y0 ⊢
  have l0 := cellAt Y0.out 0 (.int .i64 1) rfl
  go_wp2_with fail
  clear l0
  go_loopg [8, 9] o (fun g lv v wx => ∃ i : Nat, v = .int .i64 i ∧ i + g = o ∧ Hid (OwnM wx W.heap.size 3 lv (inV (plD seed vs n i))) ∧ Hid (Below W.heap.size W wx))
  case atStart => exact ⟨0, rfl, by omega, World.ownsRow_nil _ _ _ 1, Below.refl _ _⟩
  case round =>
    obtain ⟨i, rfl, hi, HL, HB⟩ := hrel
    have HY : Hid (wr.heap[w.heap.size]? = _) := kept HB.out Y0.out
    have l1 := cellAt HY.out 1 (.int .i64 (o : Int)) rfl
    by_cases hlt : i < o
    · obtain ⟨g, rfl⟩ : ∃ g, gk = g + 1 := ⟨gk - 1, by omega⟩
      have HIG : Hid (i < o ∧ i + (g + 1) = o) := ⟨hlt, hi⟩
      have hd : decide ((i : Int) < (o : Int)) = true := decide_eq_true (by omega)
      have HU2 : Hid (RdF wr wo L wc (wL seed L)) := HU.out.later (to_call X0.out HB.out)
      have HV2 : Hid (RdF wr bo o bc (bL seed o)) := HV.out.later (to_call X0.out HB.out)
      have HR2 : Hid (RdIn wr ao n cap vs) := HR.out.later (to_call X0.out HB.out)
      rcases HV2.out.cells with h0 | ⟨b2, off2, rfl, hc2⟩
      · exact absurd h0 (by omega)
      have l11 := cellAt HY.out 11 (.slice (some ⟨b2, off2, none⟩) o bc) rfl
      have t2 := hc2 i hlt
      rw [bL_at seed hlt] at t2
      obtain ⟨b, hb⟩ : ∃ b, smallZ seed (5 * (i : Int) + 1) = b := ⟨_, rfl⟩
      rw [hb] at t2
      have hbb : -9 ≤ b ∧ b ≤ 9 := hb ▸ smallZ_bd _ _
      have hcv := back_conv hbb
      have i0 : (0 : Int) ≤ (i : Int) := by omega
      have i1 : (i : Int) < (o : Int) := by omega
      have HBE : Hid (dsZ seed vs n i 0 = b) := hb
      clear hi hc2 hb hbb
      go_wp2_with fail
      clear l1 l11 t2 hcv
      go_loopg [10, 11] n (fun g sv v wx => ∃ (j : Nat) (s : Int), sv = .int .i64 s ∧ v = .int .i64 j ∧ j + g = n ∧ Hid (s = dsZ seed vs n i j) ∧ Hid (Below wr.heap.size wr wx))
      case atStart => exact ⟨0, b, rfl, rfl, by omega, HBE.out.symm, Below.refl _ _⟩
      case round =>
        obtain ⟨j, s, rfl, rfl, hj, HS, HB2⟩ := hrel
        by_cases hjl : j < n
        · obtain ⟨g2, rfl⟩ : ∃ g2, gk = g2 + 1 := ⟨gk - 1, by omega⟩
          have HJ : Hid (j < n ∧ j + (g2 + 1) = n) := ⟨hjl, hj⟩
          have hdj : decide ((j : Int) < (n : Int)) = true := decide_eq_true (by omega)
          have HY2 := kept HB2.out HY.out
          obtain ⟨q, hq⟩ : ∃ q : Nat, i * n + j = q := ⟨_, rfl⟩
          have HQ : Hid (i * n + j = q) := hq
          have hqL : q < L := by
            rw [← hq, ← hL]
            have : i * n + n ≤ o * n := by rw [← Nat.succ_mul]; exact Nat.mul_le_mul_right n hlt
            omega
          rcases HU2.out.cells with h0 | ⟨b1, off1, rfl, hc1⟩
          · exact absurd h0 (by omega)
          rcases HR2.out.cells with h0 | ⟨b3, off3, rfl, hc3⟩
          · exact absurd h0 (by omega)
          have l10 := cellAt HY2 10 (.slice (some ⟨b1, off1, none⟩) L wc) rfl
          have t1' := hc1 q hqL
          have t3' := hc3 j hjl
          rw [wL_at seed hqL] at t1'
          obtain ⟨z, hz⟩ : ∃ z, smallZ seed (3 * (q : Int)) = z := ⟨_, rfl⟩
          obtain ⟨y, hy⟩ : ∃ y, vs[j]?.getD 0 = y := ⟨_, rfl⟩
          rw [hz] at t1'
          rw [hy] at t3'
          have hzb : -9 ≤ z ∧ z ≤ 9 := hz ▸ smallZ_bd _ _
          have hyb : -9 ≤ y ∧ y ≤ 9 := hy ▸ HVS.out j
          have t1 : wr.cell? ⟨b1, off1 + q, none⟩ = some (.float .f64 (flZ z)) := by rw [HB2.out.cell (p := ⟨b1, off1 + q, none⟩) (World.block_lt_of_cell? _ _ t1')]; exact t1'
          have t3 : wr.cell? ⟨b3, off3 + j, none⟩ = some (.int .i64 y) := by rw [HB2.out.cell (p := ⟨b3, off3 + j, none⟩) (World.block_lt_of_cell? _ _ t3')]; exact t3'
          have hcv := back_conv hzb
          have hsb := dsZ_bd (seed := seed) HVS.out n i j
          rw [← HS.out] at hsb
          have hzy := mul_small hzb hyb
          have HE : Hid (s + z * y = dsZ seed vs n i (j + 1)) := by unfold Hid dsZ; rw [HS.out, hq, hz, hy]
          obtain ⟨zy, hzye⟩ : ∃ zy, z * y = zy := ⟨_, rfl⟩
          rw [hzye] at hzy HE
          obtain ⟨s', hs'⟩ : ∃ s', s + zy = s' := ⟨_, rfl⟩
          rw [hs'] at HE
          have p3 : IntKind.i64.wrap (z * y) = zy := by rw [hzye, IntKind.wrap_i64]; omega
          have p4 : IntKind.i64.wrap (s + zy) = s' := by rw [hs', IntKind.wrap_i64]; omega
          obtain ⟨m1, hm1⟩ : ∃ m1, (i : Int) * (n : Int) = m1 := ⟨_, rfl⟩
          have hm1n : m1 = ((i * n : Nat) : Int) := by rw [← hm1, Int.natCast_mul]
          have hin : i * n ≤ 256 * 256 := Nat.mul_le_mul (by omega) hn
          have p1 : IntKind.i64.wrap ((i : Int) * (n : Int)) = m1 := by rw [hm1, IntKind.wrap_i64]; omega
          have p2 : IntKind.i64.wrap (m1 + (j : Int)) = (q : Int) := by rw [IntKind.wrap_i64]; omega
          have q0 : (0 : Int) ≤ (q : Int) := by omega
          have q1 : (q : Int) < (L : Int) := by omega
          have j0 : (0 : Int) ≤ (j : Int) := by omega
          have j1 : (j : Int) < (n : Int) := by omega
          have hw1 : IntKind.i64.wrap ((j : Int) + 1) = (j : Int) + 1 := by rw [IntKind.wrap_i64]; omega
          have hw2 : wrap64 ((j : Int) + 1) = (j : Int) + 1 := by unfold wrap64; omega
          clear hm1 hm1n hin hs' hzye hsb hzy hzb hyb hz hy t1' t3' hc1 hc3 hq hj hqL
          go_upto_region 12 with fail
          go_quiet (fail)
          have S9 : Hid _ := below_drewN HB2.out nq
          clear t1 t3 l10 p1 p2 p3 p4 hcv q0 q1 j0 j1 HY2
          go_wp2_with fail
          go_roundg g2
          case measure => omega
          case rel => exact ⟨j + 1, s', rfl, by go_num, by have := HJ.out; omega, HE, S9⟩
        · obtain rfl : n = j := by omega
          have hdj : decide ((n : Int) < (n : Int)) = false := decide_eq_false (by omega)
          have HLE : Hid ((inV (plD seed vs n i)).length + 1 ≤ 1000000) := by unfold Hid inV; rw [List.length_map, plD_len]; have := HIG.out; omega
          have HBS : Hid (W.heap.size ≤ wr.heap.size) := Nat.le_trans HB.out.size HB2.out.size
          have HB3 : Hid (Below W.heap.size W wr) := to_call HB.out HB2.out
          have HL3 : Hid _ := OwnM.keep HL.out fun k hk => HB2.out.block k (OwnM.lt HL.out k hk).2
          have hw1 : IntKind.i64.wrap ((i : Int) + 1) = (i : Int) + 1 := by have := HIG.out; rw [IntKind.wrap_i64]; omega
          have hw2 : wrap64 ((i : Int) + 1) = (i : Int) + 1 := by have := HIG.out; unfold wrap64; omega
          clear hjl hj hlt
          go_wp2_with (at_builtin; refine append_gr1 Try.underlying35 Try.infoIm rfl (by decide) wr (by rfl) _ _ (by rfl) W.heap.size u8 (inV (plD seed vs n i)) (by rfl) HL3.out (.int .i64 s) (by rfl) rfl HLE.out HBS.out ?_; intro v5 w5 o5 gw5)
          have HL5 : Hid (OwnM w5 W.heap.size 3 v5 (inV (plD seed vs n (i + 1)))) := by
            unfold Hid
            rw [plD_snoc, ← HS.out, inV, List.map_append]
            exact o5
          have HB5 : Hid (Below W.heap.size W w5) := HB3.out.trans (gw5.below (fun k hk => (OwnM.lt HL3.out k hk).1) HBS.out)
          clear HL HL3 HB HB2 HB3 HLE HBS o5 gw5
          go_roundg g
          case measure => omega
          case rel => exact ⟨i + 1, by go_num, by have := HIG.out; omega, HL5, HB5⟩
    · obtain rfl : o = i := by omega
      have hd : decide ((o : Int) < (o : Int)) = false := decide_eq_false (by omega)
      clear hlt hi
      go_wp2_with fail
      go_ret
      exact ⟨_, rfl, own_mono HL.out X0.out.size, to_call X0.out HB.out⟩
end Go.Proofs.Ytokglpemefkmjaa
