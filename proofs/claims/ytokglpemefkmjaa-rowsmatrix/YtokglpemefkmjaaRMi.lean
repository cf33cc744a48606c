import Derived.Test.YtokglpemefkmjaaRWw
namespace Go.Proofs.Ytokglpemefkmjaa
open Go.RowKit
set_option linter.unusedVariables false
set_option linter.unusedSimpArgs false
/-- The law's input. -/
def inZ (s : Int) (n : Nat) : List Int := (List.range n).map fun (i : Nat) => smallZ s (i : Int)
theorem inZ_snoc (s : Int) (n : Nat) : inZ s (n + 1) = inZ s n ++ [smallZ s (n : Int)] := by unfold inZ; rw [List.range_succ, List.map_append]; rfl
theorem inZ_len (s : Int) (n : Nat) : (inZ s n).length = n := by unfold inZ; simp
/-- The input at a place; 0 outside. -/
def atZ (vs : List Int) (H K c y x : Int) : Int := if 0 ≤ y ∧ y < H ∧ 0 ≤ x ∧ x < K then vs[((c * H + y) * K + x).toNat]?.getD 0 else 0
set_option maxRecDepth 100000 in
set_option maxHeartbeats 8000000 in
theorem input_any (seed s : Int) (n : Nat) (hs : wrap64 (seed + 1) = s) (hn : n ≤ 1000) (w : World) : Calls Try.prog 8 #[.int .i64 seed, .int .i64 (n : Int)] w fun e w' => ∃ v, e = .returned v ∧ OwnM w' w.heap.size 3 v (inV (inZ s n)) ∧ Below w.heap.size w w' := by
  go_enter Try.func8, Try.ntmps8
  go_wp2_with fail
  go_loopg [5, 6] n (fun g lv v wx => ∃ j : Nat, v = .int .i64 j ∧ j + g = n ∧ Hid (OwnM wx w.heap.size 3 lv (inV (inZ s j))) ∧ Hid (Below w.heap.size w wx))
  case atStart => exact ⟨0, rfl, by omega, World.ownsRow_nil _ _ _ 1, Below.refl _ _⟩
  case round =>
    obtain ⟨j, rfl, hj, HL, HB⟩ := hrel
    by_cases hlt : j < n
    · obtain ⟨g, rfl⟩ : ∃ g, gk = g + 1 := ⟨gk - 1, by omega⟩
      have hd : decide ((j : Int) < (n : Int)) = true := decide_eq_true (by omega)
      have hw1 : IntKind.i64.wrap ((j : Int) + 1) = (j : Int) + 1 := by rw [IntKind.wrap_i64]; omega
      have hw2 : wrap64 ((j : Int) + 1) = (j : Int) + 1 := by unfold wrap64; omega
      have HIG : Hid (j + (g + 1) = n) := hj
      clear hj
      go_wp2_with fail
      rw [hs]
      refine Calls.mono (small_any s (j : Int) _) ?_
      rintro e m ⟨rfl, hm⟩
      subst hm
      have HLE : Hid ((inV (inZ s j)).length + 1 ≤ 1000000) := by unfold Hid inV; rw [List.length_map, inZ_len]; omega
      have HBS : Hid (w.heap.size ≤ m.heap.size) := HB.out.size
      go_wp2_with (at_builtin; refine append_gr1 Try.underlying35 Try.infoIm rfl (by decide) m (by rfl) _ _ (by rfl) w.heap.size u5 (inV (inZ s j)) (by rfl) HL.out (.int .i64 (smallZ s (j : Int))) (by rfl) rfl HLE.out HBS.out ?_; intro v5 w5 o5 gw5)
      have HL5 : Hid (OwnM w5 w.heap.size 3 v5 (inV (inZ s (j + 1)))) := by
        unfold Hid
        rw [inZ_snoc, inV, List.map_append]
        exact o5
      have HB5 : Hid (Below w.heap.size w w5) := HB.out.trans (gw5.below (fun k hk => (OwnM.lt HL.out k hk).1) HBS.out)
      clear HL HB HLE HBS o5 gw5
      go_roundg g
      case measure => omega
      case rel => exact ⟨j + 1, by go_num, by have := HIG.out; omega, HL5, HB5⟩
    · obtain rfl : n = j := by omega
      have hd : decide ((n : Int) < (n : Int)) = false := decide_eq_false (by omega)
      clear hlt hj
      go_wp2_with fail
      go_ret
      exact ⟨_, rfl, HL.out, HB.out⟩
set_option maxRecDepth 100000 in
set_option maxHeartbeats 8000000 in
theorem at_any (ao : Option Addr) (len cap : Nat) (vs : List Int) (c h k q y x m1 m2 m3 m4 : Int) (w : World) (hR : RdIn w ao len cap vs) (b1 : IntKind.i64.wrap (q * h) = m1) (b2 : IntKind.i64.wrap (m1 + y) = m2) (b3 : IntKind.i64.wrap (m2 * k) = m3) (b4 : IntKind.i64.wrap (m3 + x) = m4)
    (hin : 0 ≤ y ∧ y < h ∧ 0 ≤ x ∧ x < k → m4 = (q * h + y) * k + x ∧ 0 ≤ m4 ∧ m4 < len) :
    Calls Try.prog 34 #[.slice ao len cap, .agg #[.int .i64 c, .int .i64 h, .int .i64 k], .int .i64 q, .int .i64 y, .int .i64 x] w fun e w' => e = .returned (.int .i64 (atZ vs h k q y x)) ∧ Below w.heap.size w w' := by
  have X0 : Below w.heap.size w (w.alloc (.cells #[.int .i64 c, .int .i64 h, .int .i64 k] 25)) := (Below.refl _ w).alloc (Nat.le_refl _) _
  have Y0 : (w.alloc (.cells #[.int .i64 c, .int .i64 h, .int .i64 k] 25)).heap[w.heap.size]? = _ := heap_alloc_new w _
  have s1 := cellAt Y0 1 (.int .i64 h) rfl
  have s2 := cellAt Y0 2 (.int .i64 k) rfl
  have HX : Hid _ := X0
  clear X0
  go_enter Try.func34, Try.ntmps34
  by_cases o1 : y < 0
  · have d1 : decide (y < 0) = true := decide_eq_true o1
    have ha : atZ vs h k q y x = 0 := if_neg (by omega)
    rw [ha]
    go_wp2_with fail
    go_ret
    exact ⟨rfl, HX.out⟩
  by_cases o2 : h ≤ y
  · have d1 : decide (y < 0) = false := decide_eq_false o1
    have d2 : decide (h ≤ y) = true := decide_eq_true o2
    have ha : atZ vs h k q y x = 0 := if_neg (by omega)
    rw [ha]
    go_wp2_with fail
    go_ret
    exact ⟨rfl, HX.out⟩
  by_cases o3 : x < 0
  · have d1 : decide (y < 0) = false := decide_eq_false o1
    have d2 : decide (h ≤ y) = false := decide_eq_false o2
    have d3 : decide (x < 0) = true := decide_eq_true o3
    have ha : atZ vs h k q y x = 0 := if_neg (by omega)
    rw [ha]
    go_wp2_with fail
    go_ret
    exact ⟨rfl, HX.out⟩
  by_cases o4 : k ≤ x
  · have d1 : decide (y < 0) = false := decide_eq_false o1
    have d2 : decide (h ≤ y) = false := decide_eq_false o2
    have d3 : decide (x < 0) = false := decide_eq_false o3
    have d4 : decide (k ≤ x) = true := decide_eq_true o4
    have ha : atZ vs h k q y x = 0 := if_neg (by omega)
    rw [ha]
    go_wp2_with fail
    go_ret
    exact ⟨rfl, HX.out⟩
  obtain ⟨e4, i0, i1⟩ := hin ⟨by omega, by omega, by omega, by omega⟩
  have ha : atZ vs h k q y x = vs[m4.toNat]?.getD 0 := by unfold atZ; rw [if_pos ⟨by omega, by omega, by omega, by omega⟩, ← e4]
  rw [ha]
  have d1 : decide (y < 0) = false := decide_eq_false o1
  have d2 : decide (h ≤ y) = false := decide_eq_false o2
  have d3 : decide (x < 0) = false := decide_eq_false o3
  have d4 : decide (k ≤ x) = false := decide_eq_false o4
  obtain ⟨n, hn⟩ : ∃ n : Nat, m4 = n := ⟨m4.toNat, by omega⟩
  subst hn
  rcases hR.cells with h0 | ⟨b, off, rfl, hc⟩
  · omega
  have t0' := hc n (by omega)
  have t0 : (w.alloc (.cells #[.int .i64 c, .int .i64 h, .int .i64 k] 25)).cell? ⟨b, off + n, none⟩ = some (.int .i64 (vs[n]?.getD 0)) := by rw [HX.out.cell (p := ⟨b, off + n, none⟩) (World.block_lt_of_cell? w _ t0')]; exact t0'
  obtain ⟨u, hu⟩ : ∃ u, vs[n]?.getD 0 = u := ⟨_, rfl⟩
  rw [hu] at t0
  rw [Int.toNat_natCast, hu]
  have j0 : (0 : Int) ≤ (n : Int) := by omega
  clear t0' hc hR hin e4 hu ha i0
  go_wp2_with fail
  go_ret
  exact ⟨rfl, HX.out⟩
end Go.Proofs.Ytokglpemefkmjaa
