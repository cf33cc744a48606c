import Derived.Test.YtoehhnildocihaaSPr
namespace Go.Proofs.Ytoehhnildocihaa
open Go.RowKit
set_option linter.unusedVariables false
set_option linter.unusedSimpArgs false
/-- What Check tells. -/
def ckE (ls bs : List Int) (k : Int) : Int := if regB ls bs k = true then 0 else 180
theorem ckE_no {ls bs : List Int} {k : Int} (h : regB ls bs k = false) : ckE ls bs k = 180 := by unfold ckE; rw [h]; rfl
theorem ckE_ok {ls bs : List Int} {k : Int} (h : regB ls bs k = true) : ckE ls bs k = 0 := by unfold ckE; rw [h]; rfl
set_option maxRecDepth 100000 in
set_option maxHeartbeats 4000000 in
theorem refCheck_any (la ba : Option Addr) (n m c d : Nat) (ls bs : List Int) (k : Int) (w : World) (hl : RdIs w la n c ls) (ha : RdIs w ba m d bs) :
    Calls Try.prog 15 #[.agg #[.slice la n c, .slice ba m d], .int .i64 k] w fun e w' => e = .returned (.int .i64 (ckE ls bs k)) ∧ Below w.heap.size w w' := by
  have HL : Hid (∀ W', Below w.heap.size w W' → RdIs W' la n c ls) := fun W' hb => hl.later hb
  have HA : Hid (∀ W', Below w.heap.size w W' → RdIs W' ba m d bs) := fun W' hb => ha.later hb
  have HN : Hid (ls.length = n ∧ bs.length = m) := ⟨hl.length, ha.length⟩
  have X0 : Below w.heap.size w (w.alloc (.cells #[.slice la n c, .slice ba m d] 30)) := (Below.refl _ w).alloc (Nat.le_refl _) _
  have Y0 : (w.alloc (.cells #[.slice la n c, .slice ba m d] 30)).heap[w.heap.size]? = some (.cells #[.slice la n c, .slice ba m d] 30) := heap_alloc_new w _
  clear hl ha
  by_cases h0 : k < 0
  · have d0 : decide (k < 0) = true := decide_eq_true h0
    have HK : Hid (ckE ls bs k = 180) := ckE_no (by rw [Bool.eq_false_iff]; intro h; have := regB_len h; have := HN.out; omega)
    go_enter Try.func15, Try.ntmps15
    go_upto_region 1 with fail
    obtain ⟨X, hX⟩ : ∃ X, (w.alloc (.cells #[.slice la n c, .slice ba m d] 30)) = X := ⟨_, rfl⟩
    rw [hX] at X0 Y0 ⊢
    have c0 := cellAtJ Y0 0 _ rfl
    have c1 := cellAtJ Y0 1 _ rfl
    clear hX
    go_wp2_with fail
    go_ret
    exact ⟨by rw [HK.out]; rfl, X0⟩
  have d0 : decide (k < 0) = false := decide_eq_false h0
  by_cases h1 : k > 256
  · have d1 : decide (k > 256) = true := decide_eq_true h1
    have HK : Hid (ckE ls bs k = 180) := ckE_no (by rw [Bool.eq_false_iff]; intro h; have := regB_len h; have := HN.out; omega)
    go_enter Try.func15, Try.ntmps15
    go_upto_region 1 with fail
    obtain ⟨X, hX⟩ : ∃ X, (w.alloc (.cells #[.slice la n c, .slice ba m d] 30)) = X := ⟨_, rfl⟩
    rw [hX] at X0 Y0 ⊢
    have c0 := cellAtJ Y0 0 _ rfl
    have c1 := cellAtJ Y0 1 _ rfl
    clear hX
    go_wp2_with fail
    go_ret
    exact ⟨by rw [HK.out]; rfl, X0⟩
  have d1 : decide (k > 256) = false := decide_eq_false h1
  by_cases h2 : ¬ (n : Int) = k
  · have d2 : ((n : Int) != k) = true := by simpa using h2
    have HK : Hid (ckE ls bs k = 180) := ckE_no (by rw [Bool.eq_false_iff]; intro h; have := regB_len h; have := HN.out; omega)
    go_enter Try.func15, Try.ntmps15
    go_upto_region 1 with fail
    obtain ⟨X, hX⟩ : ∃ X, (w.alloc (.cells #[.slice la n c, .slice ba m d] 30)) = X := ⟨_, rfl⟩
    rw [hX] at X0 Y0 ⊢
    have c0 := cellAtJ Y0 0 _ rfl
    have c1 := cellAtJ Y0 1 _ rfl
    clear hX
    go_wp2_with fail
    go_ret
    exact ⟨by rw [HK.out]; rfl, X0⟩
  have h2 : (n : Int) = k := by omega
  have d2 : ((n : Int) != k) = false := by simp [h2]
  by_cases h3 : ¬ (m : Int) = k
  · have d3 : ((m : Int) != k) = true := by simpa using h3
    have HK : Hid (ckE ls bs k = 180) := ckE_no (by rw [Bool.eq_false_iff]; intro h; have := regB_len h; have := HN.out; omega)
    go_enter Try.func15, Try.ntmps15
    go_upto_region 1 with fail
    obtain ⟨X, hX⟩ : ∃ X, (w.alloc (.cells #[.slice la n c, .slice ba m d] 30)) = X := ⟨_, rfl⟩
    rw [hX] at X0 Y0 ⊢
    have c0 := cellAtJ Y0 0 _ rfl
    have c1 := cellAtJ Y0 1 _ rfl
    clear hX
    go_wp2_with fail
    go_ret
    exact ⟨by rw [HK.out]; rfl, X0⟩
  have h3 : (m : Int) = k := by omega
  have d3 : ((m : Int) != k) = false := by simp [h3]
  obtain rfl : m = n := by omega
  subst h2
  have hm : m ≤ 256 := by omega
  go_enter Try.func15, Try.ntmps15
  go_upto_region 1 with fail
  obtain ⟨X, hX⟩ : ∃ X, (w.alloc (.cells #[.slice la m c, .slice ba m d] 30)) = X := ⟨_, rfl⟩
  rw [hX] at X0 Y0 ⊢
  have c0 := cellAtJ Y0 0 _ rfl
  have c1 := cellAtJ Y0 1 _ rfl
  have P1 : Hid (Below w.heap.size w X ∧ X.heap[w.heap.size]? = some (.cells #[.slice la m c, .slice ba m d] 30) ∧ ∀ i, i < 0 → okP (ls[i]?.getD 0) (bs[i]?.getD 0) = true) := ⟨X0, Y0, fun i hi => absurd hi (Nat.not_lt_zero _)⟩
  clear hX X0 Y0
  go_wp2_with fail
  clear c0 c1 d0 d1 d2 d3 h0 h1 h3
  go_loopg [5] m (fun g iv wx => ∃ j : Nat, iv = .int .i64 j ∧ j + g = m ∧ Hid (Below w.heap.size w wx ∧ wx.heap[w.heap.size]? = some (.cells #[.slice la m c, .slice ba m d] 30) ∧ ∀ i, i < j → okP (ls[i]?.getD 0) (bs[i]?.getD 0) = true))
  case atStart => exact ⟨0, rfl, by omega, P1⟩
  case round =>
    clear P1
    obtain ⟨j, rfl, hj, P2⟩ := hrel
    by_cases hlt : j < m
    · have e1 : decide ((j : Int) < (m : Int)) = true := decide_eq_true (by omega)
      obtain ⟨q, rfl⟩ : ∃ q, gk = q + 1 := ⟨gk - 1, by omega⟩
      have HIG : Hid (j + (q + 1) = m) := hj
      have hlt' : (j : Int) < (m : Int) := by omega
      rcases (HL.out _ P2.out.1).cells with h0 | ⟨lb, lo, rfl, hcl⟩
      · omega
      rcases (HA.out _ P2.out.1).cells with h0 | ⟨bb, bo, rfl, hca⟩
      · omega
      have gl := hcl j hlt
      have ga := hca j hlt
      obtain ⟨x, hx⟩ : ∃ x, ls[j]?.getD 0 = x := ⟨_, rfl⟩
      obtain ⟨y, hy⟩ : ∃ y, bs[j]?.getD 0 = y := ⟨_, rfl⟩
      rw [hx] at gl
      rw [hy] at ga
      have HXY : Hid (ls[j]?.getD 0 = x ∧ bs[j]?.getD 0 = y) := ⟨hx, hy⟩
      have c0 := cellAtJ P2.out.2.1 0 _ rfl
      have c1 := cellAtJ P2.out.2.1 1 _ rfl
      clear hcl hca hx hy hj
      go_upto_region 6 with fail
      by_cases g1 : x < 0
      · have f1 : decide (x < 0) = true := decide_eq_true g1
        have HK : Hid (ckE ls bs m = 180) := ckE_no (by rw [Bool.eq_false_iff]; intro h; have h1 := (okP_iff _ _).1 (regB_at h j (by have := HN.out; omega)); rw [HXY.out.1, HXY.out.2] at h1; omega)
        go_quiet (fail)
        go_wp2_with fail
        go_ret
        exact ⟨by rw [HK.out]; rfl, below_drewN P2.out.1 _⟩
      have f1 : decide (x < 0) = false := decide_eq_false g1
      by_cases g2 : x > 8
      · have f2 : decide (x > 8) = true := decide_eq_true g2
        have HK : Hid (ckE ls bs m = 180) := ckE_no (by rw [Bool.eq_false_iff]; intro h; have h1 := (okP_iff _ _).1 (regB_at h j (by have := HN.out; omega)); rw [HXY.out.1, HXY.out.2] at h1; omega)
        go_quiet (fail)
        go_wp2_with fail
        go_ret
        exact ⟨by rw [HK.out]; rfl, below_drewN P2.out.1 _⟩
      have f2 : decide (x > 8) = false := decide_eq_false g2
      by_cases g3 : y < 0
      · have f3 : decide (y < 0) = true := decide_eq_true g3
        have HK : Hid (ckE ls bs m = 180) := ckE_no (by rw [Bool.eq_false_iff]; intro h; have h1 := (okP_iff _ _).1 (regB_at h j (by have := HN.out; omega)); rw [HXY.out.1, HXY.out.2] at h1; omega)
        go_quiet (fail)
        go_wp2_with fail
        go_ret
        exact ⟨by rw [HK.out]; rfl, below_drewN P2.out.1 _⟩
      have f3 : decide (y < 0) = false := decide_eq_false g3
      obtain ⟨L, rfl⟩ : ∃ L : Nat, x = L := ⟨x.toNat, by omega⟩
      obtain ⟨p, hp⟩ : ∃ p : Int, (2 : Int) ^ L = p := ⟨_, rfl⟩
      have hpb := pow8 (n := L) (by omega)
      rw [hp] at hpb
      have w1 : wrap64 (2 ^ L) = p := by rw [hp]; exact wrap64_inS _ (by omega)
      have HP : Hid ((2 : Int) ^ L = p) := hp
      clear hp
      by_cases g4 : y ≥ p
      · have f4 : decide (y ≥ p) = true := decide_eq_true g4
        have HK : Hid (ckE ls bs m = 180) := ckE_no (by rw [Bool.eq_false_iff]; intro h; have h1 := (okP_iff _ _).1 (regB_at h j (by have := HN.out; omega)); rw [HXY.out.1, HXY.out.2] at h1; rw [Int.toNat_natCast, HP.out] at h1; omega)
        go_quiet (fail)
        go_wp2_with fail
        go_ret
        exact ⟨by rw [HK.out]; rfl, below_drewN P2.out.1 _⟩
      have f4 : decide (y ≥ p) = false := decide_eq_false g4
      have HO : Hid (∀ i, i < j + 1 → okP (ls[i]?.getD 0) (bs[i]?.getD 0) = true) := by
        intro i hi
        rcases Nat.lt_or_ge i j with h | h
        · exact P2.out.2.2 i h
        · obtain rfl : i = j := by omega
          rw [HXY.out.1, HXY.out.2]
          exact (okP_iff _ _).2 ⟨by omega, by omega, by omega, by rw [Int.toNat_natCast, HP.out]; omega⟩
      go_quiet (fail)
      have P4 : Hid (Below w.heap.size w (wr.drewN nq) ∧ (wr.drewN nq).heap[w.heap.size]? = some (.cells #[.slice (some ⟨lb, lo, none⟩) m c, .slice (some ⟨bb, bo, none⟩) m d] 30) ∧ ∀ i, i < j + 1 → okP (ls[i]?.getD 0) (bs[i]?.getD 0) = true) := ⟨below_drewN P2.out.1 _, P2.out.2.1, HO.out⟩
      clear P2 c0 c1 gl ga w1
      go_wp2_with fail
      go_roundg q
      case measure => omega
      case rel => exact ⟨j + 1, by go_num, by have := HIG.out; omega, P4⟩
    · have e1 : decide ((j : Int) < (m : Int)) = false := decide_eq_false (by omega)
      have e2 : decide (j < m) = false := decide_eq_false hlt
      have HK : Hid (ckE ls bs m = 0) := ckE_ok ((regB_iff _ _ _).2 ⟨by omega, by have := HN.out; omega, by have := HN.out; omega, fun i hi => P2.out.2.2 i (by have := HN.out; omega)⟩)
      clear hj
      go_wp2_with fail
      go_ret
      exact ⟨by rw [HK.out]; rfl, P2.out.1⟩
end Go.Proofs.Ytoehhnildocihaa
