import Derived.Test.YtoehhnildocihaaSPb
namespace Go.Proofs.Ytoehhnildocihaa
open Go.RowKit
set_option linter.unusedVariables false
set_option linter.unusedSimpArgs false
/-- There is such a part. -/
def okP (l a : Int) : Bool := decide (0 ≤ l) && decide (l ≤ 8) && decide (0 ≤ a) && decide (a < 2 ^ l.toNat)
theorem okP_iff (l a : Int) : okP l a = true ↔ 0 ≤ l ∧ l ≤ 8 ∧ 0 ≤ a ∧ a < 2 ^ l.toNat := by unfold okP; simp [and_assoc]
theorem pow8 {n : Nat} (h : n ≤ 8) : (1 : Int) ≤ 2 ^ n ∧ (2 : Int) ^ n ≤ 256 := by
  have h1 : 2 ^ n ≤ 2 ^ 8 := Nat.pow_le_pow_right (by decide) h
  have h2 := Nat.two_pow_pos n
  have h3 : ((2 ^ n : Nat) : Int) = (2 : Int) ^ n := by simp
  omega
theorem pow62 {n : Nat} (h : n ≤ 62) : (1 : Int) ≤ 2 ^ n ∧ (2 : Int) ^ n ≤ 4611686018427387904 := by
  have h1 : 2 ^ n ≤ 2 ^ 62 := Nat.pow_le_pow_right (by decide) h
  have h2 := Nat.two_pow_pos n
  have h3 : ((2 ^ n : Nat) : Int) = (2 : Int) ^ n := by simp
  omega
theorem alloc_at (w : World) (c : Obj) (k : Nat) (h : w.heap.size = k) : (w.alloc c).heap[k]? = some c := h ▸ heap_alloc_new w c
theorem wrap64_inS (n : Int) (h : -9223372036854775808 ≤ n ∧ n ≤ 9223372036854775807) : wrap64 n = n := by unfold wrap64; omega
theorem wrU (n : Int) : IntKind.u64.wrap n = n % 18446744073709551616 := by
  unfold IntKind.wrap
  simp [IntKind.signed, IntKind.bits]
theorem Try.szPT : (Try.prog.info? 69).map (·.size) = some 2 := by kernel_rfl
theorem Try.szRT : (Try.prog.info? 30).map (·.size) = some 2 := by kernel_rfl
section
variable (f : Func) (tmps : Array Value) (W : World) (ty : TypeId) (u : TypeDesc) (n : Nat)
theorem load_blk (hu : Try.prog.underlying ty = some u) (hd : u.isRow = true) (hi : (Try.prog.info? ty).map (·.size) = some n) (B : Nat) (c : Array Value) (hc : c.size = n) (h : W.heap[B]? = some (.cells c ty)) : (loadVar ty ⟨B, 0, none⟩).run Try.prog W = .ok (.agg c) W := by
  have hr : W.rangeAt B 0 c.toList := by
    have := World.rangeAt_of_block h 0 c.size
    simpa using this
  have hl := run_loadVar_mid (P := Try.prog) W B 0 ty c.toList _ hr hu hd (by rw [hi]; simp [hc])
  simpa using hl
theorem res_c (i : Nat) (hf : f.results = #[ResultVar.cell i ty]) (B : Nat) (c : Array Value) (hp : tmps[i]? = some (.pointer (some ⟨B, 0, none⟩)))
    (hu : Try.prog.underlying ty = some u) (hd : u.isRow = true) (hi : (Try.prog.info? ty).map (·.size) = some n) (hc : c.size = n) (h : W.heap[B]? = some (.cells c ty)) : (results f tmps).run Try.prog W = .ok (.agg c) W := by
  simp [results, hf, hp, load_blk W ty u n hu hd hi B c hc h, asAddr]
theorem res_ct (i j : Nat) (hf : f.results = #[ResultVar.cell i ty, ResultVar.tmp j]) (B : Nat) (c : Array Value) (v : Value) (hp : tmps[i]? = some (.pointer (some ⟨B, 0, none⟩))) (hv : tmps[j]? = some v)
    (hu : Try.prog.underlying ty = some u) (hd : u.isRow = true) (hi : (Try.prog.info? ty).map (·.size) = some n) (hc : c.size = n) (h : W.heap[B]? = some (.cells c ty)) : (results f tmps).run Try.prog W = .ok (.tuple #[.agg c, v]) W := by
  simp [results, hf, hp, hv, load_blk W ty u n hu hd hi B c hc h, asAddr]
theorem res_cc (i j : Nat) (hf : f.results = #[ResultVar.cell i ty, ResultVar.cell j ty]) (B C : Nat) (c d : Array Value) (hp : tmps[i]? = some (.pointer (some ⟨B, 0, none⟩))) (hq : tmps[j]? = some (.pointer (some ⟨C, 0, none⟩)))
    (hu : Try.prog.underlying ty = some u) (hd : u.isRow = true) (hi : (Try.prog.info? ty).map (·.size) = some n) (hc : c.size = n) (hcd : d.size = n) (h : W.heap[B]? = some (.cells c ty)) (h' : W.heap[C]? = some (.cells d ty)) : (results f tmps).run Try.prog W = .ok (.tuple #[.agg c, .agg d]) W := by
  simp [results, hf, hp, hq, load_blk W ty u n hu hd hi B c hc h, load_blk W ty u n hu hd hi C d hcd h', asAddr]
theorem res_cct (i j k : Nat) (hf : f.results = #[ResultVar.cell i ty, ResultVar.cell j ty, ResultVar.tmp k]) (B C : Nat) (c d : Array Value) (v : Value) (hp : tmps[i]? = some (.pointer (some ⟨B, 0, none⟩))) (hq : tmps[j]? = some (.pointer (some ⟨C, 0, none⟩))) (hv : tmps[k]? = some v)
    (hu : Try.prog.underlying ty = some u) (hd : u.isRow = true) (hi : (Try.prog.info? ty).map (·.size) = some n) (hc : c.size = n) (hcd : d.size = n) (h : W.heap[B]? = some (.cells c ty)) (h' : W.heap[C]? = some (.cells d ty)) : (results f tmps).run Try.prog W = .ok (.tuple #[.agg c, .agg d, v]) W := by
  simp [results, hf, hp, hq, hv, load_blk W ty u n hu hd hi B c hc h, load_blk W ty u n hu hd hi C d hcd h', asAddr]
end
set_option maxRecDepth 100000 in
set_option maxHeartbeats 4000000 in
theorem exists_any (l a : Int) (w : World) : Calls Try.prog 26 #[.agg #[.int .i64 l, .int .i64 a]] w fun e w' => e = .returned (.bool (okP l a)) ∧ Below w.heap.size w w' := by
  have X0 : Below w.heap.size w (w.alloc (.cells #[.int .i64 l, .int .i64 a] 69)) := (Below.refl _ w).alloc (Nat.le_refl _) _
  have Y0 : (w.alloc (.cells #[.int .i64 l, .int .i64 a] 69)).heap[w.heap.size]? = _ := heap_alloc_new w _
  by_cases h1 : 0 ≤ l
  · have hd1 : decide (l ≥ 0) = true := decide_eq_true h1
    by_cases h2 : l ≤ 8
    · have hd2 : decide (l ≤ 8) = true := decide_eq_true h2
      by_cases h3 : 0 ≤ a
      · have hd3 : decide (a ≥ 0) = true := decide_eq_true h3
        have HK : Hid (okP l a = decide (a < wrap64 (2 ^ l.toNat))) := by
          have := pow8 (n := l.toNat) (by omega)
          unfold Hid okP
          rw [wrap64_inS _ (by omega), decide_eq_true h1, decide_eq_true h2, decide_eq_true h3]
          simp
        go_enter Try.func26, Try.ntmps26
        go_upto_region 1 with fail
        have c0 := cellAtJ Y0 0 _ rfl
        have c1 := cellAtJ Y0 1 _ rfl
        go_quiet (fail)
        go_wp2_with fail
        go_ret
        exact ⟨by rw [HK.out]; rfl, below_drewN X0 _⟩
      · have hd3 : decide (a ≥ 0) = false := decide_eq_false h3
        have HK : Hid (okP l a = false) := by unfold Hid okP; rw [decide_eq_false h3]; simp
        go_enter Try.func26, Try.ntmps26
        go_upto_region 1 with fail
        have c0 := cellAtJ Y0 0 _ rfl
        have c1 := cellAtJ Y0 1 _ rfl
        go_quiet (fail)
        go_wp2_with fail
        go_ret
        exact ⟨by rw [HK.out]; rfl, below_drewN X0 _⟩
    · have hd2 : decide (l ≤ 8) = false := decide_eq_false h2
      have HK : Hid (okP l a = false) := by unfold Hid okP; rw [decide_eq_false h2]; simp
      go_enter Try.func26, Try.ntmps26
      go_upto_region 1 with fail
      have c0 := cellAtJ Y0 0 _ rfl
      have c1 := cellAtJ Y0 1 _ rfl
      go_quiet (fail)
      go_wp2_with fail
      go_ret
      exact ⟨by rw [HK.out]; rfl, below_drewN X0 _⟩
  · have hd1 : decide (l ≥ 0) = false := decide_eq_false h1
    have HK : Hid (okP l a = false) := by unfold Hid okP; rw [decide_eq_false h1]; simp
    go_enter Try.func26, Try.ntmps26
    go_upto_region 1 with fail
    have c0 := cellAtJ Y0 0 _ rfl
    have c1 := cellAtJ Y0 1 _ rfl
    go_quiet (fail)
    go_wp2_with fail
    go_ret
    exact ⟨by rw [HK.out]; rfl, below_drewN X0 _⟩
set_option maxRecDepth 100000 in
set_option maxHeartbeats 4000000 in
theorem halves_any (l a : Int) (w : World) (h1 : 0 ≤ l) (h2 : l ≤ 8) (h3 : 0 ≤ a) (h4 : a ≤ 256) : Calls Try.prog 42 #[.agg #[.int .i64 l, .int .i64 a]] w fun e w' => e = .returned (.tuple #[.agg #[.int .i64 (l + 1), .int .i64 (2 * a)], .agg #[.int .i64 (l + 1), .int .i64 (2 * a + 1)]]) ∧ Below w.heap.size w w' := by
  go_enter Try.func42, Try.ntmps42
  go_upto_region 1 with fail
  go_region
  go_wp2_with fail
  refine bodyPost_ret (res_cc _ _ _ 69 _ 2 2 3 (by kernel_rfl) (w.heap.size + 1) (w.heap.size + 1 + 1) _ _ rfl rfl Try.underlying69 rfl Try.szPT rfl rfl ?_ ?_) rfl ⟨rfl, ?_⟩
  · exact alloc_kept (alloc_at _ _ _ (by simp)) _
  · exact alloc_at _ _ _ (by simp)
  · exact ((((Below.refl _ w).alloc (Nat.le_refl _) _).alloc (by simp) _).alloc (by simp; omega) _).drew
set_option maxRecDepth 100000 in
set_option maxHeartbeats 4000000 in
theorem end_any (l d : Nat) (a s : Int) (w : World) (hl : l ≤ d) (hd : d ≤ 8) (h3 : 0 ≤ a) (h4 : a ≤ 256) (h5 : -1 ≤ s) (h6 : s ≤ 1) : Calls Try.prog 44 #[.agg #[.int .i64 l, .int .i64 a], .int .i64 s, .int .i64 d] w fun e w' => e = .returned (.int .i64 (-2 ^ d + (2 * a + 1 + s) * 2 ^ (d - l))) ∧ Below w.heap.size w w' := by
  have X0 : Below w.heap.size w (w.alloc (.cells #[.int .i64 l, .int .i64 a] 69)) := (Below.refl _ w).alloc (Nat.le_refl _) _
  have Y0 : (w.alloc (.cells #[.int .i64 l, .int .i64 a] 69)).heap[w.heap.size]? = _ := heap_alloc_new w _
  have hs : (0 : Int) ≤ (d : Int) - l := by omega
  obtain ⟨m, hm⟩ : ∃ m : Int, (2 * a + 1 + s) * 2 ^ (d - l) = m := ⟨_, rfl⟩
  obtain ⟨p, hp⟩ : ∃ p : Int, (2 : Int) ^ d = p := ⟨_, rfl⟩
  obtain ⟨q, hq⟩ : ∃ q : Int, (2 : Int) ^ (d - l) = q := ⟨_, rfl⟩
  have b1 := pow8 hd
  have b2 := pow8 (n := d - l) (by omega)
  rw [hp] at b1
  rw [hq] at b2
  have hm' : (2 * a + 1 + s) * q = m := by rw [← hq]; exact hm
  have b3 : -1024 * q ≤ m ∧ m ≤ 1024 * q := by
    rw [← hm']
    exact ⟨Int.mul_le_mul_of_nonneg_right (by omega) (by omega), Int.mul_le_mul_of_nonneg_right (by omega) (by omega)⟩
  have w1 : wrap64 (-2 ^ d) = -p := by rw [hp]; exact wrap64_inS _ (by omega)
  have w2 : wrap64 ((2 * a + 1 + s) * 2 ^ (d - l)) = m := by rw [hm]; exact wrap64_inS _ (by omega)
  have b4 : -1000000 ≤ m := by omega
  have b5 : m ≤ 1000000 := by omega
  have b6 : p ≤ 256 := b1.2
  have b7 : 1 ≤ p := b1.1
  have HR : Hid (-2 ^ d + (2 * a + 1 + s) * 2 ^ (d - l) = -p + m) := by unfold Hid; rw [hp, hm]
  rw [HR.out]
  clear hm hp hq hm' b1 b2 b3 HR
  go_enter Try.func44, Try.ntmps44
  go_upto_region 1 with fail
  have c0 := cellAtJ Y0 0 _ rfl
  have c1 := cellAtJ Y0 1 _ rfl
  go_quiet (fail)
  go_wp2_with fail
  go_ret
  exact ⟨rfl, below_drewN X0 _⟩
/-- How far a point lies from the lower end, in parts of the depth (or of the level, where that is finer). -/
def bsF (e : Int) (D L : Nat) : Int := if D < L then e * 2 ^ (L - D) + 2 ^ L else e + 2 ^ D
/-- How long a part of the level is there. -/
def bsT (D L : Nat) : Int := if D < L then 2 else 2 ^ (D + 1 - L)
theorem pow_le {a b : Nat} (h : a ≤ b) : (2 : Int) ^ a ≤ 2 ^ b := by
  have h1 : 2 ^ a ≤ 2 ^ b := Nat.pow_le_pow_right (by decide) h
  have h2 : ((2 ^ a : Nat) : Int) = (2 : Int) ^ a := by simp
  have h3 : ((2 ^ b : Nat) : Int) = (2 : Int) ^ b := by simp
  omega
theorem div_small {f T : Int} (h1 : 1 ≤ T) (h2 : 0 ≤ f) (h3 : f ≤ 9223372036854775808) (h4 : 2 ≤ T) : 0 ≤ f / T ∧ f / T ≤ 9223372036854775807 := by
  refine ⟨Int.ediv_nonneg h2 (by omega), ?_⟩
  have h5 := Int.ediv_mul_le f (b := T) (by omega)
  have h6 : f / T * 2 ≤ f / T * T := Int.mul_le_mul_of_nonneg_left h4 (Int.ediv_nonneg h2 (by omega))
  generalize f / T = x at h5 h6 ⊢
  generalize x * T = y at h5 h6
  omega
set_option maxRecDepth 100000 in
set_option maxHeartbeats 4000000 in
theorem beside_any (e : Int) (D L : Nat) (w : World) (hD : D ≤ 62) (hL : L ≤ 8) (h1 : -2 ^ D ≤ e) (h2 : e ≤ 2 ^ D) : Calls Try.prog 64 #[.int .i64 e, .int .i64 D, .int .i64 L] w fun e' w' => e' = .returned (.tuple #[.agg #[.int .i64 L, .int .i64 ((bsF e D L - 1) / bsT D L)], .agg #[.int .i64 L, .int .i64 (bsF e D L / bsT D L)]]) ∧ Below w.heap.size w w' := by
  by_cases hlt : D < L
  · have hd : decide ((D : Int) < (L : Int)) = true := decide_eq_true (by omega)
    have hD2 : (D : Int) ≤ 62 := by omega
    have hL2 : (L : Int) ≤ 8 := by omega
    have hs : (0 : Int) ≤ (L : Int) - D := by omega
    obtain ⟨e1, he1⟩ : ∃ e1 : Int, e * 2 ^ (L - D) = e1 := ⟨_, rfl⟩
    obtain ⟨p, hp⟩ : ∃ p : Int, (2 : Int) ^ L = p := ⟨_, rfl⟩
    have b1 := pow8 hL
    have b2 := pow8 (n := L - D) (by omega)
    have b3 := pow8 (n := D) (by omega)
    have b4 : (2 : Int) ^ D * 2 ^ (L - D) = 2 ^ L := by rw [← Int.pow_add]; congr 1; omega
    have b5 : -p ≤ e1 ∧ e1 ≤ p := by
      rw [← he1, ← hp, ← b4]
      refine ⟨?_, Int.mul_le_mul_of_nonneg_right h2 (by omega)⟩
      rw [← Int.neg_mul]
      exact Int.mul_le_mul_of_nonneg_right h1 (by omega)
    rw [hp] at b1
    have f1 : bsF e D L = e1 + p := by unfold bsF; rw [if_pos hlt, he1, hp]
    have f2 : bsT D L = 2 := by unfold bsT; rw [if_pos hlt]
    rw [f1, f2]
    obtain ⟨u1, hu1⟩ : ∃ u1 : Int, IntKind.u64.wrap e1 = u1 := ⟨_, rfl⟩
    obtain ⟨f, hf⟩ : ∃ f : Int, e1 + p = f := ⟨_, rfl⟩
    rw [hf]
    obtain ⟨g, hg⟩ : ∃ g : Int, IntKind.u64.wrap (f - 1) = g := ⟨_, rfl⟩
    have q1 : wrap64 (e * 2 ^ (L - D)) = e1 := by rw [he1]; exact wrap64_inS _ (by omega)
    have q3 : IntKind.u64.wrap (2 ^ L) = p := by rw [hp, wrU]; omega
    have q4 : IntKind.u64.wrap (u1 + p) = f := by rw [← hu1, wrU, wrU, ← hf]; omega
    have q6 : wrap64 g = f - 1 := by rw [← hg, wrU]; unfold wrap64; omega
    have q7 : wrap64 (f / 2) = f / 2 := wrap64_inS _ (by omega)
    clear b1 b2 b3 b4 b5 f1 f2 hp he1 hf h1 h2
    go_enter Try.func64, Try.ntmps64
    go_upto_region 5 with fail
    go_region
    go_wp2_with fail
    refine bodyPost_ret (res_cc _ _ _ 69 _ 2 6 7 (by kernel_rfl) w.heap.size (w.heap.size + 1) _ _ rfl rfl Try.underlying69 rfl Try.szPT rfl rfl (alloc_kept (heap_alloc_new w _) _) (alloc_at _ _ _ (by simp))) rfl ⟨rfl, ?_⟩
    exact (((Below.refl _ w).alloc (Nat.le_refl _) _).alloc (by simp) _).drew
  · have hd : decide ((D : Int) < (L : Int)) = false := decide_eq_false (by omega)
    have hd2 : decide (D < L) = false := decide_eq_false (by omega)
    have hD2 : (D : Int) ≤ 62 := by omega
    have hL2 : (L : Int) ≤ 8 := by omega
    have hs : (0 : Int) ≤ (D : Int) + 1 - L := by omega
    obtain ⟨p, hp⟩ : ∃ p : Int, (2 : Int) ^ D = p := ⟨_, rfl⟩
    obtain ⟨T, hT⟩ : ∃ T : Int, (2 : Int) ^ (D + 1 - L) = T := ⟨_, rfl⟩
    have b1 := pow62 hD
    have b2 : (2 : Int) ≤ T := by rw [← hT]; exact pow_le (a := 1) (by omega)
    rw [hp] at b1 h1 h2
    have f1 : bsF e D L = e + p := by unfold bsF; rw [if_neg hlt, hp]
    have f2 : bsT D L = T := by unfold bsT; rw [if_neg hlt, hT]
    rw [f1, f2]
    obtain ⟨u1, hu1⟩ : ∃ u1 : Int, IntKind.u64.wrap e = u1 := ⟨_, rfl⟩
    obtain ⟨f, hf⟩ : ∃ f : Int, e + p = f := ⟨_, rfl⟩
    rw [hf]
    obtain ⟨g, hg⟩ : ∃ g : Int, IntKind.u64.wrap (f - 1) = g := ⟨_, rfl⟩
    have q3 : IntKind.u64.wrap (2 ^ D) = p := by rw [hp, wrU]; omega
    have q4 : IntKind.u64.wrap (u1 + p) = f := by rw [← hu1, wrU, wrU, ← hf]; omega
    have q6 : wrap64 g = f - 1 := by rw [← hg, wrU]; unfold wrap64; omega
    have b3 := div_small (f := f) (T := T) (by omega) (by omega) (by omega) b2
    have q7 : wrap64 (f / T) = f / T := wrap64_inS _ (by omega)
    clear b1 b2 b3 f1 f2 hp hf h1 h2
    go_enter Try.func64, Try.ntmps64
    go_upto_region 5 with fail
    go_region
    go_wp2_with fail
    refine bodyPost_ret (res_cc _ _ _ 69 _ 2 6 7 (by kernel_rfl) w.heap.size (w.heap.size + 1) _ _ rfl rfl Try.underlying69 rfl Try.szPT rfl rfl (alloc_kept (heap_alloc_new w _) _) (alloc_at _ _ _ (by simp))) rfl ⟨rfl, ?_⟩
    exact (((Below.refl _ w).alloc (Nat.le_refl _) _).alloc (by simp) _).drew
end Go.Proofs.Ytoehhnildocihaa
