import Derived.Test.YtcpbccckjlnkaaaMW
namespace Go.Proofs.Ytcpbccckjlnkaaa
open Go.RowKit
set_option linter.unusedVariables false

theorem len64_zero (w : World) : Calls Try.prog 63 #[.int .u64 0] w fun e w' => e = .returned (.int .i64 0) ∧ w' = w := by
  have h := Try.bits_Len64 0 w (by omega) (by omega)
  exact h
theorem ldexp_nought (n : Int) (hn : -1000000 ≤ n ∧ n ≤ 1000000) (w : World) : Calls Try.prog 65 #[.float .f64 0, .int .i64 n] w fun e w' => e = .returned (.float .f64 0) ∧ w' = w := by
  obtain ⟨r, h1, h2, h3, h4⟩ := ldexp_any 0 n (by omega) hn (by decide)
  have h5 := (h1 (by unfold Fin; decide))
  have h6 := pow_zero (x := 0) (by omega) (by decide) n
  unfold Pow at h5 h6
  have h7 := h5.uniq h6
  subst h7
  exact h4 w
set_option maxRecDepth 100000 in
set_option maxHeartbeats 4000000 in
theorem told_zero (d : Int) (neg : Bool) (w : World) :
    Calls Try.prog 42 #[.int .i64 d, .bool neg, .int .u64 0, .int .i64 0, .bool false] w fun e w' => ∃ u b, e = .returned (.tuple #[.float .f64 u, .bool b]) ∧ (∀ D, 0 < D → Rnd d neg 0 D (u, b)) ∧ w' = w.drew := by
  have hcv : ∀ w, (convert 67 40 (.int .u64 0)).run Try.prog w = .ok (.float .f64 0) w := fun w => by kernel_rfl
  have hgt : (FloatKind.f64.format.order 0 9218868437227405311 == some .gt) = false := by decide
  have hsb : ∀ t w, (binOp .sub t (.float .f64 0) (.float .f64 0)).run Try.prog w = .ok (.float .f64 0) w := run_sub (by decide)
  have o0 : oppD 0 = 0 := rfl
  have o1 : oppD 1 = 2 := rfl
  have o2 : oppD 2 = 1 := rfl
  by_cases hd : d = 0 ∨ d = 1 ∨ d = 2
  · have HR : Hid (∀ D, 0 < D → Rnd d neg 0 D (0, true)) := fun D hD => rnd_nought d neg D hD hd
    rcases hd with rfl | rfl | rfl <;> cases neg
    all_goals
      go_enter Try.func42, Try.ntmps42
      go_wp2_with (first | (go_at_call 63; refine (len64_zero _).mono ?_; rintro e' w' ⟨rfl, rfl⟩))
      go_region
      go_wp2_with (first | (go_at_call 64; refine (opposite_any _ _).mono ?_; rintro e' w' ⟨rfl, rfl⟩) | (go_at_call 65; refine (ldexp_nought _ (by omega) _).mono ?_; rintro e' w' ⟨rfl, rfl⟩))
      go_ret2
      exact ⟨_, _, rfl, HR.out, rfl⟩
  · have HR : Hid (∀ D, 0 < D → Rnd d neg 0 D (0, false)) := fun D hD => rnd_none d neg 0 D hD hd
    have n0 : (d == 0) = false := by simp; omega
    have n1 : (d == 1) = false := by simp; omega
    have n2 : (d == 2) = false := by simp; omega
    have o0 : oppD d = d := by unfold oppD; rw [if_neg (by omega), if_neg (by omega)]
    cases neg
    all_goals
      go_enter Try.func42, Try.ntmps42
      go_wp2_with (first | (go_at_call 63; refine (len64_zero _).mono ?_; rintro e' w' ⟨rfl, rfl⟩))
      go_region
      go_wp2_with (first | (go_at_call 64; refine (opposite_any _ _).mono ?_; rintro e' w' ⟨rfl, rfl⟩))
      go_ret2
      exact ⟨_, _, rfl, HR.out, rfl⟩
end Go.Proofs.Ytcpbccckjlnkaaa

namespace Go.Proofs.Ytcpbccckjlnkaaa
open Go.RowKit
set_option linter.unusedVariables false

set_option maxRecDepth 100000 in
set_option maxHeartbeats 1000000 in
theorem front_zero (B : Nat) (f : Nat → Nat) (w : World) (hf : Wds w B f) (hz : wv f 76 = 0) :
    Calls Try.prog 41 #[.pointer (some ⟨B, 0, none⟩)] w fun e w' => e = .returned (.tuple #[.int .u64 0, .int .i64 0, .bool false]) ∧ w' = w := by
  have HF : Hid _ := hf
  have HZ : Hid _ := wv_zero_iff.1 hz
  clear hf hz
  go_enter Try.func41, Try.ntmps41
  go_wp2_with fail
  refine (highest_any B f 75 (by omega) (by omega) _ HF.out).mono ?_
  rintro e w1 ⟨r, rfl, hh, rfl⟩
  have hr : r < 0 := by
    apply Classical.byContradiction
    intro c
    exact hh.2.1 (by omega) (HZ.out r.toNat (by have := hh.1; omega))
  have hd : decide (r < 0) = true := decide_eq_true hr
  clear hh
  go_wp2_with fail
  go_ret3
  exact ⟨rfl, rfl⟩
set_option maxRecDepth 100000 in
set_option maxHeartbeats 1000000 in
theorem front_pos (B : Nat) (f : Nat → Nat) (w : World) (hf : Wds w B f) (hz : wv f 76 ≠ 0) (b a : Nat) (hb : b = 64) (ha : a = 1230) :
    Calls Try.prog 41 #[.pointer (some ⟨B, 0, none⟩)] w fun e w' => ∃ (whole : Nat) (power : Int) (more : Bool), e = .returned (.tuple #[.int .u64 (whole : Int), .int .i64 power, .bool more]) ∧ (Frt (wv f 76 * 2 ^ b) (2 ^ a) whole power more ∧ -3000 ≤ power ∧ power ≤ 3000) ∧ w' = w.drew := by
  have HF : Hid _ := hf
  have HZ : Hid _ := hz
  clear hf hz
  go_enter Try.func41, Try.ntmps41
  go_wp2_with fail
  refine (highest_any B f 75 (by omega) (by omega) _ HF.out).mono ?_
  rintro e w1 ⟨r, rfl, hh, rfl⟩
  have hr : 0 ≤ r := by
    apply Classical.byContradiction
    intro c
    exact HZ.out (wv_zero_iff.2 (fun j hj => hh.2.2.1 j (by omega) (by omega)))
  obtain ⟨k, rfl⟩ : ∃ k : Nat, r = (k : Int) := ⟨r.toNat, by omega⟩
  have hk : k < 76 := by have := hh.1; omega
  have hne : f k ≠ 0 := by have := hh.2.1 hr; simpa using this
  have HT : Hid (∀ j, k < j → j < 76 → f j = 0) := fun j h1 h2 => hh.2.2.1 j (by omega) (by omega)
  obtain ⟨x, hx⟩ : ∃ x, f k = x := ⟨_, rfl⟩
  have hxl : x < 18446744073709551616 := by rw [← hx]; exact HF.out.lt k hk
  obtain ⟨L, hL, hL1, hL2, hL3⟩ := bitLen_spec hxl (by rw [← hx]; exact hne)
  have g0 := HF.out.cells k hk
  rw [hx] at g0
  obtain ⟨n, hn⟩ : ∃ n, n + L = 63 := ⟨63 - L, by omega⟩
  have en : (63 : Int) - (L : Int) = (n : Int) := by omega
  have en2 : (64 : Int) - (n : Int) = ((64 - n : Nat) : Int) := by omega
  have i1 : (k : Int) < 76 := by omega
  have hd : decide ((k : Int) < 0) = false := decide_eq_false (by omega)
  have hpn : 2 ^ n * 2 ^ L = 9223372036854775808 := by rw [← Nat.pow_add, hn]
  have hf0 : 9223372036854775808 ≤ x * 2 ^ n := by rw [← hpn, Nat.mul_comm]; exact Nat.mul_le_mul_right _ hL1
  have hf1 : x * 2 ^ n < 18446744073709551616 := by
    have : x * 2 ^ n < 2 ^ (L + 1) * 2 ^ n := Nat.mul_lt_mul_of_pos_right hL2 (Nat.two_pow_pos _)
    rw [Nat.pow_succ, Nat.mul_comm (2 ^ L) 2, Nat.mul_assoc, Nat.mul_comm (2 ^ L), hpn] at this
    omega
  have HN : Hid _ := And.intro hf0 hf1
  have HX : Hid _ := hx
  have HL : Hid _ := hL
  clear hf0 hf1 hpn hL1 hL2 hh hx hne hL
  -- what stands behind
  obtain ⟨bh, hbh⟩ : ∃ bh, (if k = 0 then 0 else f (k - 1)) = bh := ⟨_, rfl⟩
  have hbl : bh < 18446744073709551616 := by
    rw [← hbh]; split
    · omega
    · exact HF.out.lt _ (by omega)
  have HB : Hid _ := hbh
  clear hbh
  go_wp2_with fail
  refine (zeros64_any x L hxl HL.out _).mono ?_
  rintro e w1 ⟨rfl, rfl⟩
  go_upto_if 19 with fail
  go_cut [7] (fun v wx => v = .int .u64 (bh : Int) ∧ wx = w1)
  case first =>
    by_cases h0 : k = 0
    · subst h0
      have : bh = 0 := by rw [← HB.out]; rfl
      subst this
      go_wp2_with fail
      go_meet
      exact ⟨rfl, rfl⟩
    · have g1 := HF.out.cells (k - 1) (by omega)
      have h1 := HB.out
      rw [if_neg h0] at h1
      rw [h1] at g1
      obtain ⟨m, rfl⟩ : ∃ m, k = m + 1 := ⟨k - 1, by omega⟩
      rw [Nat.add_sub_cancel] at g1
      clear h1
      go_wp2_with fail
      go_meet
      exact ⟨rfl, rfl⟩
  case rest =>
  obtain ⟨rfl, rfl⟩ := hcut
  have s0 := wrap_shl x n
  have s1 := div_cast bh (64 - n)
  have s3 := wrap_shl bh n
  generalize hu : x * 2 ^ n % 18446744073709551616 = u1 at s0
  generalize hd1 : bh / 2 ^ (64 - n) = d1 at s1
  generalize hlo : bh * 2 ^ n % 18446744073709551616 = lo at s3
  have hul : u1 < 18446744073709551616 := by rw [← hu]; exact Nat.mod_lt _ (by omega)
  have hdl : d1 < 18446744073709551616 := by rw [← hd1]; exact Nat.lt_of_le_of_lt (Nat.div_le_self _ _) hbl
  have s2 := u64_or_nat u1 d1 hul hdl
  generalize hW : u1 ||| d1 = W at s2
  have HW : Hid (W = (f k * 2 ^ n % 18446744073709551616) ||| (bh / 2 ^ (64 - n))) := by unfold Hid; rw [HX.out, hu, hd1, hW]
  have HLO : Hid (bh * 2 ^ n % 18446744073709551616 = lo) := hlo
  have HFR : Hid (∀ more : Bool, (more = true ↔ (lo ≠ 0 ∨ ∃ j, j + 1 < k ∧ f j ≠ 0)) → Frt (wv f 76 * 2 ^ b) (2 ^ a) W (-2240 + k * 64 - n) more) := fun more hm =>
    (front_frt HF.out.lt hk HT.out (by omega) (by rw [HX.out]; exact HN.out.1) (by rw [HX.out]; exact HN.out.2) HB.out.symm HW.out (by rw [HLO.out]; exact hm) rfl hb ha).1
  have hPW : -3000 ≤ -2240 + (k : Int) * 64 - n ∧ -2240 + (k : Int) * 64 - n ≤ 3000 := by omega
  have HPW : Hid _ := hPW
  clear hu hd1 hlo hW hul hdl
  go_wp2_with fail
  go_region
  by_cases hz : lo = 0
  · subst hz
    go_wp2_with fail
    refine (highest_any B f ((k : Int) - 2) (by omega) (by omega) _ HF.out.drew).mono ?_
    rintro e w2 ⟨r, rfl, hh, rfl⟩
    by_cases hr : 0 ≤ r
    · have hM : Hid (Frt (wv f 76 * 2 ^ b) (2 ^ a) W (-2240 + k * 64 - n) true) := HFR.out true ⟨fun _ => .inr ⟨r.toNat, by have := hh.1; omega, by have := hh.2.1 hr; exact this⟩, fun _ => rfl⟩
      have hd : decide (0 ≤ r) = true := decide_eq_true hr
      clear hh
      go_wp2_with fail
      go_ret3
      exact ⟨W, _, _, rfl, ⟨hM.out, HPW.out⟩, rfl⟩
    · have hM : Hid (Frt (wv f 76 * 2 ^ b) (2 ^ a) W (-2240 + k * 64 - n) false) := HFR.out false ⟨fun c => by simp at c, fun c => by
        rcases c with c | ⟨j, h1, h2⟩
        · exact absurd rfl c
        · exact absurd (hh.2.2.1 j (by omega) (by omega)) h2⟩
      have hd : decide (0 ≤ r) = false := decide_eq_false hr
      clear hh
      go_wp2_with fail
      go_ret3
      exact ⟨W, _, _, rfl, ⟨hM.out, HPW.out⟩, rfl⟩
  · have hM : Hid (Frt (wv f 76 * 2 ^ b) (2 ^ a) W (-2240 + k * 64 - n) true) := HFR.out true ⟨fun _ => .inl hz, fun _ => rfl⟩
    have hn0 : ((lo : Int) != 0) = true := by simp; omega
    clear hz
    go_wp2_with fail
    go_ret3
    exact ⟨W, _, _, rfl, ⟨hM.out, HPW.out⟩, rfl⟩
end Go.Proofs.Ytcpbccckjlnkaaa

namespace Go.Proofs.Ytcpbccckjlnkaaa
open Go.RowKit
set_option linter.unusedVariables false

/-- The words as a value. -/
def wda (f : Nat → Nat) : List Value := (List.range 76).map (fun j => .int .u64 (f j : Nat))
theorem wda_len (f : Nat → Nat) : (wda f).length = 76 := by unfold wda; simp
theorem wda_at {f : Nat → Nat} {j : Nat} {v : Value} (h : (wda f)[j]? = some v) : j < 76 ∧ v = .int .u64 (f j : Nat) := by
  unfold wda at h
  rw [List.getElem?_map, Option.map_eq_some_iff] at h
  obtain ⟨a, h1, h2⟩ := h
  rw [List.getElem?_eq_some_iff] at h1
  obtain ⟨h1, h3⟩ := h1
  rw [List.getElem_range] at h3
  subst h3
  exact ⟨by simpa using h1, h2.symm⟩
theorem wda_get (f : Nat → Nat) {j : Nat} (h : j < 76) : (wda f)[j]? = some (.int .u64 (f j : Nat)) := by
  unfold wda; simp [h]
theorem wda_one (f : Nat → Nat) : ∀ v ∈ wda f, v.oneCell' = true := by
  intro v hv
  unfold wda at hv
  obtain ⟨j, _, rfl⟩ := List.mem_map.1 hv
  rfl
theorem Wds.range {w : World} {B : Nat} {f : Nat → Nat} (h : Wds w B f) : w.rangeAt B 0 (wda f) := fun j v hv => by
  obtain ⟨h1, rfl⟩ := wda_at hv
  rw [Nat.zero_add]; exact h.cells j h1
theorem Wds.there {w : World} {B : Nat} {f : Nat → Nat} (h : Wds w B f) : w.there B 0 76 := fun j hj => by
  rw [Nat.zero_add, h.cells j hj]; exact ⟨rfl, h.frozen j hj⟩
theorem Wds.of_range {w : World} {B : Nat} {f : Nat → Nat} (h : w.rangeAt B 0 (wda f)) (hfr : ∀ j, j < 76 → w.frozen? ⟨B, j, none⟩ = false) (hlt : ∀ j, j < 76 → f j < 18446744073709551616) : Wds w B f :=
  ⟨fun j hj => by have := h j _ (wda_get f hj); rwa [Nat.zero_add] at this, hfr, hlt⟩
theorem zero_wda : Try.zeroCells75 = (wda (fun _ => 0)).toArray := by rfl
theorem Wds.new (w : World) : Wds (w.alloc (.cells Try.zeroCells75 75)) w.heap.size (fun _ => 0) := by
  refine ⟨fun j hj => ?_, fun j hj => World.frozen?_alloc_new _ _ _ _, fun j hj => by omega⟩
  rw [cell_of_row _ _ _ _ _ _ (heap_alloc_new w _), zero_wda, List.getElem?_toArray]
  exact wda_get _ hj
theorem Wds.below {w w' : World} {B N : Nat} {f : Nat → Nat} (h : Wds w B f) (hb : Below N w w') (hB : B < N) : Wds w' B f :=
  ⟨fun j hj => by rw [hb.cell (p := ⟨B, j, none⟩) hB]; exact h.cells j hj, fun j hj => by rw [hb.frozen (p := ⟨B, j, none⟩) hB]; exact h.frozen j hj, h.lt⟩
theorem Wds.block {w : World} {B : Nat} {f : Nat → Nat} (h : Wds w B f) : B < w.heap.size := World.block_lt_of_cell? w _ (h.cells 0 (by omega))
theorem Wds.alloc {w : World} {B : Nat} {f : Nat → Nat} (h : Wds w B f) (o : Obj) : Wds (w.alloc o) B f := h.below ((Below.refl _ w).alloc (Nat.le_refl _) o) h.block
theorem heap_setCells_other (b : Nat) : ∀ (vs : List Value) (o : Nat) (w : World) (k : Nat), k ≠ b → (w.setCells b o vs).heap[k]? = w.heap[k]?
  | [], _, _, _, _ => rfl
  | v :: r, o, w, k, h => by rw [World.setCells, heap_setCells_other b r (o + 1) _ k h, heap_setCell_other _ _ _ _ h]
theorem Below.setCells {N : Nat} {a : World} {b : Nat} (hb : N ≤ b) : ∀ (vs : List Value) (o : Nat) (w : World), Below N a w → Below N a (w.setCells b o vs)
  | [], _, _, h => h
  | v :: r, o, w, h => by rw [World.setCells]; exact Below.setCells hb r (o + 1) _ (h.setCell (p := ⟨b, o, none⟩) hb v)
theorem Wds.stored {w : World} {B : Nat} {f g : Nat → Nat} (h : Wds w B f) (hg : ∀ j, j < 76 → g j < 18446744073709551616) : Wds (w.setCells B 0 (wda g)) B g :=
  Wds.of_range (World.rangeAt_setCells_same _ _ _ _ (by rw [wda_len]; exact h.there)) (fun j hj => by rw [World.frozen?_setCells]; exact h.frozen j hj) hg
theorem size_words : (Try.prog.info? 75).map (·.size) = some 76 := by kernel_rfl
theorem size_wda (f : Nat → Nat) : (Try.prog.info? 75).map (·.size) = some (wda f).length := by rw [wda_len]; exact size_words
theorem store_words {w : World} {B : Nat} {f : Nat → Nat} (h : Wds w B f) (g : Nat → Nat) : (storeCells ⟨B, 0, none⟩ (wda g)).run Try.prog w = .ok () (w.setCells B 0 (wda g)) := by
  have := run_storeCells_cells (P := Try.prog) B 0 (wda g) 0 w (fun j hj => by have := h.there j (by rw [wda_len] at hj; exact hj); simpa using this.1) (fun j hj => by have := h.there j (by rw [wda_len] at hj; exact hj); simpa using this.2) (wda_one g)
  simpa using this
/-- Join, by what the words stand for. -/
theorem join_tc (B C : Nat) (f g : Nat → Nat) (x y : Int) (neg : Bool) (w : World) (hf : Wds w B f) (hg : Wds w C g) (tf : Tc f x) (tg : Tc g y) (r : Int) (hr : r = x + (if neg then -y else y)) (h1 : -((2 ^ 4863 : Nat) : Int) ≤ r) (h2 : r < ((2 ^ 4863 : Nat) : Int)) :
    Calls Try.prog 54 #[.pointer (some ⟨B, 0, none⟩), .pointer (some ⟨C, 0, none⟩), .bool neg] w fun e w' => e = .returned (.tuple #[]) ∧ ∃ h, Wds w' B h ∧ Mut B w w' ∧ Tc h r := by
  refine (join_any B C f g neg w hf hg).mono ?_
  rintro e w' ⟨rfl, h, c, k1, k2, k3⟩
  refine ⟨rfl, h, k1, k2, ?_⟩
  rw [show 64 * 76 = 4864 by omega] at k3
  refine Tc.sum (y := if neg then -y else y) tf ?_ k1.lt k3 hr h1 h2
  have e := tg.eq
  cases neg
  · simp only [flp, Bool.false_eq_true, if_false, Bool.toNat_false]
    have : (fun j => g j) = g := rfl
    rw [this]
    omega
  · simp only [flp, if_true, Bool.toNat_true]
    have hfl := wv_flip hg.lt
    rw [show 64 * 76 = 4864 by omega] at hfl
    have hlo := tg.lo
    have hhi := tg.hi
    have hl := wv_lt hg.lt
    rw [show 64 * 76 = 4864 by omega] at hl
    generalize wv (fun j => 18446744073709551615 - g j) 76 = G' at *
    generalize wv g 76 = G at *
    rw [pow_half] at *
    generalize 2 ^ 4863 = L at *
    omega
theorem load_words {w : World} {B : Nat} {f : Nat → Nat} (h : Wds w B f) : (loadVar 75 ⟨B, 0, none⟩).run Try.prog w = .ok (.agg (wda f).toArray) w := run_loadVar_mid w B 0 _ _ _ h.range Try.underlying75 rfl (size_wda f)
theorem res_words (f : Func) (i : Nat) (hf : f.results = #[ResultVar.cell i 75]) (tmps : Array Value) (W : World) (B : Nat) (g : Nat → Nat) (hp : tmps[i]? = some (.pointer (some ⟨B, 0, none⟩))) (h : Wds W B g) :
    (results f tmps).run Try.prog W = .ok (.agg (wda g).toArray) W := by
  have hl := load_words h
  simp [results, hf, hp, hl, asAddr]
theorem res_words2 (f : Func) (i j : Nat) (hf : f.results = #[ResultVar.cell i 75, ResultVar.tmp j]) (tmps : Array Value) (W : World) (B : Nat) (g : Nat → Nat) (u : Value) (hp : tmps[i]? = some (.pointer (some ⟨B, 0, none⟩))) (hq : tmps[j]? = some u) (h : Wds W B g) :
    (results f tmps).run Try.prog W = .ok (.tuple #[.agg (wda g).toArray, u]) W := by
  have hl := load_words h
  simp [results, hf, hp, hq, hl, asAddr]
set_option maxRecDepth 100000 in
set_option maxHeartbeats 1000000 in
theorem turnedW_any (B : Nat) (f : Nat → Nat) (z : Int) (w : World) (hf : Wds w B f) (hz : Tc f z) (hlo : -((2 ^ 4863 : Nat) : Int) < z) :
    Calls Try.prog 52 #[.pointer (some ⟨B, 0, none⟩)] w fun e w' => ∃ h, e = .returned (.agg (wda h).toArray) ∧ Tc h (-z) ∧ Below w.heap.size w w' := by
  have HF : Hid _ := hf
  have HZ : Hid _ := hz
  have tz : Tc (fun _ => 0) 0 := ⟨fun _ _ => by omega, by omega, by have := Nat.two_pow_pos 4863; omega, .inl (by rw [wv_const_zero]; rfl)⟩
  have HT : Hid _ := tz
  have HB : Hid (-((2 ^ 4863 : Nat) : Int) ≤ -z ∧ -z < ((2 ^ 4863 : Nat) : Int)) := by unfold Hid; have := hz.hi; omega
  clear hf hz tz hlo
  go_enter Try.func52, Try.ntmps52
  go_wp2_with fail
  have HW0 : Hid _ := (HF.out.alloc (.cells Try.zeroCells75 75)).alloc (.cells Try.zeroCells75 75)
  have HR : Hid _ := (Wds.new w).alloc (.cells Try.zeroCells75 75)
  have HV := Wds.new (w.alloc (.cells Try.zeroCells75 75))
  rw [show (w.alloc (.cells Try.zeroCells75 75)).heap.size = w.heap.size + 1 by simp] at HV
  refine (join_tc (w.heap.size + 1) B _ f 0 z true _ HV HW0.out HT.out HZ.out (-z) (by simp) HB.out.1 HB.out.2).mono ?_
  rintro e w1 ⟨rfl, h, k1, k2, k3⟩
  have K1 : Hid _ := k1
  have HR1 : Hid (Wds w1 w.heap.size (fun _ => 0)) := HR.out.below k2.below (by omega)
  have HBL : Hid (Below w.heap.size w w1) := (((Below.refl _ w).alloc (Nat.le_refl _) _).alloc (by simp) _).trans (k2.below.mono (by omega))
  have K3 : Hid _ := k3
  clear k1 k2 k3 HV HR HW0
  have hst := store_words HR1.out h
  have W2 : Hid _ := HR1.out.stored (g := h) K1.out.lt
  have B2 : Hid _ := Below.setCells (Nat.le_refl _) (wda h) 0 _ HBL.out
  go_wp2_with (first | (refine wpList_load_mid (by rfl) _ _ (by rfl) (w.heap.size + 1) 0 (by rfl) (wda h) _ K1.out.range Try.underlying75 rfl (size_wda h) ?_))
  refine bodyPost_ret (v := .agg (wda h).toArray) (res_words _ 2 (by kernel_rfl) _ _ w.heap.size h (by rfl) W2.out) rfl ⟨h, rfl, K3.out, B2.out⟩
/-- The words' whole number, where the sign is none. -/
theorem Tc.nonneg {f : Nat → Nat} {z : Int} (h : Tc f z) (hz : 0 ≤ z) : (wv f 76 : Int) = z := by
  have e := h.eq
  have h1 := h.hi
  have h3 := wv_lt h.lt
  rw [show 64 * 76 = 4864 by omega] at h3
  generalize 2 ^ 4864 = L at *
  omega
set_option maxRecDepth 100000 in
set_option maxHeartbeats 1000000 in
theorem size_words_any (B : Nat) (f : Nat → Nat) (z : Int) (w : World) (hf : Wds w B f) (hz : Tc f z) (hlo : -((2 ^ 4863 : Nat) : Int) < z) :
    Calls Try.prog 40 #[.pointer (some ⟨B, 0, none⟩)] w fun e w' => ∃ h, e = .returned (.tuple #[.agg (wda h).toArray, .bool (decide (z < 0))]) ∧ (∀ j, j < 76 → h j < 18446744073709551616) ∧ wv h 76 = z.natAbs ∧ Tc h (z.natAbs : Int) ∧ Below w.heap.size w w' := by
  have HF : Hid _ := hf
  have HZ : Hid _ := hz
  have HLO : Hid _ := hlo
  clear hf hz hlo
  go_enter Try.func40, Try.ntmps40
  go_wp2_with fail
  have HV := HF.out.alloc (.cells Try.zeroCells75 75)
  have HN := Wds.new w
  refine (signW_any B f z _ HV HZ.out).mono ?_
  rintro e w1 ⟨rfl, rfl⟩
  have HV' : Hid _ := HV
  have HBL : Hid (Below w.heap.size w (w.alloc (.cells Try.zeroCells75 75))) := (Below.refl _ w).alloc (Nat.le_refl _) _
  have HN' : Hid _ := HN
  clear HV HN
  by_cases h0 : z < 0
  · have hs : sgi z = -1 := by unfold sgi; rw [if_pos h0]
    have HD : Hid (decide (z < 0) = true) := decide_eq_true h0
    have HA : Hid ((z.natAbs : Int) = -z) := by unfold Hid; omega
    clear h0
    go_wp2_with fail
    refine (turnedW_any B f z _ HV'.out HZ.out HLO.out).mono ?_
    rintro e w1 ⟨h, rfl, ht, hb⟩
    have K : Hid _ := ht
    have hb' := hb
    have hsz : (w.alloc (Obj.cells Try.zeroCells75 75)).heap.size = w.heap.size + 1 := by simp
    rw [hsz] at hb'
    have HR1 : Hid _ := HN'.out.below hb' (by omega)
    have hst := store_words HR1.out h
    have W2 : Hid _ := HR1.out.stored (g := h) ht.lt
    have B2 : Hid _ := Below.setCells (Nat.le_refl _) (wda h) 0 _ (HBL.out.trans (hb'.mono (by omega)))
    clear ht hb hb' hsz
    go_wp2_with fail
    refine bodyPost_ret (v := .tuple #[.agg (wda h).toArray, .bool true]) (res_words2 _ 2 3 (by kernel_rfl) _ _ w.heap.size h _ (by rfl) (by rfl) W2.out) rfl ⟨h, by rw [HD.out], K.out.lt, ?_, by rw [HA.out]; exact K.out, B2.out⟩
    have := K.out.nonneg (by have := HA.out; omega)
    have := HA.out
    omega
  · have hs : decide (sgi z < 0) = false := decide_eq_false (by unfold sgi; split <;> (try split) <;> omega)
    have HD : Hid (decide (z < 0) = false) := decide_eq_false h0
    have HA : Hid ((z.natAbs : Int) = z) := by unfold Hid; omega
    have hst := store_words HN'.out f
    have W2 : Hid _ := HN'.out.stored (g := f) HF.out.lt
    have B2 : Hid _ := Below.setCells (Nat.le_refl _) (wda f) 0 _ HBL.out
    clear h0
    go_wp2_with (first | (refine wpList_load_mid (by rfl) _ _ (by rfl) B 0 (by rfl) (wda f) _ HV'.out.range Try.underlying75 rfl (size_wda f) ?_))
    refine bodyPost_ret (v := .tuple #[.agg (wda f).toArray, .bool false]) (res_words2 _ 2 3 (by kernel_rfl) _ _ w.heap.size f _ (by rfl) (by rfl) W2.out) rfl ⟨f, by rw [HD.out], HF.out.lt, ?_, by rw [HA.out]; exact HZ.out, B2.out⟩
    have := HZ.out.nonneg (by have := HA.out; omega)
    have := HA.out
    omega
end Go.Proofs.Ytcpbccckjlnkaaa


namespace Go.Proofs.Ytcpbccckjlnkaaa
open Go.RowKit
set_option linter.unusedVariables false

def holdZ (z : Int) : Option Int := if -((2 ^ 4800 : Nat) : Int) < z ∧ z < ((2 ^ 4800 : Nat) : Int) then some z else none
/-- An Acc in block B: its real (times 2^2240), or bad. -/
structure AccO (w : World) (B : Nat) (o : Option Int) : Prop where
  ex : ∃ f, Wds w B f ∧ ∀ z, o = some z → Tc f z ∧ -((2 ^ 4800 : Nat) : Int) < z ∧ z < ((2 ^ 4800 : Nat) : Int)
  cell : w.cell? ⟨B, 76, none⟩ = some (.bool o.isNone)
  froz : w.frozen? ⟨B, 76, none⟩ = false
  top : ∀ j, 77 ≤ j → w.cell? ⟨B, j, none⟩ = none
/-- Of old memory only block B has changed. -/
structure Chg (B : Nat) (w w' : World) : Prop where
  below : Below B w w'
  other : ∀ b, b < w.heap.size → b ≠ B → w'.heap[b]? = w.heap[b]?
theorem Mut.chg {B : Nat} {w w' : World} (h : Mut B w w') : Chg B w w' := ⟨h.below, h.other⟩
theorem Chg.refl (B : Nat) (w : World) : Chg B w w := ⟨Below.refl _ _, fun _ _ _ => rfl⟩
theorem Chg.trans {B : Nat} {a b c : World} (h : Chg B a b) (k : Chg B b c) : Chg B a c :=
  ⟨h.below.trans k.below, fun i hi hne => (k.other i (Nat.lt_of_lt_of_le hi h.below.size) hne).trans (h.other i hi hne)⟩
theorem Chg.of_below {B : Nat} {a b : World} (h : Below a.heap.size a b) (hB : B ≤ a.heap.size) : Chg B a b := ⟨h.mono hB, fun i hi _ => h.block i hi⟩
theorem Chg.drew {B : Nat} {a b : World} (h : Chg B a b) : Chg B a b.drew := ⟨h.below.drew, h.other⟩
theorem cell_of_heap {w w' : World} {B : Nat} (h : w'.heap[B]? = w.heap[B]?) (j : Nat) : w'.cell? ⟨B, j, none⟩ = w.cell? ⟨B, j, none⟩ ∧ w'.frozen? ⟨B, j, none⟩ = w.frozen? ⟨B, j, none⟩ := by
  constructor
  · unfold World.cell?; simp only [h]
  · unfold World.frozen?; simp only [h]
theorem Wds.heap {w w' : World} {B : Nat} {f : Nat → Nat} (hw : Wds w B f) (h : w'.heap[B]? = w.heap[B]?) : Wds w' B f :=
  ⟨fun j hj => (cell_of_heap h j).1.trans (hw.cells j hj), fun j hj => (cell_of_heap h j).2.trans (hw.frozen j hj), hw.lt⟩
theorem AccO.heap {w w' : World} {B : Nat} {o : Option Int} (ha : AccO w B o) (h : w'.heap[B]? = w.heap[B]?) : AccO w' B o := by
  obtain ⟨f, h1, h2⟩ := ha.ex
  exact ⟨⟨f, h1.heap h, h2⟩, (cell_of_heap h 76).1.trans ha.cell, (cell_of_heap h 76).2.trans ha.froz, fun j hj => (cell_of_heap h j).1.trans (ha.top j hj)⟩
theorem AccO.block {w : World} {B : Nat} {o : Option Int} (h : AccO w B o) : B < w.heap.size := World.block_lt_of_cell? w _ h.cell
theorem AccO.below {w w' : World} {B N : Nat} {o : Option Int} (ha : AccO w B o) (hb : Below N w w') (hB : B < N) : AccO w' B o := ha.heap (hb.block B hB)
theorem AccO.chg {w w' : World} {B C : Nat} {o : Option Int} (ha : AccO w C o) (hb : Chg B w w') (hB : C ≠ B) : AccO w' C o := ha.heap (hb.other C ha.block hB)
theorem AccO.drew {w : World} {B : Nat} {o : Option Int} (ha : AccO w B o) : AccO w.drew B o := ha.heap rfl
/-- The 77 cells of a bad Acc, of a new one. -/
theorem Chg.setCells {B : Nat} {a b : World} (h : Chg B a b) (vs : List Value) (o : Nat) : Chg B a (b.setCells B o vs) :=
  ⟨Below.setCells (Nat.le_refl _) vs o _ h.below, fun i hi hne => (heap_setCells_other B vs o b i hne).trans (h.other i hi hne)⟩
def acv (f : Nat → Nat) (b : Bool) : List Value := wda f ++ [.bool b]
theorem acv_len (f : Nat → Nat) (b : Bool) : (acv f b).length = 77 := by unfold acv; simp [wda_len]
theorem acv_one (f : Nat → Nat) (b : Bool) : ∀ v ∈ acv f b, v.oneCell' = true := by
  intro v hv
  unfold acv at hv
  rcases List.mem_append.1 hv with h | h
  · exact wda_one f v h
  · simp at h; subst h; rfl
theorem acv_get (f : Nat → Nat) (b : Bool) {j : Nat} (hj : j < 76) : (acv f b)[j]? = some (.int .u64 (f j : Nat)) := by
  unfold acv; rw [List.getElem?_append_left (by rw [wda_len]; exact hj)]; exact wda_get f hj
theorem acv_top (f : Nat → Nat) (b : Bool) : (acv f b)[76]? = some (.bool b) := by
  unfold acv; rw [List.getElem?_append_right (by rw [wda_len]; omega), wda_len]; rfl
theorem AccO.of_range {w : World} {B : Nat} {f : Nat → Nat} {o : Option Int} (h : w.rangeAt B 0 (acv f o.isNone)) (hfr : ∀ j, j < 77 → w.frozen? ⟨B, j, none⟩ = false) (hlt : ∀ j, j < 76 → f j < 18446744073709551616)
    (hz : ∀ z, o = some z → Tc f z ∧ -((2 ^ 4800 : Nat) : Int) < z ∧ z < ((2 ^ 4800 : Nat) : Int)) (htop : ∀ j, 77 ≤ j → w.cell? ⟨B, j, none⟩ = none) : AccO w B o :=
  ⟨⟨f, ⟨fun j hj => by have := h j _ (acv_get f o.isNone hj); rwa [Nat.zero_add] at this, fun j hj => hfr j (by omega), hlt⟩, hz⟩, by have := h 76 _ (acv_top f o.isNone); rwa [Nat.zero_add] at this, hfr 76 (by omega), htop⟩
theorem Tc.zero : Tc (fun _ => 0) 0 := ⟨fun _ _ => by omega, by omega, by have := Nat.two_pow_pos 4863; omega, .inl (by rw [wv_const_zero]; rfl)⟩
theorem pow4800 : (0 : Int) < ((2 ^ 4800 : Nat) : Int) := by have := Nat.two_pow_pos 4800; omega
theorem spoil_cells : Try.zeroCells78.toList.set 76 (.bool true) = acv (fun _ => 0) true := by rfl
theorem store_acv {w : World} {B : Nat} {f : Nat → Nat} {b : Bool} (h : Wds w B f) (hc : w.cell? ⟨B, 76, none⟩ = some (.bool b)) (hf : w.frozen? ⟨B, 76, none⟩ = false) (g : Nat → Nat) (b' : Bool) :
    (storeCells ⟨B, 0, none⟩ (acv g b')).run Try.prog w = .ok () (w.setCells B 0 (acv g b')) := by
  have h1 : ∀ j, j < 77 → (w.cell? ⟨B, j, none⟩).isSome = true ∧ w.frozen? ⟨B, j, none⟩ = false := fun j hj => by
    by_cases e : j < 76
    · rw [h.cells j e]; exact ⟨rfl, h.frozen j e⟩
    · obtain rfl : j = 76 := by omega
      rw [hc]; exact ⟨rfl, hf⟩
  have := run_storeCells_cells (P := Try.prog) B 0 (acv g b') 0 w (fun j hj => by have := (h1 j (by rw [acv_len] at hj; exact hj)).1; simpa using this) (fun j hj => by have := (h1 j (by rw [acv_len] at hj; exact hj)).2; simpa using this) (acv_one g b')
  simpa using this
theorem AccO.stored {w : World} {B : Nat} {f g : Nat → Nat} {b : Bool} {o : Option Int} (h : Wds w B f) (hc : w.cell? ⟨B, 76, none⟩ = some (.bool b)) (hf : w.frozen? ⟨B, 76, none⟩ = false) (hlt : ∀ j, j < 76 → g j < 18446744073709551616)
    (hz : ∀ z, o = some z → Tc g z ∧ -((2 ^ 4800 : Nat) : Int) < z ∧ z < ((2 ^ 4800 : Nat) : Int)) (htop : ∀ j, 77 ≤ j → w.cell? ⟨B, j, none⟩ = none) : AccO (w.setCells B 0 (acv g o.isNone)) B o := by
  have h1 : ∀ j, j < 77 → (w.cell? ⟨B, j, none⟩).isSome = true ∧ w.frozen? ⟨B, j, none⟩ = false := fun j hj => by
    by_cases e : j < 76
    · rw [h.cells j e]; exact ⟨rfl, h.frozen j e⟩
    · obtain rfl : j = 76 := by omega
      rw [hc]; exact ⟨rfl, hf⟩
  exact AccO.of_range (World.rangeAt_setCells_same _ _ _ _ (by rw [acv_len]; intro j hj; rw [Nat.zero_add]; exact h1 j hj)) (fun j hj => by rw [World.frozen?_setCells]; exact (h1 j hj).2) hlt hz (fun j hj => by rw [World.cell?_setCells_out _ _ _ _ _ (fun _ _ => .inr (by rw [acv_len]; show 0 + 77 ≤ j; omega))]; exact htop j hj)
/-- A new block with such cells. -/
theorem acc_new {w : World} {f : Nat → Nat} {o : Option Int} (hlt : ∀ j, j < 76 → f j < 18446744073709551616) (hz : ∀ z, o = some z → Tc f z ∧ -((2 ^ 4800 : Nat) : Int) < z ∧ z < ((2 ^ 4800 : Nat) : Int)) (C : Array Value) (hC : C = (acv f o.isNone).toArray) (t : TypeId) : AccO (w.alloc (.cells C t)) w.heap.size o := by
  subst hC
  refine AccO.of_range (fun j v hv => ?_) (fun j hj => World.frozen?_alloc_new _ _ _ _) hlt hz (fun j hj => by rw [cell_of_row _ _ _ _ _ _ (heap_alloc_new w _), List.getElem?_toArray, List.getElem?_eq_none (by rw [acv_len]; omega)])
  rw [Nat.zero_add, cell_of_row _ _ _ _ _ _ (heap_alloc_new w _), List.getElem?_toArray]
  exact hv
theorem AccO.fresh (w : World) (C : Array Value) (t : TypeId) (hC : C = (acv (fun _ => 0) false).toArray) : AccO (w.alloc (.cells C t)) w.heap.size (some 0) :=
  acc_new (f := fun _ => 0) (o := some 0) (fun _ _ => by omega) (fun z hz => by cases hz; exact ⟨Tc.zero, by have := pow4800; omega, pow4800⟩) C hC t
set_option maxRecDepth 100000 in
theorem new_any (w : World) : Calls Try.prog 43 #[] w fun e w' => e = .returned (.pointer (some ⟨w.heap.size, 0, none⟩)) ∧ AccO w' w.heap.size (some 0) ∧ Below w.heap.size w w' ∧ w'.heap.size = w.heap.size + 1 := by
  go_enter Try.func43, Try.ntmps43
  go_wp2_with fail
  go_ret
  exact ⟨rfl, AccO.fresh w _ _ rfl, (Below.refl _ w).alloc (Nat.le_refl _) _, by simp⟩
set_option maxRecDepth 100000 in
theorem bad_any (B : Nat) (o : Option Int) (w : World) (h : AccO w B o) : Calls Try.prog 39 #[.pointer (some ⟨B, 0, none⟩)] w fun e w' => e = .returned (.bool o.isNone) ∧ w' = w := by
  have g0 := h.cell
  clear h
  cases o
  all_goals
    go_enter Try.func39, Try.ntmps39
    go_wp2_with fail
    go_ret
    exact ⟨rfl, rfl⟩
set_option maxRecDepth 100000 in
theorem spoil_any (B : Nat) (f : Nat → Nat) (b : Bool) (w : World) (h : Wds w B f) (hc : w.cell? ⟨B, 76, none⟩ = some (.bool b)) (hf : w.frozen? ⟨B, 76, none⟩ = false) (ht : ∀ j, 77 ≤ j → w.cell? ⟨B, j, none⟩ = none) : Calls Try.prog 53 #[.pointer (some ⟨B, 0, none⟩)] w fun e w' => e = .returned (.tuple #[]) ∧ AccO w' B none ∧ Chg B w w' := by
  have HW : Hid _ := h
  have HC : Hid _ := And.intro hc hf
  have HTP : Hid (∀ j, 77 ≤ j → w.cell? ⟨B, j, none⟩ = none) := ht
  clear h hc hf ht
  go_enter Try.func53, Try.ntmps53
  have hst := store_acv HW.out HC.out.1 HC.out.2 (fun _ => 0) true
  rw [← spoil_cells] at hst
  have HS : Hid (AccO (w.setCells B 0 (Try.zeroCells78.toList.set 76 (.bool true))) B none ∧ Chg B w (w.setCells B 0 (Try.zeroCells78.toList.set 76 (.bool true)))) := by
    rw [spoil_cells]
    exact ⟨AccO.stored (o := none) HW.out HC.out.1 HC.out.2 (fun _ _ => by omega) (fun z hz => by cases hz) HTP.out, (Chg.refl B w).setCells _ 0⟩
  generalize w.setCells B 0 (Try.zeroCells78.toList.set 76 (.bool true)) = w2 at hst HS
  go_wp2_with fail
  go_end0
  exact ⟨rfl, HS.out.1, HS.out.2⟩
theorem AccO.words {w : World} {B : Nat} {o : Option Int} (h : AccO w B o) : ∃ f b, Wds w B f ∧ w.cell? ⟨B, 76, none⟩ = some (.bool b) ∧ w.frozen? ⟨B, 76, none⟩ = false ∧ ∀ j, 77 ≤ j → w.cell? ⟨B, j, none⟩ = none := by
  obtain ⟨f, h1, h2⟩ := h.ex
  exact ⟨f, _, h1, h.cell, h.froz, h.top⟩
set_option maxRecDepth 100000 in
/-- Settle: what is too great is bad. -/
theorem settle_any (B : Nat) (f : Nat → Nat) (z : Int) (w : World) (h : Wds w B f) (hz : Tc f z) (hc : w.cell? ⟨B, 76, none⟩ = some (.bool false)) (hf : w.frozen? ⟨B, 76, none⟩ = false) (ht : ∀ j, 77 ≤ j → w.cell? ⟨B, j, none⟩ = none) : Calls Try.prog 55 #[.pointer (some ⟨B, 0, none⟩)] w fun e w' => e = .returned (.tuple #[]) ∧ AccO w' B (holdZ z) ∧ Chg B w w' := by
  have HW : Hid _ := h
  have HC : Hid _ := And.intro hc hf
  have HZ : Hid _ := hz
  have HTP : Hid (∀ j, 77 ≤ j → w.cell? ⟨B, j, none⟩ = none) := ht
  clear h hc hf hz ht
  by_cases hh : -((2 ^ 4800 : Nat) : Int) < z ∧ z < ((2 ^ 4800 : Nat) : Int)
  · have HH : Hid (holdZ z = some z) := if_pos hh
    have HA : Hid (AccO w B (some z)) := ⟨⟨f, HW.out, fun y hy => by cases hy; exact ⟨HZ.out, hh⟩⟩, HC.out.1, HC.out.2, HTP.out⟩
    have HX : Hid _ := hh
    clear hh
    go_enter Try.func55, Try.ntmps55
    go_wp2_with fail
    refine (held_any B f z _ HW.out HZ.out true ⟨fun _ => HX.out, fun _ => rfl⟩).mono ?_
    rintro e w1 ⟨rfl, rfl⟩
    go_wp2_with fail
    go_end0
    exact ⟨rfl, by rw [HH.out]; exact HA.out, Chg.refl _ _⟩
  · have HH : Hid (holdZ z = none) := if_neg hh
    have HX : Hid _ := hh
    clear hh
    go_enter Try.func55, Try.ntmps55
    go_wp2_with fail
    refine (held_any B f z _ HW.out HZ.out false ⟨fun c => by simp at c, fun c => absurd c HX.out⟩).mono ?_
    rintro e w1 ⟨rfl, rfl⟩
    go_wp2_with fail
    refine (spoil_any B f false _ HW.out HC.out.1 HC.out.2 HTP.out).mono ?_
    rintro e w2 ⟨rfl, h1, h2⟩
    have H1 : Hid _ := And.intro h1 h2
    clear h1 h2
    go_wp2_with fail
    go_end0
    exact ⟨rfl, by rw [HH.out]; exact H1.out.1, H1.out.2⟩
end Go.Proofs.Ytcpbccckjlnkaaa

