import Derived.Test.YtaadhjdbieoieaaSPyw
namespace Go.Proofs.Ytaadhjdbieoieaa
open Go.RowKit
set_option linter.unusedVariables false
set_option linter.unusedSimpArgs false
theorem NumZ.other {W W' : World} {B : Nat} {v : Value} {s : Nat} {T z : Int} (h : NumZ W v s T z) (hB : NumB W B) (ho : ∀ b, b ≠ B → W'.heap[b]? = W.heap[b]?) : NumZ W' v s T z := by
  obtain ⟨neg, m, e, ⟨ao, len, cap, xs, h1, h2, h3⟩, h4⟩ := h
  exact ⟨neg, m, e, ⟨ao, len, cap, xs, h1, rd4_other hB ho h2, h3⟩, h4⟩
theorem svI (i : Int) : sv (decide (i < 0)) i.natAbs = i := by
  unfold sv
  by_cases h : i < 0
  · rw [decide_eq_true h, if_pos rfl]; omega
  · rw [decide_eq_false h, if_neg (by decide)]; omega
theorem bl64 {i : Int} (h : i.natAbs ≤ 9223372036854775808) : bl i.natAbs ≤ 64 := bl_le_of_lt (Nat.lt_of_le_of_lt h (by decide))
theorem wholeZ_any (i : Int) (h : i.natAbs ≤ 9223372036854775808) (w : World) :
    Calls Try.prog 34 #[.int .i64 i] w fun e w' => (∃ n o l c x, e = .returned (.agg #[.bool n, .slice o l c, .int .i64 x]) ∧ NumZ w' (.agg #[.bool n, .slice o l c, .int .i64 x]) 62 100 (i * 2 ^ 62)) ∧ Below w.heap.size w w' := by
  refine (wholeB_any i h w).mono ?_
  rintro e w' ⟨v, rfl, hv, hb⟩
  obtain ⟨ao, len, cap, xs, rfl, h2⟩ := hv
  refine ⟨⟨_, ao, len, cap, 0, rfl, _, _, _, ⟨ao, len, cap, xs, rfl, h2⟩, by omega, by have := bl64 h; omega, ?_⟩, hb⟩
  unfold zv
  rw [svI]
  congr 1
theorem movedZ_any (i : Int) (h : i.natAbs ≤ 9223372036854775808) (L D : Nat) (hL : L ≤ 8) (hD : D ≤ 62) (v : Value) (w : World) (hv : NumV w v (decide (i < 0)) i.natAbs 0) :
    Calls Try.prog 33 #[v, .int .i64 ((L : Int) - D)] w fun e w' => (∃ n o l c x, e = .returned (.agg #[.bool n, .slice o l c, .int .i64 x]) ∧ NumZ w' (.agg #[.bool n, .slice o l c, .int .i64 x]) 62 100 (i * 2 ^ (L + 62 - D))) ∧ Below w.heap.size w w' := by
  refine (moved_any v _ _ 0 ((L : Int) - D) (by omega) (by omega) w hv).mono ?_
  rintro e w' ⟨v', rfl, hv', hb⟩
  obtain ⟨ao, len, cap, xs, rfl, h2⟩ := hv'
  refine ⟨⟨_, ao, len, cap, _, rfl, _, _, _, ⟨ao, len, cap, xs, rfl, h2⟩, by split <;> omega, by have := bl64 h; split <;> omega, ?_⟩, hb⟩
  unfold zv
  rw [svI]
  by_cases h0 : i.natAbs = 0
  · have : i = 0 := by omega
    subst this
    simp
  · rw [if_neg h0]
    have e1 : (0 + ((L : Int) - D) + (62 : Nat)).toNat = L + 62 - D := by omega
    rw [e1]
    simp
theorem sgi_neg (z : Int) : sgi z < 0 ↔ z < 0 := by unfold sgi; split <;> (try split) <;> omega
theorem sgi_gt (z : Int) : sgi z > 0 ↔ z > 0 := by unfold sgi; split <;> (try split) <;> omega
theorem cmp_in (L D : Nat) (a e : Int) (hD : D ≤ 62) : (sgi (e * 2 ^ (L + 62 - D) - (2 * a - 2 ^ L) * 2 ^ 62) < 0 ↔ e * 2 ^ L < (2 * a - 2 ^ L) * 2 ^ D) ∧ (sgi (e * 2 ^ (L + 62 - D) - (2 * a + 2 - 2 ^ L) * 2 ^ 62) > 0 ↔ e * 2 ^ L > (2 * a + 2 - 2 ^ L) * 2 ^ D) := by
  have e1 : (2 : Int) ^ (L + 62 - D) = 2 ^ L * 2 ^ (62 - D) := by rw [← Int.pow_add]; congr 1; omega
  have e2 : (2 : Int) ^ 62 = 2 ^ D * 2 ^ (62 - D) := by rw [← Int.pow_add]; congr 1; omega
  have hp := pow_pos2 (62 - D)
  rw [sgi_neg, sgi_gt, e1, e2, ← Int.mul_assoc, ← Int.mul_assoc, ← Int.mul_assoc]
  generalize (2 : Int) ^ (62 - D) = r at *
  constructor
  · constructor
    · intro h
      exact Int.lt_of_mul_lt_mul_right (by omega) (Int.le_of_lt hp)
    · intro h
      have := Int.mul_lt_mul_of_pos_right h hp
      omega
  · constructor
    · intro h
      exact Int.lt_of_mul_lt_mul_right (a := r) (by omega) (Int.le_of_lt hp)
    · intro h
      have := Int.mul_lt_mul_of_pos_right h hp
      omega
theorem cmp_inH {L D : Nat} {a e p : Int} (hp : (2 : Int) ^ L = p) (hD : D ≤ 62) : Hid ((sgi (e * 2 ^ (L + 62 - D) - (2 * a - p) * 2 ^ 62) < 0 ↔ e * 2 ^ L < (2 * a - p) * 2 ^ D) ∧ (sgi (e * 2 ^ (L + 62 - D) - (2 * a + 2 - p) * 2 ^ 62) > 0 ↔ e * 2 ^ L > (2 * a + 2 - p) * 2 ^ D)) := by
  subst hp
  exact cmp_in L D a e hD
theorem inP_H {L D : Nat} {a e p : Int} (hp : (2 : Int) ^ L = p) : Hid (inP L a e D = true ↔ (2 * a - p) * 2 ^ D ≤ e * 2 ^ L ∧ e * 2 ^ L ≤ (2 * a + 2 - p) * 2 ^ D) := by
  subst hp
  unfold Hid
  rw [in_it]
theorem wF1 {L : Nat} {p : Int} (hp : (2 : Int) ^ L = p) (h : 1 ≤ p ∧ p ≤ 256) : wrap64 (2 ^ L) = p := by rw [hp]; exact wrap64_inS _ (by omega)
theorem wF2 {L : Nat} {p : Int} (hp : (2 : Int) ^ L = p) (h : 1 ≤ p ∧ p ≤ 256) : IntKind.i64.wrap (2 ^ L) = p := by rw [hp]; exact wrI _ (by omega)
theorem vF {a p : Int} (h0 : 0 ≤ a) (h1 : a ≤ 256) (h : 1 ≤ p ∧ p ≤ 256) : IntKind.i64.wrap (2 * a) = 2 * a ∧ IntKind.i64.wrap (2 * a + 2) = 2 * a + 2 ∧ IntKind.i64.wrap (2 * a - p) = 2 * a - p ∧ IntKind.i64.wrap (2 * a + 2 - p) = 2 * a + 2 - p := ⟨wrI _ (by omega), wrI _ (by omega), wrI _ (by omega), wrI _ (by omega)⟩
theorem vF5 {L D : Nat} (h0 : L ≤ 8) (h1 : D ≤ 62) : IntKind.i64.wrap ((L : Int) - (D : Int)) = (L : Int) - D := wrI _ (by omega)
theorem vFl {a p : Int} (h0 : 0 ≤ a) (h1 : a ≤ 256) (h : 1 ≤ p ∧ p ≤ 256) : (2 * a - p).natAbs ≤ 9223372036854775808 ∧ (2 * a + 2 - p).natAbs ≤ 9223372036854775808 := by omega
theorem put_noneP {P : Program} {md : Region.Mode} {ops : Array Oper} {Q : Exit → Act → World → Prop} {S : World → Prop} {s fuel : Nat} {l : Array Bool} {a : Act} {dst : Option Tmp} {v : Value} {w : World} (hd : dst = none) (h : wpAnyP P md ops Q S s fuel l a w) : wpAnyP P md ops Q S s fuel l (a.put dst v) w := by subst hd; exact h
theorem one_num (n : Bool) (o : Option Addr) (l c : Nat) (x : Int) : (#[.bool n, .slice o l c, .int .i64 x] : Array Value).all (·.oneCell') = true := by
  simp only [Array.all_eq_true_iff_forall_mem]
  intro v hv
  simp only [List.mem_toArray, List.mem_cons, List.not_mem_nil, or_false] at hv
  rcases hv with rfl | rfl | rfl <;> rfl
theorem by_keyN {F G : Nat → Bool → Option Addr → Nat → Nat → Int → World → Prop} {goal : Prop} (main : (∀ D n o l c x W, F D n o l c x W → G D n o l c x W) → goal) (pf : ∀ D n o l c x W, F D n o l c x W → G D n o l c x W) : goal := main pf
theorem by_keyV {F G : Nat → Bool → Option Addr → Nat → Nat → Int → Value → World → Prop} {goal : Prop} (main : (∀ D n o l c x v W, F D n o l c x v W → G D n o l c x v W) → goal) (pf : ∀ D n o l c x v W, F D n o l c x v W → G D n o l c x v W) : goal := main pf
theorem cmpI {w : World} {v u : Value} {x y : Int} (hx : NumZ w v 62 100 x) (hy : NumZ w u 62 100 y) : Calls Try.prog 35 #[v, u] w fun e w' => e = .returned (.int .i64 (sgi (x - y))) ∧ Below w.heap.size w w' := cmpZ_any v u 62 100 x y w hx hy (by decide) ⟨by decide, by decide⟩
theorem sgi_small (z : Int) : -1 ≤ sgi z ∧ sgi z ≤ 1 := by unfold sgi; split <;> (try split) <;> omega
set_option maxRecDepth 100000 in
set_option maxHeartbeats 20000000 in
theorem refWithin_any (la ba eo : Option Addr) (n m c d en ec : Nat) (ls bs es : List Int) (DI : Int) (w : World) (hl : RdIs w la n c ls) (ha : RdIs w ba m d bs) (he : RdIs w eo en ec es) (heb : ∀ i ∈ es, -9223372036854775808 ≤ i ∧ i ≤ 9223372036854775807) :
    Calls Try.prog 23 #[.agg #[.slice la n c, .slice ba m d], .slice eo en ec, .int .i64 DI] w fun e w' => e = .returned (.bool (WiV ls bs es n en DI)) ∧ Below w.heap.size w w' := by
  have HS : Hid (∀ W', Below w.heap.size w W' → RdIs W' eo en ec es) := fun W' hb => he.later hb
  have HSL : Hid (es.length = en) := he.length
  have HEB : Hid (∀ j, j < en → -9223372036854775808 ≤ es[j]?.getD 0 ∧ es[j]?.getD 0 ≤ 9223372036854775807) := fun j hj => by rw [List.getElem?_eq_getElem (by rw [HSL.out]; exact hj)]; exact heb _ (List.getElem_mem _)
  have hem : en ≤ 9223372036854775807 := Nat.le_trans he.max maxLen_le
  clear he heb
  have HL : Hid (∀ W', Below w.heap.size w W' → RdIs W' la n c ls) := fun W' hb => hl.later hb
  have HA : Hid (∀ W', Below w.heap.size w W' → RdIs W' ba m d bs) := fun W' hb => ha.later hb
  have HN : Hid (ls.length = n ∧ bs.length = m) := ⟨hl.length, ha.length⟩
  obtain ⟨g, hg⟩ : ∃ g, regB ls bs n = g := ⟨_, rfl⟩
  have HG : Hid (regB ls bs n = g) := hg
  clear hl ha hg
  have X0 : Below w.heap.size w (w.alloc (.cells #[.slice la n c, .slice ba m d] 24)) := (Below.refl _ w).alloc (Nat.le_refl _) _
  have Y0 : (w.alloc (.cells #[.slice la n c, .slice ba m d] 24)).heap[w.heap.size]? = some (.cells #[.slice la n c, .slice ba m d] 24) := heap_alloc_new w _
  go_enter Try.func23, Try.ntmps23
  go_upto_region 1 with fail
  obtain ⟨X, hX⟩ : ∃ X, (w.alloc (.cells #[.slice la n c, .slice ba m d] 24)) = X := ⟨_, rfl⟩
  rw [hX] at X0 Y0 ⊢
  have k0 := cellAtJ Y0 0 _ rfl
  clear hX
  go_wp2_with (first | (refine wpList_load_row (by rfl) 24 _ (by rfl) w.heap.size #[.slice la n c, .slice ba m d] (by rfl) Y0 _ Try.underlying24 rfl 2 Try.szRT (by rfl) ?_))
  refine Calls.mono (refCheck_any la ba n m c d ls bs n _ (HL.out _ X0) (HA.out _ X0)) ?_
  rintro e' w1 ⟨rfl, bb1⟩
  have P1 : Hid (Below w.heap.size w w1 ∧ w1.heap[w.heap.size]? = some (.cells #[.slice la n c, .slice ba m d] 24)) := ⟨to_call X0 bb1, kept bb1 Y0⟩
  clear X0 Y0 k0 bb1
  cases g with
  | false =>
    have HE : Hid (WiV ls bs es n en DI = false) := by unfold Hid WiV; rw [HG.out]; rfl
    rw [ckE_no HG.out]
    go_wp2_with fail
    go_ret
    exact ⟨by rw [HE.out]; rfl, P1.out.1⟩
  | true =>
    rw [ckE_ok HG.out]
    have hlen := regB_len HG.out
    have hn : n ≤ 256 := by omega
    obtain rfl : m = n := by have := HN.out; omega
    have k0 := cellAtJ P1.out.2 0 _ rfl
    clear hlen
    by_cases h1 : ¬ en = m
    · have d1 : ((en : Int) != (m : Int)) = true := by simp; omega
      have HE : Hid (WiV ls bs es m en DI = false) := by unfold Hid WiV; rw [decide_eq_false h1, Bool.and_false]; rfl
      go_wp2_with fail
      go_ret
      exact ⟨by rw [HE.out]; rfl, P1.out.1⟩
    obtain rfl : en = m := by omega
    have d1 : ((en : Int) != (en : Int)) = false := by simp
    by_cases h2 : DI < 0
    · have d2 : decide (DI < 0) = true := decide_eq_true h2
      have HE : Hid (WiV ls bs es en en DI = false) := by unfold Hid WiV; rw [decide_eq_false (p := 0 ≤ DI) (by omega), Bool.and_false]; rfl
      go_wp2_with fail
      go_ret
      exact ⟨by rw [HE.out]; rfl, P1.out.1⟩
    have d2 : decide (DI < 0) = false := decide_eq_false h2
    by_cases h3 : DI > 62
    · have d3 : decide (DI > 62) = true := decide_eq_true h3
      have HE : Hid (WiV ls bs es en en DI = false) := by unfold Hid WiV; rw [decide_eq_false (p := DI ≤ 62) (by omega), Bool.and_false]; rfl
      go_wp2_with fail
      go_ret
      exact ⟨by rw [HE.out]; rfl, P1.out.1⟩
    have d3 : decide (DI > 62) = false := decide_eq_false h3
    obtain ⟨D, rfl⟩ : ∃ D : Nat, DI = D := ⟨DI.toNat, by omega⟩
    have hD62 : D ≤ 62 := by omega
    obtain ⟨f, hf⟩ : ∃ f : Nat → Bool, (fun i => inP ((ls.zip bs)[i]?.getD (0, 0)).1.toNat ((ls.zip bs)[i]?.getD (0, 0)).2 (es[i]?.getD 0) D) = f := ⟨_, rfl⟩
    have HF : Hid (∀ i, f i = inP ((ls.zip bs)[i]?.getD (0, 0)).1.toNat ((ls.zip bs)[i]?.getD (0, 0)).2 (es[i]?.getD 0) D) := fun i => by rw [← hf]
    have HK : Hid (WiV ls bs es en en D = (List.range en).all f) := by
      unfold Hid
      rw [WiV_ok HG.out hD62]
      unfold wiB
      rw [hf, (zip_low HG.out).1]
    clear hf h1 h2 h3
    go_wp2_with fail
    clear d1 d2 d3 k0
    obtain ⟨n, rfl⟩ : ∃ n, n = en := ⟨_, rfl⟩
    go_loopg [7] n (fun g iv wx => ∃ j : Nat, iv = .int .i64 j ∧ j + g = n ∧ Hid (Below w.heap.size w wx ∧ wx.heap[w.heap.size]? = some (.cells #[.slice la n c, .slice ba n d] 24)) ∧ Hid ((List.range j).all f = true))
    case atStart => exact ⟨0, rfl, by omega, P1, rfl⟩
    case round =>
      clear P1
      obtain ⟨j, rfl, hj, P2, HAL⟩ := hrel
      by_cases hlt : j < n
      · have e1 : decide ((j : Int) < (n : Int)) = true := decide_eq_true (by omega)
        obtain ⟨q, rfl⟩ : ∃ q, gk = q + 1 := ⟨gk - 1, by omega⟩
        have HIG : Hid (j + (q + 1) = n) := hj
        have hlt' : (j : Int) < (n : Int) := by omega
        rcases (HL.out w (Below.refl _ _)).cells with h0 | ⟨lb, lo, rfl, hcl⟩
        · omega
        rcases (HA.out w (Below.refl _ _)).cells with h0 | ⟨bb, bo, rfl, hca⟩
        · omega
        rcases (HS.out w (Below.refl _ _)).cells with h0 | ⟨eb, ef, rfl, hce⟩
        · omega
        have gl := hcl j hlt
        have ga := hca j hlt
        have ge := hce j hlt
        obtain ⟨l, hl⟩ : ∃ l, ls[j]?.getD 0 = l := ⟨_, rfl⟩
        obtain ⟨a, ha⟩ : ∃ a, bs[j]?.getD 0 = a := ⟨_, rfl⟩
        obtain ⟨y, hy⟩ : ∃ y, es[j]?.getD 0 = y := ⟨_, rfl⟩
        have hlv := regB_level HG.out j (by rw [HN.out.1]; exact hlt)
        have hyb0 := HEB.out j hlt
        have hzj := zip_at (n := n) HN.out.1 HN.out.2 hlt
        rw [hl, ha] at hlv hzj
        rw [hl] at gl
        rw [ha] at ga
        rw [hy] at ge hyb0
        obtain ⟨o1, o2, o3, o4⟩ := hlv
        obtain ⟨L, rfl⟩ : ∃ L : Nat, l = L := ⟨l.toNat, by omega⟩
        rw [Int.toNat_natCast] at o4
        obtain ⟨p, hp⟩ : ∃ p : Int, (2 : Int) ^ L = p := ⟨_, rfl⟩
        have hp8 := pow8 (n := L) (by omega)
        rw [hp] at o4 hp8
        have hL8 : L ≤ 8 := by omega
        have hyb : y.natAbs ≤ 9223372036854775808 := by omega
        have o5 : a ≤ 256 := by omega
        obtain ⟨hlo, hhi⟩ := vFl o3 o5 hp8
        have HFJ : Hid (f j = inP L a y D) := by unfold Hid; rw [HF.out, hzj, hy]; rfl
        have HCM : Hid ((sgi (y * 2 ^ (L + 62 - D) - (2 * a - p) * 2 ^ 62) < 0 ↔ y * 2 ^ L < (2 * a - p) * 2 ^ D) ∧ (sgi (y * 2 ^ (L + 62 - D) - (2 * a + 2 - p) * 2 ^ 62) > 0 ↔ y * 2 ^ L > (2 * a + 2 - p) * 2 ^ D)) := cmp_inH hp hD62
        have HINP : Hid (inP L a y D = true ↔ (2 * a - p) * 2 ^ D ≤ y * 2 ^ L ∧ y * 2 ^ L ≤ (2 * a + 2 - p) * 2 ^ D) := inP_H hp
        have w1 : wrap64 (2 ^ L) = p := wF1 hp hp8
        have w2 : IntKind.i64.wrap (2 ^ L) = p := wF2 hp hp8
        obtain ⟨v1, v2, v3, v4⟩ := vF o3 o5 hp8
        have v5 : IntKind.i64.wrap ((L : Int) - (D : Int)) = (L : Int) - D := vF5 hL8 hD62
        have K0 : Hid (wr.cell? ⟨w.heap.size, 0, none⟩ = _) := cellAtJ P2.out.2 0 _ rfl
        have K1 : Hid (wr.cell? ⟨w.heap.size, 1, none⟩ = _) := cellAtJ P2.out.2 1 _ rfl
        have K2 : Hid (wr.cell? ⟨lb, lo + j, none⟩ = some (.int .i64 (L : Int))) := cell_later gl P2.out.1
        have K3 : Hid (wr.cell? ⟨bb, bo + j, none⟩ = some (.int .i64 a)) := cell_later ga P2.out.1
        have K4 : Hid (wr.cell? ⟨eb, ef + j, none⟩ = some (.int .i64 y)) := cell_later ge P2.out.1
        clear hcl hca hce hl ha hy hj hp o4
        go_upto_region 6 with fail
        apply by_keyV (F := fun D8 n8 o8 l8 c8 x8 v0 W => Hid (Below wr.heap.size wr W ∧ W.heap[D8]? = some (.cells #[.bool n8, .slice o8 l8 c8, .int .i64 x8] 74) ∧ NumZ W (.agg #[.bool n8, .slice o8 l8 c8, .int .i64 x8]) 62 100 (y * 2 ^ (L + 62 - D)) ∧ wr.heap.size ≤ D8))
        case main =>
          intro key
          refine wp_region_noPanic ?_
          refine wp_region_P (S := (fun V => Below wr.heap.size wr V)) (s := 14) (by kernel_rfl) ?_
          have SX : Below wr.heap.size wr wr.drew := (Below.refl _ _).drew
          refine takeP 39 (i := 0) (v := ?_) rfl rfl (by kernel_rfl) (by kernel_rfl) (by kernel_rfl) (by kernel_rfl) rfl (by kernel_rfl) (fun _ _ _ h => h) (Or.inl ⟨by kernel_rfl, ?_⟩) SX ?_
          rotate_left
          · intro w' hSw; skip; go_simp; try with_reducible rfl
          try simp only [Act.put, List.setIfInBounds_toArray, List.set_cons_zero, List.set_cons_succ]
          refine takeP 40 (i := 1) (v := ?_) rfl rfl (by kernel_rfl) (by kernel_rfl) (by kernel_rfl) (by kernel_rfl) rfl (by kernel_rfl) (fun _ _ _ h => h) (Or.inl ⟨by kernel_rfl, ?_⟩) SX ?_
          rotate_left
          · intro w' hSw; skip; go_simp; try with_reducible rfl
          try simp only [Act.put, List.setIfInBounds_toArray, List.set_cons_zero, List.set_cons_succ]
          refine takeP 41 (i := 2) (v := ?_) rfl rfl (by kernel_rfl) (by kernel_rfl) (by kernel_rfl) (by kernel_rfl) rfl (by kernel_rfl) (fun _ _ _ h => h) (Or.inl ⟨by kernel_rfl, ?_⟩) SX ?_
          rotate_left
          · intro w' hSw; skip; go_simp; try with_reducible rfl
          try simp only [Act.put, List.setIfInBounds_toArray, List.set_cons_zero, List.set_cons_succ]
          refine takeP 42 (i := 3) (v := ?_) rfl rfl (by kernel_rfl) (by kernel_rfl) (by kernel_rfl) (by kernel_rfl) rfl (by kernel_rfl) (fun _ _ _ h => h) (Or.inl ⟨by kernel_rfl, ?_⟩) SX ?_
          rotate_left
          · intro w' hSw; have t0 := cell_later K0.out hSw; have t1 := cell_later K1.out hSw; have t2 := cell_later K2.out hSw; have t3 := cell_later K3.out hSw; have t4 := cell_later K4.out hSw; go_simp; try with_reducible rfl
          try simp only [Act.put, List.setIfInBounds_toArray, List.set_cons_zero, List.set_cons_succ]
          refine takeP 44 (i := 5) (v := ?_) rfl rfl (by kernel_rfl) (by kernel_rfl) (by kernel_rfl) (by kernel_rfl) rfl (by kernel_rfl) (fun _ _ _ h => h) (Or.inl ⟨by kernel_rfl, ?_⟩) SX ?_
          rotate_left
          · intro w' hSw; skip; go_simp; try with_reducible rfl
          try simp only [Act.put, List.setIfInBounds_toArray, List.set_cons_zero, List.set_cons_succ]
          refine takeP 45 (i := 6) (v := ?_) rfl rfl (by kernel_rfl) (by kernel_rfl) (by kernel_rfl) (by kernel_rfl) rfl (by kernel_rfl) (fun _ _ _ h => h) (Or.inl ⟨by kernel_rfl, ?_⟩) SX ?_
          rotate_left
          · intro w' hSw; have t0 := cell_later K0.out hSw; have t1 := cell_later K1.out hSw; have t2 := cell_later K2.out hSw; have t3 := cell_later K3.out hSw; have t4 := cell_later K4.out hSw; go_simp; try with_reducible rfl
          try simp only [Act.put, List.setIfInBounds_toArray, List.set_cons_zero, List.set_cons_succ]
          refine takeP 46 (i := 7) (v := ?_) rfl rfl (by kernel_rfl) (by kernel_rfl) (by kernel_rfl) (by kernel_rfl) rfl (by kernel_rfl) (fun _ _ _ h => h) (Or.inl ⟨by kernel_rfl, ?_⟩) SX ?_
          rotate_left
          · intro w' hSw; skip; go_simp; try with_reducible rfl
          try simp only [Act.put, List.setIfInBounds_toArray, List.set_cons_zero, List.set_cons_succ]
          refine takeP 47 (i := 8) (v := ?_) rfl rfl (by kernel_rfl) (by kernel_rfl) (by kernel_rfl) (by kernel_rfl) rfl (by kernel_rfl) (fun _ _ _ h => h) (Or.inl ⟨by kernel_rfl, ?_⟩) SX ?_
          rotate_left
          · intro w' hSw; skip; go_simp; try with_reducible rfl
          try simp only [Act.put, List.setIfInBounds_toArray, List.set_cons_zero, List.set_cons_succ]
          refine takeP 48 (i := 9) (v := ?_) rfl rfl (by kernel_rfl) (by kernel_rfl) (by kernel_rfl) (by kernel_rfl) rfl (by kernel_rfl) (fun _ _ _ h => h) (Or.inl ⟨by kernel_rfl, ?_⟩) SX ?_
          rotate_left
          · intro w' hSw; have t0 := cell_later K0.out hSw; have t1 := cell_later K1.out hSw; have t2 := cell_later K2.out hSw; have t3 := cell_later K3.out hSw; have t4 := cell_later K4.out hSw; go_simp; try with_reducible rfl
          try simp only [Act.put, List.setIfInBounds_toArray, List.set_cons_zero, List.set_cons_succ]
          refine takeP 49 (i := 10) (v := ?_) rfl rfl (by kernel_rfl) (by kernel_rfl) (by kernel_rfl) (by kernel_rfl) rfl (by kernel_rfl) (fun _ _ _ h => h) (Or.inl ⟨by kernel_rfl, ?_⟩) SX ?_
          rotate_left
          · intro w' hSw; skip; go_simp; try with_reducible rfl
          try simp only [Act.put, List.setIfInBounds_toArray, List.set_cons_zero, List.set_cons_succ]
          refine takeP 50 (i := 11) (v := ?_) rfl rfl (by kernel_rfl) (by kernel_rfl) (by kernel_rfl) (by kernel_rfl) rfl (by kernel_rfl) (fun _ _ _ h => h) (Or.inl ⟨by kernel_rfl, ?_⟩) SX ?_
          rotate_left
          · intro w' hSw; skip; go_simp; try with_reducible rfl
          try simp only [Act.put, List.setIfInBounds_toArray, List.set_cons_zero, List.set_cons_succ]
          refine wpAnyP_ready (rs := [4, 13]) (by kernel_rfl) (by simp) ?_
          refine consP _ rfl ?_ (consP _ rfl ?_ AllReadyP.nil)
          · refine hopCd 43 rfl (by kernel_rfl) rfl (by kernel_rfl) (Calls.mono (wholeB_any y hyb _) ?_)
            rintro e Vc ⟨v0, rfl, hv0, bb⟩
            have SX : Below wr.heap.size wr Vc := to_call SX bb
            clear bb
            refine ⟨_, rfl, SX, ?_⟩
            try simp only [Act.put, List.setIfInBounds_toArray, List.set_cons_zero, List.set_cons_succ]
            refine wpAnyP_ready (rs := [12, 13]) (by kernel_rfl) (by simp) ?_
            refine consP _ rfl ?_ (consP _ rfl ?_ AllReadyP.nil)
            · refine hopCd 51 rfl (by kernel_rfl) rfl (by kernel_rfl) (Calls.mono (movedZ_any y hyb L D hL8 hD62 v0 _ hv0) ?_)
              rintro e Vcc ⟨⟨n8, o8, l8, c8, x8, rfl, HZ⟩, bb⟩
              have SX : Below wr.heap.size wr Vcc := to_call SX bb
              clear bb
              refine ⟨_, rfl, SX, ?_⟩
              try simp only [Act.put, List.setIfInBounds_toArray, List.set_cons_zero, List.set_cons_succ]
              refine wpAnyP_ready (rs := [13]) (by kernel_rfl) (by simp) ?_
              refine consP _ rfl ?_ AllReadyP.nil
              · refine hopAJ 8 rfl rfl rfl 74 rfl #[.bool false, .slice none 0 0, .int .i64 0] allocNJ fun D8 Vcca hD lD bD => ?_
                have qD : wr.heap.size ≤ D8 := Nat.le_trans SX.size lD
                have SX : Below wr.heap.size wr Vcca := to_call SX bD
                have HZ := HZ.later bD
                clear bD
                refine ⟨SX, ?_⟩
                try simp only [Act.put, List.setIfInBounds_toArray, List.set_cons_zero, List.set_cons_succ]
                refine wpAnyP_ready (rs := [14]) (by kernel_rfl) (by simp) ?_
                refine consPs _ rfl (by kernel_rfl) (hopL rfl (wpList_store_row (by rfl) 74 _ _ (by rfl) wr wr.heap.size D8 #[.bool n8, .slice o8 l8 c8, .int .i64 x8] _ (by kernel_rfl) (by kernel_rfl) hD SX qD 3 Try.infoN3 rfl rfl (one_num _ _ _ _ _) fun W5 e5 b5 s5 o5 => ?_)) AllReadyP.nil
                refine ⟨trivial, ?_⟩
                refine put_noneP rfl ?_
                refine wpAnyP_done (by kernel_rfl) ?_ _
                refine NoPanic.normal ?_
                try simp only [Act.put, List.setIfInBounds_toArray, List.set_cons_zero, List.set_cons_succ]
                exact key D8 n8 o8 l8 c8 x8 v0 W5 ⟨b5, e5, HZ.other ⟨_, _, _, _, _, hD⟩ o5, qD⟩
            · refine hopAJ 8 rfl rfl rfl 74 rfl #[.bool false, .slice none 0 0, .int .i64 0] allocNJ fun D8 Vca hD lD bD => ?_
              have qD : wr.heap.size ≤ D8 := Nat.le_trans SX.size lD
              have SX : Below wr.heap.size wr Vca := to_call SX bD
              have hv0 := hv0.later bD
              clear bD
              refine ⟨SX, ?_⟩
              try simp only [Act.put, List.setIfInBounds_toArray, List.set_cons_zero, List.set_cons_succ]
              refine wpAnyP_ready (rs := [12]) (by kernel_rfl) (by simp) ?_
              refine consP _ rfl ?_ AllReadyP.nil
              · refine hopCd 51 rfl (by kernel_rfl) rfl (by kernel_rfl) (Calls.mono (movedZ_any y hyb L D hL8 hD62 v0 _ hv0) ?_)
                rintro e Vcac ⟨⟨n8, o8, l8, c8, x8, rfl, HZ⟩, bb⟩
                have SX : Below wr.heap.size wr Vcac := to_call SX bb
                have hD := kept bb hD
                clear bb
                refine ⟨_, rfl, SX, ?_⟩
                try simp only [Act.put, List.setIfInBounds_toArray, List.set_cons_zero, List.set_cons_succ]
                refine wpAnyP_ready (rs := [14]) (by kernel_rfl) (by simp) ?_
                refine consPs _ rfl (by kernel_rfl) (hopL rfl (wpList_store_row (by rfl) 74 _ _ (by rfl) wr wr.heap.size D8 #[.bool n8, .slice o8 l8 c8, .int .i64 x8] _ (by kernel_rfl) (by kernel_rfl) hD SX qD 3 Try.infoN3 rfl rfl (one_num _ _ _ _ _) fun W5 e5 b5 s5 o5 => ?_)) AllReadyP.nil
                refine ⟨trivial, ?_⟩
                refine put_noneP rfl ?_
                refine wpAnyP_done (by kernel_rfl) ?_ _
                refine NoPanic.normal ?_
                try simp only [Act.put, List.setIfInBounds_toArray, List.set_cons_zero, List.set_cons_succ]
                exact key D8 n8 o8 l8 c8 x8 v0 W5 ⟨b5, e5, HZ.other ⟨_, _, _, _, _, hD⟩ o5, qD⟩
          · refine hopAJ 8 rfl rfl rfl 74 rfl #[.bool false, .slice none 0 0, .int .i64 0] allocNJ fun D8 Va hD lD bD => ?_
            have qD : wr.heap.size ≤ D8 := Nat.le_trans SX.size lD
            have SX : Below wr.heap.size wr Va := to_call SX bD
            clear bD
            refine ⟨SX, ?_⟩
            try simp only [Act.put, List.setIfInBounds_toArray, List.set_cons_zero, List.set_cons_succ]
            refine wpAnyP_ready (rs := [4]) (by kernel_rfl) (by simp) ?_
            refine consP _ rfl ?_ AllReadyP.nil
            · refine hopCd 43 rfl (by kernel_rfl) rfl (by kernel_rfl) (Calls.mono (wholeB_any y hyb _) ?_)
              rintro e Vac ⟨v0, rfl, hv0, bb⟩
              have SX : Below wr.heap.size wr Vac := to_call SX bb
              have hD := kept bb hD
              clear bb
              refine ⟨_, rfl, SX, ?_⟩
              try simp only [Act.put, List.setIfInBounds_toArray, List.set_cons_zero, List.set_cons_succ]
              refine wpAnyP_ready (rs := [12]) (by kernel_rfl) (by simp) ?_
              refine consP _ rfl ?_ AllReadyP.nil
              · refine hopCd 51 rfl (by kernel_rfl) rfl (by kernel_rfl) (Calls.mono (movedZ_any y hyb L D hL8 hD62 v0 _ hv0) ?_)
                rintro e Vacc ⟨⟨n8, o8, l8, c8, x8, rfl, HZ⟩, bb⟩
                have SX : Below wr.heap.size wr Vacc := to_call SX bb
                have hD := kept bb hD
                clear bb
                refine ⟨_, rfl, SX, ?_⟩
                try simp only [Act.put, List.setIfInBounds_toArray, List.set_cons_zero, List.set_cons_succ]
                refine wpAnyP_ready (rs := [14]) (by kernel_rfl) (by simp) ?_
                refine consPs _ rfl (by kernel_rfl) (hopL rfl (wpList_store_row (by rfl) 74 _ _ (by rfl) wr wr.heap.size D8 #[.bool n8, .slice o8 l8 c8, .int .i64 x8] _ (by kernel_rfl) (by kernel_rfl) hD SX qD 3 Try.infoN3 rfl rfl (one_num _ _ _ _ _) fun W5 e5 b5 s5 o5 => ?_)) AllReadyP.nil
                refine ⟨trivial, ?_⟩
                refine put_noneP rfl ?_
                refine wpAnyP_done (by kernel_rfl) ?_ _
                refine NoPanic.normal ?_
                try simp only [Act.put, List.setIfInBounds_toArray, List.set_cons_zero, List.set_cons_succ]
                exact key D8 n8 o8 l8 c8 x8 v0 W5 ⟨b5, e5, HZ.other ⟨_, _, _, _, _, hD⟩ o5, qD⟩
        case pf =>
          intro D8 n8 o8 l8 c8 x8 v0 W8 F8
          have P3 : Hid (Below w.heap.size w W8 ∧ W8.heap[w.heap.size]? = some (.cells #[.slice (some ⟨lb, lo, none⟩) n c, .slice (some ⟨bb, bo, none⟩) n d] 24)) := ⟨to_call P2.out.1 F8.out.1, kept F8.out.1 P2.out.2⟩
          clear K0 K1 K2 K3 K4
          have K0 : Hid (W8.cell? ⟨w.heap.size, 0, none⟩ = _) := cellAtJ P3.out.2 0 _ rfl
          have K1 : Hid (W8.cell? ⟨w.heap.size, 1, none⟩ = _) := cellAtJ P3.out.2 1 _ rfl
          have K2 : Hid (W8.cell? ⟨lb, lo + j, none⟩ = some (.int .i64 (L : Int))) := cell_later gl P3.out.1
          have K3 : Hid (W8.cell? ⟨bb, bo + j, none⟩ = some (.int .i64 a)) := cell_later ga P3.out.1
          have K4 : Hid (W8.cell? ⟨eb, ef + j, none⟩ = some (.int .i64 y)) := cell_later ge P3.out.1
          go_upto_region 7 with fail
          apply by_keyN (F := fun D9 n9 o9 l9 c9 x9 W => Hid (Below W8.heap.size W8 W ∧ W.heap[D9]? = some (.cells #[.bool n9, .slice o9 l9 c9, .int .i64 x9] 74) ∧ NumZ W (.agg #[.bool n9, .slice o9 l9 c9, .int .i64 x9]) 62 100 ((2 * a - p) * 2 ^ 62) ∧ W8.heap.size ≤ D9))
          case main =>
            intro key
            refine wp_region_noPanic ?_
            refine wp_region_P (S := (fun V => Below W8.heap.size W8 V)) (s := 15) (by kernel_rfl) ?_
            have SX : Below W8.heap.size W8 W8.drew := (Below.refl _ _).drew
            refine takeP 52 (i := 0) (v := ?_) rfl rfl (by kernel_rfl) (by kernel_rfl) (by kernel_rfl) (by kernel_rfl) rfl (by kernel_rfl) (fun _ _ _ h => h) (Or.inl ⟨by kernel_rfl, ?_⟩) SX ?_
            rotate_left
            · intro w' hSw; skip; go_simp; try with_reducible rfl
            try simp only [Act.put, List.setIfInBounds_toArray, List.set_cons_zero, List.set_cons_succ]
            refine takeP 53 (i := 1) (v := ?_) rfl rfl (by kernel_rfl) (by kernel_rfl) (by kernel_rfl) (by kernel_rfl) rfl (by kernel_rfl) (fun _ _ _ h => h) (Or.inl ⟨by kernel_rfl, ?_⟩) SX ?_
            rotate_left
            · intro w' hSw; have t0 := cell_later K0.out hSw; have t1 := cell_later K1.out hSw; have t2 := cell_later K2.out hSw; have t3 := cell_later K3.out hSw; have t4 := cell_later K4.out hSw; go_simp; try with_reducible rfl
            try simp only [Act.put, List.setIfInBounds_toArray, List.set_cons_zero, List.set_cons_succ]
            refine takeP 54 (i := 2) (v := ?_) rfl rfl (by kernel_rfl) (by kernel_rfl) (by kernel_rfl) (by kernel_rfl) rfl (by kernel_rfl) (fun _ _ _ h => h) (Or.inl ⟨by kernel_rfl, ?_⟩) SX ?_
            rotate_left
            · intro w' hSw; skip; go_simp; try with_reducible rfl
            try simp only [Act.put, List.setIfInBounds_toArray, List.set_cons_zero, List.set_cons_succ]
            refine takeP 55 (i := 3) (v := ?_) rfl rfl (by kernel_rfl) (by kernel_rfl) (by kernel_rfl) (by kernel_rfl) rfl (by kernel_rfl) (fun _ _ _ h => h) (Or.inl ⟨by kernel_rfl, ?_⟩) SX ?_
            rotate_left
            · intro w' hSw; skip; go_simp; try with_reducible rfl
            try simp only [Act.put, List.setIfInBounds_toArray, List.set_cons_zero, List.set_cons_succ]
            refine takeP 56 (i := 4) (v := ?_) rfl rfl (by kernel_rfl) (by kernel_rfl) (by kernel_rfl) (by kernel_rfl) rfl (by kernel_rfl) (fun _ _ _ h => h) (Or.inl ⟨by kernel_rfl, ?_⟩) SX ?_
            rotate_left
            · intro w' hSw; have t0 := cell_later K0.out hSw; have t1 := cell_later K1.out hSw; have t2 := cell_later K2.out hSw; have t3 := cell_later K3.out hSw; have t4 := cell_later K4.out hSw; go_simp; try with_reducible rfl
            try simp only [Act.put, List.setIfInBounds_toArray, List.set_cons_zero, List.set_cons_succ]
            refine takeP 57 (i := 5) (v := ?_) rfl rfl (by kernel_rfl) (by kernel_rfl) (by kernel_rfl) (by kernel_rfl) rfl (by kernel_rfl) (fun _ _ _ h => h) (Or.inl ⟨by kernel_rfl, ?_⟩) SX ?_
            rotate_left
            · intro w' hSw; skip; go_simp; try with_reducible rfl
            try simp only [Act.put, List.setIfInBounds_toArray, List.set_cons_zero, List.set_cons_succ]
            refine takeP 58 (i := 6) (v := ?_) rfl rfl (by kernel_rfl) (by kernel_rfl) (by kernel_rfl) (by kernel_rfl) rfl (by kernel_rfl) (fun _ _ _ h => h) (Or.inl ⟨by kernel_rfl, ?_⟩) SX ?_
            rotate_left
            · intro w' hSw; skip; go_simp; try with_reducible rfl
            try simp only [Act.put, List.setIfInBounds_toArray, List.set_cons_zero, List.set_cons_succ]
            refine takeP 59 (i := 7) (v := ?_) rfl rfl (by kernel_rfl) (by kernel_rfl) (by kernel_rfl) (by kernel_rfl) rfl (by kernel_rfl) (fun _ _ _ h => h) (Or.inl ⟨by kernel_rfl, ?_⟩) SX ?_
            rotate_left
            · intro w' hSw; have t0 := cell_later K0.out hSw; have t1 := cell_later K1.out hSw; have t2 := cell_later K2.out hSw; have t3 := cell_later K3.out hSw; have t4 := cell_later K4.out hSw; go_simp; try with_reducible rfl
            try simp only [Act.put, List.setIfInBounds_toArray, List.set_cons_zero, List.set_cons_succ]
            refine takeP 60 (i := 8) (v := ?_) rfl rfl (by kernel_rfl) (by kernel_rfl) (by kernel_rfl) (by kernel_rfl) rfl (by kernel_rfl) (fun _ _ _ h => h) (Or.inl ⟨by kernel_rfl, ?_⟩) SX ?_
            rotate_left
            · intro w' hSw; skip; go_simp; try with_reducible rfl
            try simp only [Act.put, List.setIfInBounds_toArray, List.set_cons_zero, List.set_cons_succ]
            refine takeP 61 (i := 9) (v := ?_) rfl rfl (by kernel_rfl) (by kernel_rfl) (by kernel_rfl) (by kernel_rfl) rfl (by kernel_rfl) (fun _ _ _ h => h) (Or.inl ⟨by kernel_rfl, ?_⟩) SX ?_
            rotate_left
            · intro w' hSw; skip; go_simp; try with_reducible rfl
            try simp only [Act.put, List.setIfInBounds_toArray, List.set_cons_zero, List.set_cons_succ]
            refine takeP 62 (i := 10) (v := ?_) rfl rfl (by kernel_rfl) (by kernel_rfl) (by kernel_rfl) (by kernel_rfl) rfl (by kernel_rfl) (fun _ _ _ h => h) (Or.inl ⟨by kernel_rfl, ?_⟩) SX ?_
            rotate_left
            · intro w' hSw; have t0 := cell_later K0.out hSw; have t1 := cell_later K1.out hSw; have t2 := cell_later K2.out hSw; have t3 := cell_later K3.out hSw; have t4 := cell_later K4.out hSw; go_simp; try with_reducible rfl
            try simp only [Act.put, List.setIfInBounds_toArray, List.set_cons_zero, List.set_cons_succ]
            refine takeP 63 (i := 11) (v := ?_) rfl rfl (by kernel_rfl) (by kernel_rfl) (by kernel_rfl) (by kernel_rfl) rfl (by kernel_rfl) (fun _ _ _ h => h) (Or.inl ⟨by kernel_rfl, ?_⟩) SX ?_
            rotate_left
            · intro w' hSw; skip; go_simp; try with_reducible rfl
            try simp only [Act.put, List.setIfInBounds_toArray, List.set_cons_zero, List.set_cons_succ]
            refine takeP 64 (i := 12) (v := ?_) rfl rfl (by kernel_rfl) (by kernel_rfl) (by kernel_rfl) (by kernel_rfl) rfl (by kernel_rfl) (fun _ _ _ h => h) (Or.inl ⟨by kernel_rfl, ?_⟩) SX ?_
            rotate_left
            · intro w' hSw; skip; go_simp; try with_reducible rfl
            try simp only [Act.put, List.setIfInBounds_toArray, List.set_cons_zero, List.set_cons_succ]
            refine wpAnyP_ready (rs := [13, 14]) (by kernel_rfl) (by simp) ?_
            refine consP _ rfl ?_ (consP _ rfl ?_ AllReadyP.nil)
            · refine hopCd 65 rfl (by kernel_rfl) rfl (by kernel_rfl) (Calls.mono (wholeZ_any (2 * a - p) hlo _) ?_)
              rintro e Vc ⟨⟨n9, o9, l9, c9, x9, rfl, HZ⟩, bb⟩
              have SX : Below W8.heap.size W8 Vc := to_call SX bb
              clear bb
              refine ⟨_, rfl, SX, ?_⟩
              try simp only [Act.put, List.setIfInBounds_toArray, List.set_cons_zero, List.set_cons_succ]
              refine wpAnyP_ready (rs := [14]) (by kernel_rfl) (by simp) ?_
              refine consP _ rfl ?_ AllReadyP.nil
              · refine hopAJ 9 rfl rfl rfl 74 rfl #[.bool false, .slice none 0 0, .int .i64 0] allocNJ fun D9 Vca hD lD bD => ?_
                have qD : W8.heap.size ≤ D9 := Nat.le_trans SX.size lD
                have SX : Below W8.heap.size W8 Vca := to_call SX bD
                have HZ := HZ.later bD
                clear bD
                refine ⟨SX, ?_⟩
                try simp only [Act.put, List.setIfInBounds_toArray, List.set_cons_zero, List.set_cons_succ]
                refine wpAnyP_ready (rs := [15]) (by kernel_rfl) (by simp) ?_
                refine consPs _ rfl (by kernel_rfl) (hopL rfl (wpList_store_row (by rfl) 74 _ _ (by rfl) W8 W8.heap.size D9 #[.bool n9, .slice o9 l9 c9, .int .i64 x9] _ (by kernel_rfl) (by kernel_rfl) hD SX qD 3 Try.infoN3 rfl rfl (one_num _ _ _ _ _) fun W5 e5 b5 s5 o5 => ?_)) AllReadyP.nil
                refine ⟨trivial, ?_⟩
                refine put_noneP rfl ?_
                refine wpAnyP_done (by kernel_rfl) ?_ _
                refine NoPanic.normal ?_
                try simp only [Act.put, List.setIfInBounds_toArray, List.set_cons_zero, List.set_cons_succ]
                exact key D9 n9 o9 l9 c9 x9 W5 ⟨b5, e5, HZ.other ⟨_, _, _, _, _, hD⟩ o5, qD⟩
            · refine hopAJ 9 rfl rfl rfl 74 rfl #[.bool false, .slice none 0 0, .int .i64 0] allocNJ fun D9 Va hD lD bD => ?_
              have qD : W8.heap.size ≤ D9 := Nat.le_trans SX.size lD
              have SX : Below W8.heap.size W8 Va := to_call SX bD
              clear bD
              refine ⟨SX, ?_⟩
              try simp only [Act.put, List.setIfInBounds_toArray, List.set_cons_zero, List.set_cons_succ]
              refine wpAnyP_ready (rs := [13]) (by kernel_rfl) (by simp) ?_
              refine consP _ rfl ?_ AllReadyP.nil
              · refine hopCd 65 rfl (by kernel_rfl) rfl (by kernel_rfl) (Calls.mono (wholeZ_any (2 * a - p) hlo _) ?_)
                rintro e Vac ⟨⟨n9, o9, l9, c9, x9, rfl, HZ⟩, bb⟩
                have SX : Below W8.heap.size W8 Vac := to_call SX bb
                have hD := kept bb hD
                clear bb
                refine ⟨_, rfl, SX, ?_⟩
                try simp only [Act.put, List.setIfInBounds_toArray, List.set_cons_zero, List.set_cons_succ]
                refine wpAnyP_ready (rs := [15]) (by kernel_rfl) (by simp) ?_
                refine consPs _ rfl (by kernel_rfl) (hopL rfl (wpList_store_row (by rfl) 74 _ _ (by rfl) W8 W8.heap.size D9 #[.bool n9, .slice o9 l9 c9, .int .i64 x9] _ (by kernel_rfl) (by kernel_rfl) hD SX qD 3 Try.infoN3 rfl rfl (one_num _ _ _ _ _) fun W5 e5 b5 s5 o5 => ?_)) AllReadyP.nil
                refine ⟨trivial, ?_⟩
                refine put_noneP rfl ?_
                refine wpAnyP_done (by kernel_rfl) ?_ _
                refine NoPanic.normal ?_
                try simp only [Act.put, List.setIfInBounds_toArray, List.set_cons_zero, List.set_cons_succ]
                exact key D9 n9 o9 l9 c9 x9 W5 ⟨b5, e5, HZ.other ⟨_, _, _, _, _, hD⟩ o5, qD⟩
          case pf =>
            intro D9 n9 o9 l9 c9 x9 W9 F9
            have P4 : Hid (Below w.heap.size w W9 ∧ W9.heap[w.heap.size]? = some (.cells #[.slice (some ⟨lb, lo, none⟩) n c, .slice (some ⟨bb, bo, none⟩) n d] 24)) := ⟨to_call P3.out.1 F9.out.1, kept F9.out.1 P3.out.2⟩
            clear K0 K1 K2 K3 K4
            have K0 : Hid (W9.cell? ⟨w.heap.size, 0, none⟩ = _) := cellAtJ P4.out.2 0 _ rfl
            have K1 : Hid (W9.cell? ⟨w.heap.size, 1, none⟩ = _) := cellAtJ P4.out.2 1 _ rfl
            have K2 : Hid (W9.cell? ⟨lb, lo + j, none⟩ = some (.int .i64 (L : Int))) := cell_later gl P4.out.1
            have K3 : Hid (W9.cell? ⟨bb, bo + j, none⟩ = some (.int .i64 a)) := cell_later ga P4.out.1
            have K4 : Hid (W9.cell? ⟨eb, ef + j, none⟩ = some (.int .i64 y)) := cell_later ge P4.out.1
            go_upto_region 8 with fail
            apply by_keyN (F := fun DA nA oA lA cA xA W => Hid (Below W9.heap.size W9 W ∧ W.heap[DA]? = some (.cells #[.bool nA, .slice oA lA cA, .int .i64 xA] 74) ∧ NumZ W (.agg #[.bool nA, .slice oA lA cA, .int .i64 xA]) 62 100 ((2 * a + 2 - p) * 2 ^ 62) ∧ W9.heap.size ≤ DA))
            case main =>
              intro key
              refine wp_region_noPanic ?_
              refine wp_region_P (S := (fun V => Below W9.heap.size W9 V)) (s := 16) (by kernel_rfl) ?_
              have SX : Below W9.heap.size W9 W9.drew := (Below.refl _ _).drew
              refine takeP 66 (i := 0) (v := ?_) rfl rfl (by kernel_rfl) (by kernel_rfl) (by kernel_rfl) (by kernel_rfl) rfl (by kernel_rfl) (fun _ _ _ h => h) (Or.inl ⟨by kernel_rfl, ?_⟩) SX ?_
              rotate_left
              · intro w' hSw; skip; go_simp; try with_reducible rfl
              try simp only [Act.put, List.setIfInBounds_toArray, List.set_cons_zero, List.set_cons_succ]
              refine takeP 67 (i := 1) (v := ?_) rfl rfl (by kernel_rfl) (by kernel_rfl) (by kernel_rfl) (by kernel_rfl) rfl (by kernel_rfl) (fun _ _ _ h => h) (Or.inl ⟨by kernel_rfl, ?_⟩) SX ?_
              rotate_left
              · intro w' hSw; have t0 := cell_later K0.out hSw; have t1 := cell_later K1.out hSw; have t2 := cell_later K2.out hSw; have t3 := cell_later K3.out hSw; have t4 := cell_later K4.out hSw; go_simp; try with_reducible rfl
              try simp only [Act.put, List.setIfInBounds_toArray, List.set_cons_zero, List.set_cons_succ]
              refine takeP 68 (i := 2) (v := ?_) rfl rfl (by kernel_rfl) (by kernel_rfl) (by kernel_rfl) (by kernel_rfl) rfl (by kernel_rfl) (fun _ _ _ h => h) (Or.inl ⟨by kernel_rfl, ?_⟩) SX ?_
              rotate_left
              · intro w' hSw; skip; go_simp; try with_reducible rfl
              try simp only [Act.put, List.setIfInBounds_toArray, List.set_cons_zero, List.set_cons_succ]
              refine takeP 69 (i := 3) (v := ?_) rfl rfl (by kernel_rfl) (by kernel_rfl) (by kernel_rfl) (by kernel_rfl) rfl (by kernel_rfl) (fun _ _ _ h => h) (Or.inl ⟨by kernel_rfl, ?_⟩) SX ?_
              rotate_left
              · intro w' hSw; skip; go_simp; try with_reducible rfl
              try simp only [Act.put, List.setIfInBounds_toArray, List.set_cons_zero, List.set_cons_succ]
              refine takeP 70 (i := 4) (v := ?_) rfl rfl (by kernel_rfl) (by kernel_rfl) (by kernel_rfl) (by kernel_rfl) rfl (by kernel_rfl) (fun _ _ _ h => h) (Or.inl ⟨by kernel_rfl, ?_⟩) SX ?_
              rotate_left
              · intro w' hSw; have t0 := cell_later K0.out hSw; have t1 := cell_later K1.out hSw; have t2 := cell_later K2.out hSw; have t3 := cell_later K3.out hSw; have t4 := cell_later K4.out hSw; go_simp; try with_reducible rfl
              try simp only [Act.put, List.setIfInBounds_toArray, List.set_cons_zero, List.set_cons_succ]
              refine takeP 71 (i := 5) (v := ?_) rfl rfl (by kernel_rfl) (by kernel_rfl) (by kernel_rfl) (by kernel_rfl) rfl (by kernel_rfl) (fun _ _ _ h => h) (Or.inl ⟨by kernel_rfl, ?_⟩) SX ?_
              rotate_left
              · intro w' hSw; skip; go_simp; try with_reducible rfl
              try simp only [Act.put, List.setIfInBounds_toArray, List.set_cons_zero, List.set_cons_succ]
              refine takeP 72 (i := 6) (v := ?_) rfl rfl (by kernel_rfl) (by kernel_rfl) (by kernel_rfl) (by kernel_rfl) rfl (by kernel_rfl) (fun _ _ _ h => h) (Or.inl ⟨by kernel_rfl, ?_⟩) SX ?_
              rotate_left
              · intro w' hSw; skip; go_simp; try with_reducible rfl
              try simp only [Act.put, List.setIfInBounds_toArray, List.set_cons_zero, List.set_cons_succ]
              refine takeP 73 (i := 7) (v := ?_) rfl rfl (by kernel_rfl) (by kernel_rfl) (by kernel_rfl) (by kernel_rfl) rfl (by kernel_rfl) (fun _ _ _ h => h) (Or.inl ⟨by kernel_rfl, ?_⟩) SX ?_
              rotate_left
              · intro w' hSw; skip; go_simp; try with_reducible rfl
              try simp only [Act.put, List.setIfInBounds_toArray, List.set_cons_zero, List.set_cons_succ]
              refine takeP 74 (i := 8) (v := ?_) rfl rfl (by kernel_rfl) (by kernel_rfl) (by kernel_rfl) (by kernel_rfl) rfl (by kernel_rfl) (fun _ _ _ h => h) (Or.inl ⟨by kernel_rfl, ?_⟩) SX ?_
              rotate_left
              · intro w' hSw; have t0 := cell_later K0.out hSw; have t1 := cell_later K1.out hSw; have t2 := cell_later K2.out hSw; have t3 := cell_later K3.out hSw; have t4 := cell_later K4.out hSw; go_simp; try with_reducible rfl
              try simp only [Act.put, List.setIfInBounds_toArray, List.set_cons_zero, List.set_cons_succ]
              refine takeP 75 (i := 9) (v := ?_) rfl rfl (by kernel_rfl) (by kernel_rfl) (by kernel_rfl) (by kernel_rfl) rfl (by kernel_rfl) (fun _ _ _ h => h) (Or.inl ⟨by kernel_rfl, ?_⟩) SX ?_
              rotate_left
              · intro w' hSw; skip; go_simp; try with_reducible rfl
              try simp only [Act.put, List.setIfInBounds_toArray, List.set_cons_zero, List.set_cons_succ]
              refine takeP 76 (i := 10) (v := ?_) rfl rfl (by kernel_rfl) (by kernel_rfl) (by kernel_rfl) (by kernel_rfl) rfl (by kernel_rfl) (fun _ _ _ h => h) (Or.inl ⟨by kernel_rfl, ?_⟩) SX ?_
              rotate_left
              · intro w' hSw; skip; go_simp; try with_reducible rfl
              try simp only [Act.put, List.setIfInBounds_toArray, List.set_cons_zero, List.set_cons_succ]
              refine takeP 77 (i := 11) (v := ?_) rfl rfl (by kernel_rfl) (by kernel_rfl) (by kernel_rfl) (by kernel_rfl) rfl (by kernel_rfl) (fun _ _ _ h => h) (Or.inl ⟨by kernel_rfl, ?_⟩) SX ?_
              rotate_left
              · intro w' hSw; have t0 := cell_later K0.out hSw; have t1 := cell_later K1.out hSw; have t2 := cell_later K2.out hSw; have t3 := cell_later K3.out hSw; have t4 := cell_later K4.out hSw; go_simp; try with_reducible rfl
              try simp only [Act.put, List.setIfInBounds_toArray, List.set_cons_zero, List.set_cons_succ]
              refine takeP 78 (i := 12) (v := ?_) rfl rfl (by kernel_rfl) (by kernel_rfl) (by kernel_rfl) (by kernel_rfl) rfl (by kernel_rfl) (fun _ _ _ h => h) (Or.inl ⟨by kernel_rfl, ?_⟩) SX ?_
              rotate_left
              · intro w' hSw; skip; go_simp; try with_reducible rfl
              try simp only [Act.put, List.setIfInBounds_toArray, List.set_cons_zero, List.set_cons_succ]
              refine takeP 79 (i := 13) (v := ?_) rfl rfl (by kernel_rfl) (by kernel_rfl) (by kernel_rfl) (by kernel_rfl) rfl (by kernel_rfl) (fun _ _ _ h => h) (Or.inl ⟨by kernel_rfl, ?_⟩) SX ?_
              rotate_left
              · intro w' hSw; skip; go_simp; try with_reducible rfl
              try simp only [Act.put, List.setIfInBounds_toArray, List.set_cons_zero, List.set_cons_succ]
              refine wpAnyP_ready (rs := [14, 15]) (by kernel_rfl) (by simp) ?_
              refine consP _ rfl ?_ (consP _ rfl ?_ AllReadyP.nil)
              · refine hopCd 80 rfl (by kernel_rfl) rfl (by kernel_rfl) (Calls.mono (wholeZ_any (2 * a + 2 - p) hhi _) ?_)
                rintro e Vc ⟨⟨nA, oA, lA, cA, xA, rfl, HZ⟩, bb⟩
                have SX : Below W9.heap.size W9 Vc := to_call SX bb
                clear bb
                refine ⟨_, rfl, SX, ?_⟩
                try simp only [Act.put, List.setIfInBounds_toArray, List.set_cons_zero, List.set_cons_succ]
                refine wpAnyP_ready (rs := [15]) (by kernel_rfl) (by simp) ?_
                refine consP _ rfl ?_ AllReadyP.nil
                · refine hopAJ 10 rfl rfl rfl 74 rfl #[.bool false, .slice none 0 0, .int .i64 0] allocNJ fun DA Vca hD lD bD => ?_
                  have qD : W9.heap.size ≤ DA := Nat.le_trans SX.size lD
                  have SX : Below W9.heap.size W9 Vca := to_call SX bD
                  have HZ := HZ.later bD
                  clear bD
                  refine ⟨SX, ?_⟩
                  try simp only [Act.put, List.setIfInBounds_toArray, List.set_cons_zero, List.set_cons_succ]
                  refine wpAnyP_ready (rs := [16]) (by kernel_rfl) (by simp) ?_
                  refine consPs _ rfl (by kernel_rfl) (hopL rfl (wpList_store_row (by rfl) 74 _ _ (by rfl) W9 W9.heap.size DA #[.bool nA, .slice oA lA cA, .int .i64 xA] _ (by kernel_rfl) (by kernel_rfl) hD SX qD 3 Try.infoN3 rfl rfl (one_num _ _ _ _ _) fun W5 e5 b5 s5 o5 => ?_)) AllReadyP.nil
                  refine ⟨trivial, ?_⟩
                  refine put_noneP rfl ?_
                  refine wpAnyP_done (by kernel_rfl) ?_ _
                  refine NoPanic.normal ?_
                  try simp only [Act.put, List.setIfInBounds_toArray, List.set_cons_zero, List.set_cons_succ]
                  exact key DA nA oA lA cA xA W5 ⟨b5, e5, HZ.other ⟨_, _, _, _, _, hD⟩ o5, qD⟩
              · refine hopAJ 10 rfl rfl rfl 74 rfl #[.bool false, .slice none 0 0, .int .i64 0] allocNJ fun DA Va hD lD bD => ?_
                have qD : W9.heap.size ≤ DA := Nat.le_trans SX.size lD
                have SX : Below W9.heap.size W9 Va := to_call SX bD
                clear bD
                refine ⟨SX, ?_⟩
                try simp only [Act.put, List.setIfInBounds_toArray, List.set_cons_zero, List.set_cons_succ]
                refine wpAnyP_ready (rs := [14]) (by kernel_rfl) (by simp) ?_
                refine consP _ rfl ?_ AllReadyP.nil
                · refine hopCd 80 rfl (by kernel_rfl) rfl (by kernel_rfl) (Calls.mono (wholeZ_any (2 * a + 2 - p) hhi _) ?_)
                  rintro e Vac ⟨⟨nA, oA, lA, cA, xA, rfl, HZ⟩, bb⟩
                  have SX : Below W9.heap.size W9 Vac := to_call SX bb
                  have hD := kept bb hD
                  clear bb
                  refine ⟨_, rfl, SX, ?_⟩
                  try simp only [Act.put, List.setIfInBounds_toArray, List.set_cons_zero, List.set_cons_succ]
                  refine wpAnyP_ready (rs := [16]) (by kernel_rfl) (by simp) ?_
                  refine consPs _ rfl (by kernel_rfl) (hopL rfl (wpList_store_row (by rfl) 74 _ _ (by rfl) W9 W9.heap.size DA #[.bool nA, .slice oA lA cA, .int .i64 xA] _ (by kernel_rfl) (by kernel_rfl) hD SX qD 3 Try.infoN3 rfl rfl (one_num _ _ _ _ _) fun W5 e5 b5 s5 o5 => ?_)) AllReadyP.nil
                  refine ⟨trivial, ?_⟩
                  refine put_noneP rfl ?_
                  refine wpAnyP_done (by kernel_rfl) ?_ _
                  refine NoPanic.normal ?_
                  try simp only [Act.put, List.setIfInBounds_toArray, List.set_cons_zero, List.set_cons_succ]
                  exact key DA nA oA lA cA xA W5 ⟨b5, e5, HZ.other ⟨_, _, _, _, _, hD⟩ o5, qD⟩
            case pf =>
              intro DA nA oA lA cA xA WA FA
              have P5 : Hid (Below w.heap.size w WA ∧ WA.heap[w.heap.size]? = some (.cells #[.slice (some ⟨lb, lo, none⟩) n c, .slice (some ⟨bb, bo, none⟩) n d] 24) ∧ WA.heap[D8]? = some (.cells #[.bool n8, .slice o8 l8 c8, .int .i64 x8] 74) ∧ WA.heap[D9]? = some (.cells #[.bool n9, .slice o9 l9 c9, .int .i64 x9] 74) ∧ WA.heap[DA]? = some (.cells #[.bool nA, .slice oA lA cA, .int .i64 xA] 74) ∧ NumZ WA (.agg #[.bool n8, .slice o8 l8 c8, .int .i64 x8]) 62 100 (y * 2 ^ (L + 62 - D)) ∧ NumZ WA (.agg #[.bool n9, .slice o9 l9 c9, .int .i64 x9]) 62 100 ((2 * a - p) * 2 ^ 62) ∧ NumZ WA (.agg #[.bool nA, .slice oA lA cA, .int .i64 xA]) 62 100 ((2 * a + 2 - p) * 2 ^ 62)) := ⟨to_call P4.out.1 FA.out.1, kept FA.out.1 P4.out.2, kept FA.out.1 (kept F9.out.1 F8.out.2.1), kept FA.out.1 F9.out.2.1, FA.out.2.1, (F8.out.2.2.1.later F9.out.1).later FA.out.1, F9.out.2.2.1.later FA.out.1, FA.out.2.2.1⟩
              clear K0 K1 K2 K3 K4 P2 P3 P4 F8 F9 FA gl ga ge
              obtain ⟨s1, hs1⟩ : ∃ s1, sgi (y * 2 ^ (L + 62 - D) - (2 * a - p) * 2 ^ 62) = s1 := ⟨_, rfl⟩
              obtain ⟨s2, hs2⟩ : ∃ s2, sgi (y * 2 ^ (L + 62 - D) - (2 * a + 2 - p) * 2 ^ 62) = s2 := ⟨_, rfl⟩
              rw [hs1, hs2] at HCM
              have HC1 := cmpI P5.out.2.2.2.2.2.1 P5.out.2.2.2.2.2.2.1
              rw [hs1] at HC1
              have HC1 : Hid _ := HC1
              have HC2 : Hid (∀ W, Below WA.heap.size WA W → Calls Try.prog 35 #[.agg #[.bool n8, .slice o8 l8 c8, .int .i64 x8], .agg #[.bool nA, .slice oA lA cA, .int .i64 xA]] W fun e w' => e = .returned (.int .i64 s2) ∧ Below W.heap.size W w') := fun W hb => hs2 ▸ cmpI (P5.out.2.2.2.2.2.1.later hb) (P5.out.2.2.2.2.2.2.2.later hb)
              clear hs1 hs2
              have HST : Hid ((f j = false → (List.range n).all f = false) ∧ (f j = true → (List.range (j + 1)).all f = true)) := all_step f j n hlt HAL.out
              go_wp2_with (first | (refine wpList_load_row (by rfl) 74 _ (by rfl) D8 #[.bool n8, .slice o8 l8 c8, .int .i64 x8] (by rfl) P5.out.2.2.1 _ Try.underlying74 rfl 3 Try.infoN3 (by rfl) ?_) | (refine wpList_load_row (by rfl) 74 _ (by rfl) D9 #[.bool n9, .slice o9 l9 c9, .int .i64 x9] (by rfl) P5.out.2.2.2.1 _ Try.underlying74 rfl 3 Try.infoN3 (by rfl) ?_))
              refine Calls.mono HC1.out ?_
              rintro e' wc ⟨rfl, bc⟩
              by_cases c1 : s1 < 0
              · have f1 : decide (s1 < 0) = true := decide_eq_true c1
                have HE : Hid (WiV ls bs es n n D = false) := by unfold Hid; rw [HK.out]; exact HST.out.1 (by rw [HFJ.out, Bool.eq_false_iff]; intro h; exact Int.not_lt.2 (HINP.out.1 h).1 (HCM.out.1.1 c1))
                clear HK HST HFJ HINP HCM
                go_wp2_with fail
                go_ret
                exact ⟨by rw [HE.out]; rfl, to_call P5.out.1 bc⟩
              have f1 : decide (s1 < 0) = false := decide_eq_false c1
              have N1 : Hid (0 ≤ s1) := Int.not_lt.1 c1
              go_wp2_with (first | (refine wpList_load_rowG (by rfl) 74 _ (by rfl) D8 #[.bool n8, .slice o8 l8 c8, .int .i64 x8] (by rfl) (kept bc P5.out.2.2.1) _ Try.underlying74 rfl 3 Try.infoN3 (by rfl) ?_) | (refine wpList_load_rowG (by rfl) 74 _ (by rfl) DA #[.bool nA, .slice oA lA cA, .int .i64 xA] (by rfl) (kept bc P5.out.2.2.2.2.1) _ Try.underlying74 rfl 3 Try.infoN3 (by rfl) ?_))
              refine Calls.mono (HC2.out _ bc) ?_
              rintro e' wd ⟨rfl, bd⟩
              by_cases c2 : s2 > 0
              · have f2 : decide (s2 > 0) = true := decide_eq_true c2
                have HE : Hid (WiV ls bs es n n D = false) := by unfold Hid; rw [HK.out]; exact HST.out.1 (by rw [HFJ.out, Bool.eq_false_iff]; intro h; exact Int.not_lt.2 (HINP.out.1 h).2 (HCM.out.2.1 c2))
                clear HK HST HFJ HINP HCM
                go_wp2_with fail
                go_ret
                exact ⟨by rw [HE.out]; rfl, to_call (to_call P5.out.1 bc) bd⟩
              have f2 : decide (s2 > 0) = false := decide_eq_false c2
              have N2 : Hid (¬ s2 > 0) := c2
              have HAL2 : Hid ((List.range (j + 1)).all f = true) := HST.out.2 (by rw [HFJ.out]; exact HINP.out.2 ⟨Int.not_lt.1 fun h => absurd (HCM.out.1.2 h) (Int.not_lt.2 N1.out), Int.not_lt.1 fun h => N2.out (HCM.out.2.2 h)⟩)
              have P6 : Hid (Below w.heap.size w wd ∧ wd.heap[w.heap.size]? = some (.cells #[.slice (some ⟨lb, lo, none⟩) n c, .slice (some ⟨bb, bo, none⟩) n d] 24)) := ⟨to_call (to_call P5.out.1 bc) bd, kept bd (kept bc P5.out.2.1)⟩
              clear P5 HC1 HC2 HST HFJ HINP HCM bc bd HAL
              go_wp2_with fail
              go_roundg q
              case measure => omega
              case rel => exact ⟨j + 1, by go_num, by have := HIG.out; omega, P6, HAL2⟩
      · have e1 : decide ((j : Int) < (n : Int)) = false := decide_eq_false (by omega)
        have e2 : decide (j < n) = false := decide_eq_false hlt
        have ej : j = n := by omega
        have HE : Hid (WiV ls bs es n n D = true) := by unfold Hid; rw [HK.out]; have := HAL.out; rw [ej] at this; exact this
        clear hj ej HK
        go_wp2_with fail
        go_ret
        exact ⟨by rw [HE.out]; rfl, P2.out.1⟩
end Go.Proofs.Ytaadhjdbieoieaa
