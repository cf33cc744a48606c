import Derived.Test.YtbfnahfkdjlpdaaGreatTEg
set_option linter.unusedVariables false
set_option linter.unusedSimpArgs false
namespace Go.Proofs.YtbfnahfkdjlpdaaGreat
open Go.RowKit Go.Shelf
theorem and40 (n : Int) : ∃ N : Nat, bits .and .i64 n 1099511627775 = (N : Int) ∧ N ≤ 1099511627775 := by
  have h1 : (BitVec.ofInt 64 1099511627775).toNat = 2 ^ 40 - 1 := by decide
  have h2 : (BitVec.ofInt 64 n &&& BitVec.ofInt 64 1099511627775).toNat = (BitVec.ofInt 64 n).toNat % 2 ^ 40 := by
    rw [BitVec.toNat_and, h1, Nat.and_two_pow_sub_one_eq_mod]
  have h3 : (BitVec.ofInt 64 n).toNat % 2 ^ 40 < 1099511627776 := Nat.mod_lt _ (by decide)
  refine ⟨(BitVec.ofInt 64 n).toNat % 2 ^ 40, ?_, by omega⟩
  show IntKind.i64.wrap ((BitVec.ofInt 64 n &&& BitVec.ofInt 64 1099511627775).toNat : Nat) = _
  rw [h2, IntKind.wrap_i64]
  omega
theorem nodup_inj {α β : Type} {f : α → β} : ∀ {l : List α}, (l.map f).Nodup → ∀ a ∈ l, ∀ b ∈ l, f a = f b → a = b
  | [], _, a, ha, _, _, _ => by cases ha
  | x :: l, h, a, ha, b, hb, e => by
    rw [List.map_cons, List.nodup_cons] at h
    rcases List.mem_cons.1 ha with ea | ha' <;> rcases List.mem_cons.1 hb with eb | hb'
    · rw [ea, eb]
    · exact absurd (List.mem_map_of_mem (f := f) hb') (by rw [← e, ea]; exact h.1)
    · exact absurd (List.mem_map_of_mem (f := f) ha') (by rw [e, eb]; exact h.1)
    · exact nodup_inj h.2 a ha' b hb' e
theorem Mk.set {w W' : World} {base g p x : Nat} {v : Value} {us : List Nat} {cur d : Array Value} (h : Mk w base v us) (hv : v.ownBlock = some g) (hc : w.heap[g]? = some (.cells cur 55)) (e : W'.heap[g]? = some (.cells d 55)) (hp : p < us.length) (hx : x < 18446744073709551616) (h1 : d[p]? = some (.float .f64 x)) (h2 : ∀ j, j ≠ p → d[j]? = cur[j]?) : Mk W' base v (us.set p x) := by
  obtain ⟨g', cap, cur', rfl, a2, a3, a4, a5, a6, a7, a8, a9⟩ := h
  have eg : g' = g := by have := hv; simp only [Value.ownBlock, Option.some.injEq] at this; exact this
  subst eg
  rw [hc] at a3
  cases a3
  refine ⟨g', cap, d, by rw [List.length_set], a2, e, by rw [List.length_set]; exact a4, a5, fun u hu => ?_, by rw [List.length_set]; exact a7, fun j hj => ?_, ?_⟩
  · rcases List.mem_or_eq_of_mem_set hu with h | h
    · exact a6 u h
    · rw [h]; exact hx
  · rw [List.length_set] at hj
    by_cases ej : j = p
    · rw [ej, h1, List.getElem?_set_self hp]; rfl
    · rw [h2 j ej, a8 j hj, List.getElem?_set_ne (fun c => ej c.symm)]
  · rw [List.length_set, h2 _ (by omega)]; exact a9
theorem XL.turn {w w' : World} {base : Nat} {cs rs : List Nat} {ids : List Int} {gs : List (List Nat)} {vc vr vi vg : Value} {gl : List Value} {u : Value} {g p x : Nat} {cur d : Array Value} (h : XL w base cs rs ids gs vc vr vi vg gl) (hu : u ∈ vc :: vr :: gl) (hg : u.ownBlock = some g) (hp : ∀ a n c, u = .slice a n c → p < n) (hc : w.heap[g]? = some (.cells cur 55)) (e : w'.heap[g]? = some (.cells d 55)) (ho : ∀ k, k ≠ g → w'.heap[k]? = w.heap[k]?) (hx : x < 18446744073709551616) (h1 : d[p]? = some (.float .f64 x)) (h2 : ∀ j, j ≠ p → d[j]? = cur[j]?) : ∃ cs' rs' gs', XL w' base cs' rs' ids gs' vc vr vi vg gl := by
  have hne : ∀ (k : Nat) (cu : Array Value) (t : TypeId), t ≠ 55 → w.heap[k]? = some (.cells cu t) → w'.heap[k]? = w.heap[k]? := fun k cu t ht hk => ho k (by rintro rfl; rw [hc] at hk; cases hk; exact ht rfl)
  have key : ∀ (v : Value) (us : List Nat), v ∈ vc :: vr :: gl → Mk w base v us → ∃ us', Mk w' base v us' := fun v us hv hm => by
    by_cases eb : v.ownBlock = some g
    · have ev : v = u := nodup_inj h.nd v hv u hu (eb.trans hg.symm)
      subst ev
      obtain ⟨ao, cap, hvs, _⟩ := mk_forms hm
      exact ⟨_, hm.set eb hc e (hp _ _ _ hvs) hx h1 h2⟩
    · obtain ⟨g', cap, cu, rfl, a2, a3, r⟩ := hm
      exact ⟨us, g', cap, cu, rfl, a2, (ho g' (fun c => eb (by rw [← c]; rfl))).trans a3, r⟩
  obtain ⟨cs', hc'⟩ := key vc cs List.mem_cons_self h.c
  obtain ⟨rs', hr'⟩ := key vr rs (List.mem_cons_of_mem _ List.mem_cons_self) h.r
  have hcol : ∀ j : Nat, ∃ us', ∀ v, gl[j]? = some v → Mk w' base v us' := fun j => by
    cases hj : gl[j]? with
    | none => exact ⟨[], fun v hv => by cases hv⟩
    | some v =>
      obtain ⟨us', hm⟩ := key v _ (List.mem_cons_of_mem _ (List.mem_cons_of_mem _ (List.mem_of_getElem? hj))) (h.col j v hj)
      exact ⟨us', fun v' hv => by cases hv; exact hm⟩
  refine ⟨cs', rs', (List.range gl.length).map fun j => Classical.choose (hcol j), hc', hr', h.i.keep fun k cu => hne k cu _ (by decide), h.g.keep fun k cu => hne k cu _ (by decide), by simp, fun j v hj => ?_, h.nd, ⟨h.few.1, by rw [List.length_map, List.length_range, h.len]; exact h.few.2⟩⟩
  have hl := (List.getElem?_eq_some_iff.1 hj).1
  rw [List.getElem?_map, List.getElem?_eq_getElem (by rw [List.length_range]; exact hl), List.getElem_range]
  exact Classical.choose_spec (hcol j) v hj
theorem XL.any {w : World} {base : Nat} {cs rs : List Nat} {ids : List Int} {gs : List (List Nat)} {vc vr vi vg : Value} {gl : List Value} (h : XL w base cs rs ids gs vc vr vi vg gl) : ∀ u ∈ vc :: vr :: gl, ∃ us, Mk w base u us := by
  intro u hu
  rcases List.mem_cons.1 hu with rfl | hu
  · exact ⟨_, h.c⟩
  rcases List.mem_cons.1 hu with rfl | hu
  · exact ⟨_, h.r⟩
  obtain ⟨j, hj⟩ := List.mem_iff_getElem?.1 hu
  exact ⟨_, h.col j u hj⟩
theorem cells3L {W : World} {B : Nat} {v0 v1 v2 : Value} {t : TypeId} (h : W.heap[B]? = some (.cells #[v0, v1, v2] t)) : W.cell? ⟨B, 0, none⟩ = some v0 ∧ W.cell? ⟨B, 1, none⟩ = some v1 ∧ W.cell? ⟨B, 2, none⟩ = some v2 := ⟨cellAtJ h 0 _ rfl, cellAtJ h 1 _ rfl, cellAtJ h 2 _ rfl⟩
theorem one_flD (x : Nat) : ∀ u ∈ (Value.float .f64 x).cells.toList, u.oneCell' = true := by
  intro u hu
  have hu' : u ∈ [Value.float .f64 x] := hu
  simp only [List.mem_cons, List.not_mem_nil, or_false] at hu'
  subst hu'; rfl
set_option maxRecDepth 100000 in
set_option maxHeartbeats 4000000 in
theorem turnedL_any (N : Int) (bad : Bool) (cs rs : List Nat) (ids : List Int) (gs : List (List Nat)) (vc vr vi vg : Value) (gl : List Value) (base : Nat) (w : World) (h : XL w base cs rs ids gs vc vr vi vg gl) (hbw : base ≤ w.heap.size) (ta ti : Int) (tb : Nat) (htb : tb < 18446744073709551616) (hta : ta ≤ 9223372036854775807) :
    Calls Tryz.prog 18 #[.agg #[.int .i64 N, vc, vi, vg, vr, .bool bad], .agg #[.int .i64 ta, .int .i64 ti, .int .u64 ((tb : Nat) : Int)]] w fun e w' => (∃ v, e = .returned v) ∧ (∃ cs' rs' gs', XL w' base cs' rs' ids gs' vc vr vi vg gl) ∧ Below base w w' ∧ ∀ (k : Nat) (cur : Array Value) (t : TypeId), t ≠ 55 → w.heap[k]? = some (.cells cur t) → w'.heap[k]? = w.heap[k]? := by
  have X0 : Below w.heap.size w ((w.alloc (.cells #[.int .i64 N, vc, vi, vg, vr, .bool bad] 26)).alloc (.cells #[.int .i64 ta, .int .i64 ti, .int .u64 ((tb : Nat) : Int)] 52)) := ((Below.refl _ w).alloc (Nat.le_refl _) _).alloc (by simp only [alloc_size]; omega) _
  have Y0 : ((w.alloc (.cells #[.int .i64 N, vc, vi, vg, vr, .bool bad] 26)).alloc (.cells #[.int .i64 ta, .int .i64 ti, .int .u64 ((tb : Nat) : Int)] 52)).heap[w.heap.size]? = some (.cells #[.int .i64 N, vc, vi, vg, vr, .bool bad] 26) := alloc_kept (heap_alloc_new w _) _
  have Y1 : ((w.alloc (.cells #[.int .i64 N, vc, vi, vg, vr, .bool bad] 26)).alloc (.cells #[.int .i64 ta, .int .i64 ti, .int .u64 ((tb : Nat) : Int)] 52)).heap[w.heap.size + 1]? = some (.cells #[.int .i64 ta, .int .i64 ti, .int .u64 ((tb : Nat) : Int)] 52) := heap_at _ _ _ (by simp only [alloc_size])
  go_enter Tryz.func18, Tryz.ntmps18
  go_upto_region 1 with fail
  obtain ⟨X, hX⟩ : ∃ X, ((w.alloc (.cells #[.int .i64 N, vc, vi, vg, vr, .bool bad] 26)).alloc (.cells #[.int .i64 ta, .int .i64 ti, .int .u64 ((tb : Nat) : Int)] 52)) = X := ⟨_, rfl⟩
  rw [hX] at X0 Y0 Y1 ⊢
  have T0 : Hid (Below w.heap.size w X ∧ XL X base cs rs ids gs vc vr vi vg gl ∧ X.heap[w.heap.size]? = some (.cells #[.int .i64 N, vc, vi, vg, vr, .bool bad] 26) ∧ X.heap[w.heap.size + 1]? = some (.cells #[.int .i64 ta, .int .i64 ti, .int .u64 ((tb : Nat) : Int)] 52)) := ⟨X0, h.later X0, Y0, Y1⟩
  clear hX X0 Y0 Y1 h
  obtain ⟨c0, c1, c2, c3, c4, c5⟩ := cells6 T0.out.2.2.1
  obtain ⟨t0, t1, t2⟩ := cells3L T0.out.2.2.2
  obtain ⟨gb, gc, gcur, gm, hvg, g2, g3, g4, g5, g6, g7⟩ := T0.out.2.1.g
  subst hvg
  have HG6 : Hid (∀ j, j < gl.length → X.cell? ⟨gb, j, none⟩ = gl[j]?) := fun j hj => (cell_of_row _ gb _ _ _ _ g3).trans (g6 j hj)
  have hgf : gl.length ≤ 400 := by rw [T0.out.2.1.len]; exact T0.out.2.1.few.2
  clear g2 g3 g4 g5 g6 g7 c0 c2 c5 t1 t2
  obtain ⟨bb, hbb⟩ : ∃ bb : Bool, bb = (decide (0 ≤ ta) && decide (0 < gl.length)) := ⟨_, rfl⟩
  have HBB : Hid (bb = (decide (0 ≤ ta) && decide (0 < gl.length))) := hbb
  clear hbb
  go_upto_region 2 with fail
  go_cut [7] (fun v wx => v = .bool bb ∧ wx = X)
  case first =>
    by_cases h1 : 0 ≤ ta
    · have e1 : decide (ta ≥ 0) = true := decide_eq_true h1
      by_cases h2 : 0 < gl.length
      · have e2 : decide ((gl.length : Int) > 0) = true := decide_eq_true (by omega)
        have e3 : decide (0 < gl.length) = true := decide_eq_true h2
        have HB : Hid (bb = true) := by unfold Hid; rw [HBB.out, decide_eq_true h1, decide_eq_true h2]; rfl
        go_wp2_with fail
        go_meet
        exact ⟨by rw [HB.out], rfl⟩
      · have e2 : decide ((gl.length : Int) > 0) = false := decide_eq_false (by omega)
        have e3 : decide (0 < gl.length) = false := decide_eq_false h2
        have HB : Hid (bb = false) := by unfold Hid; rw [HBB.out, decide_eq_false h2, Bool.and_false]
        go_wp2_with fail
        go_meet
        exact ⟨by rw [HB.out], rfl⟩
    · have e1 : decide (ta ≥ 0) = false := decide_eq_false h1
      have HB : Hid (bb = false) := by unfold Hid; rw [HBB.out, decide_eq_false h1, Bool.false_and]
      go_wp2_with fail
      go_meet
      exact ⟨by rw [HB.out], rfl⟩
  case rest =>
  obtain ⟨rfl, hw⟩ := hcut
  subst hw
  cases bb with
  | true =>
    have hq := HBB.out.symm
    simp only [Bool.and_eq_true, decide_eq_true_eq] at hq
    obtain ⟨h1, h2⟩ := hq
    obtain ⟨q, hq⟩ : ∃ q : Nat, Int.tmod ta (gl.length : Int) = (q : Int) ∧ q < gl.length := by
      have h3 : Int.tmod ta (gl.length : Int) = ta % (gl.length : Int) := Int.tmod_eq_emod_of_nonneg h1
      have h4 := Int.emod_nonneg ta (b := (gl.length : Int)) (by omega)
      have h5 := Int.emod_lt_of_pos ta (b := (gl.length : Int)) (by omega)
      exact ⟨(ta % (gl.length : Int)).toNat, by rw [h3]; omega, by omega⟩
    obtain ⟨hrem, hql⟩ := hq
    have hql' : (q : Int) < (gl.length : Int) := by omega
    have hnz : ((gl.length : Int) == 0) = false := beq_eq_false_iff_ne.2 (by omega)
    have hnz' : (gl.length == 0) = false := beq_eq_false_iff_ne.2 (by omega)
    have gq := HG6.out q hql
    rw [List.getElem?_eq_getElem hql] at gq
    have HMV : Hid (gl[q] ∈ vc :: vr :: gl) := List.mem_cons_of_mem _ (List.mem_cons_of_mem _ (List.getElem_mem hql))
    obtain ⟨vq, hvq⟩ : ∃ v, gl[q] = v := ⟨_, rfl⟩
    rw [hvq] at gq HMV
    have HBD : Hid (∀ n, (Below w.heap.size w (wc.drewN n) ∧ XL (wc.drewN n) base cs rs ids gs vc vr vi (.slice (some ⟨gb, 0, none⟩) gl.length gc) gl ∧ (wc.drewN n).heap[w.heap.size]? = some (.cells #[.int .i64 N, vc, vi, (.slice (some ⟨gb, 0, none⟩) gl.length gc), vr, .bool bad] 26) ∧ (wc.drewN n).heap[w.heap.size + 1]? = some (.cells #[.int .i64 ta, .int .i64 ti, .int .u64 ((tb : Nat) : Int)] 52))) := fun n => by
      have b1 : Below wc.heap.size wc (wc.drewN n) := below_drewN (Below.refl _ wc) n
      exact ⟨to_callD T0.out.1 b1, T0.out.2.1.later b1, kept b1 T0.out.2.2.1, kept b1 T0.out.2.2.2⟩
    clear h1 hvq
    go_upto_region 3 with fail
    go_quiet (fail)
    obtain ⟨W, hW⟩ : ∃ W, wc.drewN nq = W := ⟨_, rfl⟩
    have HT : Hid (Below w.heap.size w W ∧ XL W base cs rs ids gs vc vr vi (.slice (some ⟨gb, 0, none⟩) gl.length gc) gl ∧ W.heap[w.heap.size]? = some (.cells #[.int .i64 N, vc, vi, (.slice (some ⟨gb, 0, none⟩) gl.length gc), vr, .bool bad] 26) ∧ W.heap[w.heap.size + 1]? = some (.cells #[.int .i64 ta, .int .i64 ti, .int .u64 ((tb : Nat) : Int)] 52)) := by rw [← hW]; exact HBD.out nq
    rw [hW]
    clear HBD hW gq hrem hnz hnz' hql hql' h2 HG6 T0 t0 c1 c3 c4 HBB
    go_upto_region 6 with fail
    obtain ⟨us, hmk⟩ := HT.out.2.1.any _ HMV.out
    obtain ⟨lb, lcap, lcur, hv, a2, a3, a4, a5, a6, a7, a8, a9⟩ := hmk
    obtain ⟨n, hn⟩ : ∃ n, us.length = n := ⟨_, rfl⟩
    rw [hn] at hv a4 a7 a9
    clear a6 a8 hn
    subst hv
    have hmx := Nat.le_trans a5 maxLen_le
    by_cases hz : n = 0
    · have hd : decide ((n : Int) > 0) = false := decide_eq_false (by omega)
      have hd' : decide (0 < n) = false := decide_eq_false (by omega)
      have hd2 : ¬ 0 < n := by omega
      clear hz a2 a3 a9
      go_wp2_with fail
      go_end0
      exact ⟨⟨_, rfl⟩, ⟨cs, rs, gs, HT.out.2.1⟩, HT.out.1.mono hbw, fun k cur t _ hc => HT.out.1.block k (blk_lt hc)⟩
    · have hd : decide ((n : Int) > 0) = true := decide_eq_true (by omega)
      have hd2 : 0 < n := by omega
      obtain ⟨M, hand, hM⟩ := and40 ti
      obtain ⟨p, hp⟩ : ∃ p, M % n = p := ⟨_, rfl⟩
      have hpn : p < n := by rw [← hp]; exact Nat.mod_lt _ hd2
      have hpn' : (p : Int) < (n : Int) := by omega
      have hrem : Int.tmod (M : Int) (n : Int) = (p : Int) := by rw [← hp, Int.natCast_emod]; exact Int.tmod_eq_emod_of_nonneg (by omega)
      have hrem2 : (M : Int) % (n : Int) = (p : Int) := by rw [← hp, Int.natCast_emod]
      have hnz : ((n : Int) == 0) = false := beq_eq_false_iff_ne.2 (by omega)
      have hnz' : (n == 0) = false := beq_eq_false_iff_ne.2 (by omega)
      have hnsz : n < lcur.size := (Array.getElem?_eq_some_iff.1 a9).1
      obtain ⟨dd, hdd⟩ := setP_cells (c := lcur) (k := p) (v := .float .f64 tb) (by omega) rfl
      have HDD : Hid _ := hdd
      have HPS : Hid (p + 1 ≤ lcur.size) := by unfold Hid; omega
      have HPN : Hid (p < n) := hpn
      have HA2 : Hid (base ≤ lb) := a2
      have hdr : Below W.heap.size W W.drew := (Below.refl _ W).drew
      have HTD : Hid (Below w.heap.size w W.drew ∧ XL W.drew base cs rs ids gs vc vr vi (.slice (some ⟨gb, 0, none⟩) gl.length gc) gl ∧ W.drew.heap[w.heap.size]? = some (.cells #[.int .i64 N, vc, vi, (.slice (some ⟨gb, 0, none⟩) gl.length gc), vr, .bool bad] 26) ∧ W.drew.heap[w.heap.size + 1]? = some (.cells #[.int .i64 ta, .int .i64 ti, .int .u64 ((tb : Nat) : Int)] 52)) := ⟨to_callD HT.out.1 hdr, HT.out.2.1.later hdr, kept hdr HT.out.2.2.1, kept hdr HT.out.2.2.2⟩
      have HLB : Hid (W.drew.heap[lb]? = some (.cells lcur 55)) := kept hdr a3
      have sV : (W.drew.cell? ⟨w.heap.size + 1, 1, none⟩ = some (.int .i64 ti) ∧ W.drew.cell? ⟨w.heap.size + 1, 2, none⟩ = some (.int .u64 ((tb : Nat) : Int))) := by
        obtain ⟨t0, t1, t2⟩ := cells3L HTD.out.2.2.2
        exact ⟨t1, t2⟩
      clear a2 a3 a9 hp hM hdd hdr hnsz HT
      go_upto_region 7 with fail
      refine wp_region_noPanic ?_
      refine wp_region_P (S := fun V => (V.cell? ⟨w.heap.size + 1, 1, none⟩ = some (.int .i64 ti) ∧ V.cell? ⟨w.heap.size + 1, 2, none⟩ = some (.int .u64 ((tb : Nat) : Int)))) (s := 11) (by kernel_rfl) ?_
      refine takeP0 37 (i := 0) (v := ?_) rfl rfl (by kernel_rfl) (by kernel_rfl) (by kernel_rfl) rfl (fun _ _ _ h => h) (Or.inl ⟨by kernel_rfl, ?_⟩) (fun _ => sV) ?_
      rotate_left
      · intro w' hSw; go_simp; try with_reducible rfl
      try simp only [pA, pE, pB, pC, pD]
      refine takeP0 38 (i := 1) (v := ?_) rfl rfl (by kernel_rfl) (by kernel_rfl) (by kernel_rfl) rfl (fun _ _ _ h => h) (Or.inl ⟨by kernel_rfl, ?_⟩) (fun _ => sV) ?_
      rotate_left
      · intro w' hSw; go_simp; try with_reducible rfl
      try simp only [pA, pE, pB, pC, pD]
      refine takeP 39 (i := 2) (v := ?_) rfl rfl (by kernel_rfl) (by kernel_rfl) (by kernel_rfl) (by kernel_rfl) rfl (by kernel_rfl) (fun _ _ _ h => h) (Or.inl ⟨by kernel_rfl, ?_⟩) sV ?_
      rotate_left
      · intro w' hSw; obtain ⟨q1, q2⟩ := hSw; go_simp; try with_reducible rfl
      try simp only [pA, pE, pB, pC, pD]
      refine takeP0 40 (i := 3) (v := ?_) rfl rfl (by kernel_rfl) (by kernel_rfl) (by kernel_rfl) rfl (fun _ _ _ h => h) (Or.inl ⟨by kernel_rfl, ?_⟩) (fun _ => sV) ?_
      rotate_left
      · intro w' hSw; go_simp; try with_reducible rfl
      try simp only [pA, pE, pB, pC, pD]
      refine takeP0 41 (i := 4) (v := ?_) rfl rfl (by kernel_rfl) (by kernel_rfl) (by kernel_rfl) rfl (fun _ _ _ h => h) (Or.inl ⟨by kernel_rfl, ?_⟩) (fun _ => sV) ?_
      rotate_left
      · intro w' hSw; go_simp; try with_reducible rfl
      try simp only [pA, pE, pB, pC, pD]
      refine takeP0 42 (i := 5) (v := ?_) rfl rfl (by kernel_rfl) (by kernel_rfl) (by kernel_rfl) rfl (fun _ _ _ h => h) (Or.inl ⟨by kernel_rfl, ?_⟩) (fun _ => sV) ?_
      rotate_left
      · intro w' hSw; go_simp; try with_reducible rfl
      try simp only [pA, pE, pB, pC, pD]
      refine takeP0 43 (i := 6) (v := ?_) rfl rfl (by kernel_rfl) (by kernel_rfl) (by kernel_rfl) rfl (fun _ _ _ h => h) (Or.inl ⟨by kernel_rfl, ?_⟩) (fun _ => sV) ?_
      rotate_left
      · intro w' hSw; go_simp; try with_reducible rfl
      try simp only [pA, pE, pB, pC, pD]
      refine takeP0 44 (i := 7) (v := ?_) rfl rfl (by kernel_rfl) (by kernel_rfl) (by kernel_rfl) rfl (fun _ _ _ h => h) (Or.inl ⟨by kernel_rfl, ?_⟩) (fun _ => sV) ?_
      rotate_left
      · intro w' hSw; go_simp; try with_reducible rfl
      try simp only [pA, pE, pB, pC, pD]
      refine takeP 45 (i := 8) (v := ?_) rfl rfl (by kernel_rfl) (by kernel_rfl) (by kernel_rfl) (by kernel_rfl) rfl (by kernel_rfl) (fun _ _ _ h => h) (Or.inl ⟨by kernel_rfl, ?_⟩) sV ?_
      rotate_left
      · intro w' hSw; obtain ⟨q1, q2⟩ := hSw; go_simp; try with_reducible rfl
      try simp only [pA, pE, pB, pC, pD]
      refine wpAnyP_ready (rs := [9]) (by kernel_rfl) (by simp) ?_
      refine consP _ rfl (hopCd 46 rfl (by kernel_rfl) rfl (by kernel_rfl) (Calls.mono (float_int ((tb : Nat) : Int) _) ?_)) AllReadyP.nil
      rintro e V1 ⟨rfl, hV1⟩
      rw [Int.toNat_natCast, hV1]
      clear hV1
      refine ⟨_, rfl, sV, ?_⟩
      try simp only [pA, pE, pB, pC, pD]
      refine takeP0 47 (i := 10) (v := ?_) rfl rfl (by kernel_rfl) (by kernel_rfl) (by kernel_rfl) rfl (fun _ _ _ h => h) (Or.inl ⟨by kernel_rfl, ?_⟩) (fun _ => sV) ?_
      rotate_left
      · intro w' hSw; go_simp; try with_reducible rfl
      try simp only [pA, pE, pB, pC, pD]
      refine wpAnyP_ready (rs := [11]) (by kernel_rfl) (by simp) ?_
      refine consPs _ rfl (by kernel_rfl) (hopL rfl (wpList_store_at (by rfl) 55 _ _ (by rfl) w base lb p (.float .f64 tb) lcur dd 55 (by kernel_rfl) (by kernel_rfl) HLB.out (HTD.out.1.mono hbw) HA2.out 1 Tryz.szF1L rfl HPS.out (one_flD _) HDD.out.1 fun W9 e9 b9 s9 k9 => ?_)) AllReadyP.nil
      refine ⟨trivial, ?_⟩
      refine put_noneP rfl ?_
      try simp only [pA, pE, pB, pC, pD]
      refine wpAnyP_done (by kernel_rfl) ?_ _
      refine NoPanic.normal ?_
      try simp only [pA, pE, pB, pC, pD]
      have HE9 : Hid _ := And.intro e9 (And.intro b9 k9)
      clear e9 b9 s9 k9 sV
      go_wp2_with fail
      go_end0
      refine ⟨⟨_, rfl⟩, HTD.out.2.1.turn HMV.out rfl (fun a n' c e => by cases e; exact HPN.out) HLB.out HE9.out.1 HE9.out.2.2 htb HDD.out.2.2.1 HDD.out.2.2.2, HE9.out.2.1, fun k cur t ht hc => ?_⟩
      have hk1 := HTD.out.1.block k (blk_lt hc)
      exact (HE9.out.2.2 k (by rintro rfl; have := HLB.out; rw [hk1, hc] at this; cases this; exact ht rfl)).trans hk1
  | false =>
    obtain ⟨m, hm⟩ : ∃ m, bits .and .i64 ta 1 = m := ⟨_, rfl⟩
    by_cases h1 : m = 1
    · have e1 : (m == 1) = true := by simp [h1]
      have HMV : Hid (vr ∈ vc :: vr :: gl) := List.mem_cons_of_mem _ List.mem_cons_self
      clear h1
      go_upto_region 6 with fail
      obtain ⟨W, rfl⟩ : ∃ W, W = wc := ⟨_, rfl⟩
      have HT : Hid (Below w.heap.size w W ∧ XL W base cs rs ids gs vc vr vi (.slice (some ⟨gb, 0, none⟩) gl.length gc) gl ∧ W.heap[w.heap.size]? = some (.cells #[.int .i64 N, vc, vi, (.slice (some ⟨gb, 0, none⟩) gl.length gc), vr, .bool bad] 26) ∧ W.heap[w.heap.size + 1]? = some (.cells #[.int .i64 ta, .int .i64 ti, .int .u64 ((tb : Nat) : Int)] 52)) := T0
      clear hm e1 HG6 T0 t0 c1 c3 c4 HBB
      obtain ⟨us, hmk⟩ := HT.out.2.1.any _ HMV.out
      obtain ⟨lb, lcap, lcur, hv, a2, a3, a4, a5, a6, a7, a8, a9⟩ := hmk
      obtain ⟨n, hn⟩ : ∃ n, us.length = n := ⟨_, rfl⟩
      rw [hn] at hv a4 a7 a9
      clear a6 a8 hn
      subst hv
      have hmx := Nat.le_trans a5 maxLen_le
      by_cases hz : n = 0
      · have hd : decide ((n : Int) > 0) = false := decide_eq_false (by omega)
        have hd' : decide (0 < n) = false := decide_eq_false (by omega)
        have hd2 : ¬ 0 < n := by omega
        clear hz a2 a3 a9
        go_wp2_with fail
        go_end0
        exact ⟨⟨_, rfl⟩, ⟨cs, rs, gs, HT.out.2.1⟩, HT.out.1.mono hbw, fun k cur t _ hc => HT.out.1.block k (blk_lt hc)⟩
      · have hd : decide ((n : Int) > 0) = true := decide_eq_true (by omega)
        have hd2 : 0 < n := by omega
        obtain ⟨M, hand, hM⟩ := and40 ti
        obtain ⟨p, hp⟩ : ∃ p, M % n = p := ⟨_, rfl⟩
        have hpn : p < n := by rw [← hp]; exact Nat.mod_lt _ hd2
        have hpn' : (p : Int) < (n : Int) := by omega
        have hrem : Int.tmod (M : Int) (n : Int) = (p : Int) := by rw [← hp, Int.natCast_emod]; exact Int.tmod_eq_emod_of_nonneg (by omega)
        have hrem2 : (M : Int) % (n : Int) = (p : Int) := by rw [← hp, Int.natCast_emod]
        have hnz : ((n : Int) == 0) = false := beq_eq_false_iff_ne.2 (by omega)
        have hnz' : (n == 0) = false := beq_eq_false_iff_ne.2 (by omega)
        have hnsz : n < lcur.size := (Array.getElem?_eq_some_iff.1 a9).1
        obtain ⟨dd, hdd⟩ := setP_cells (c := lcur) (k := p) (v := .float .f64 tb) (by omega) rfl
        have HDD : Hid _ := hdd
        have HPS : Hid (p + 1 ≤ lcur.size) := by unfold Hid; omega
        have HPN : Hid (p < n) := hpn
        have HA2 : Hid (base ≤ lb) := a2
        have hdr : Below W.heap.size W W.drew := (Below.refl _ W).drew
        have HTD : Hid (Below w.heap.size w W.drew ∧ XL W.drew base cs rs ids gs vc (.slice (some ⟨lb, 0, none⟩) n lcap) vi (.slice (some ⟨gb, 0, none⟩) gl.length gc) gl ∧ W.drew.heap[w.heap.size]? = some (.cells #[.int .i64 N, vc, vi, (.slice (some ⟨gb, 0, none⟩) gl.length gc), (.slice (some ⟨lb, 0, none⟩) n lcap), .bool bad] 26) ∧ W.drew.heap[w.heap.size + 1]? = some (.cells #[.int .i64 ta, .int .i64 ti, .int .u64 ((tb : Nat) : Int)] 52)) := ⟨to_callD HT.out.1 hdr, HT.out.2.1.later hdr, kept hdr HT.out.2.2.1, kept hdr HT.out.2.2.2⟩
        have HLB : Hid (W.drew.heap[lb]? = some (.cells lcur 55)) := kept hdr a3
        have sV : (W.drew.cell? ⟨w.heap.size + 1, 1, none⟩ = some (.int .i64 ti) ∧ W.drew.cell? ⟨w.heap.size + 1, 2, none⟩ = some (.int .u64 ((tb : Nat) : Int))) := by
          obtain ⟨t0, t1, t2⟩ := cells3L HTD.out.2.2.2
          exact ⟨t1, t2⟩
        clear a2 a3 a9 hp hM hdd hdr hnsz HT
        go_upto_region 7 with fail
        refine wp_region_noPanic ?_
        refine wp_region_P (S := fun V => (V.cell? ⟨w.heap.size + 1, 1, none⟩ = some (.int .i64 ti) ∧ V.cell? ⟨w.heap.size + 1, 2, none⟩ = some (.int .u64 ((tb : Nat) : Int)))) (s := 11) (by kernel_rfl) ?_
        refine takeP0 37 (i := 0) (v := ?_) rfl rfl (by kernel_rfl) (by kernel_rfl) (by kernel_rfl) rfl (fun _ _ _ h => h) (Or.inl ⟨by kernel_rfl, ?_⟩) (fun _ => sV) ?_
        rotate_left
        · intro w' hSw; go_simp; try with_reducible rfl
        try simp only [pA, pE, pB, pC, pD]
        refine takeP0 38 (i := 1) (v := ?_) rfl rfl (by kernel_rfl) (by kernel_rfl) (by kernel_rfl) rfl (fun _ _ _ h => h) (Or.inl ⟨by kernel_rfl, ?_⟩) (fun _ => sV) ?_
        rotate_left
        · intro w' hSw; go_simp; try with_reducible rfl
        try simp only [pA, pE, pB, pC, pD]
        refine takeP 39 (i := 2) (v := ?_) rfl rfl (by kernel_rfl) (by kernel_rfl) (by kernel_rfl) (by kernel_rfl) rfl (by kernel_rfl) (fun _ _ _ h => h) (Or.inl ⟨by kernel_rfl, ?_⟩) sV ?_
        rotate_left
        · intro w' hSw; obtain ⟨q1, q2⟩ := hSw; go_simp; try with_reducible rfl
        try simp only [pA, pE, pB, pC, pD]
        refine takeP0 40 (i := 3) (v := ?_) rfl rfl (by kernel_rfl) (by kernel_rfl) (by kernel_rfl) rfl (fun _ _ _ h => h) (Or.inl ⟨by kernel_rfl, ?_⟩) (fun _ => sV) ?_
        rotate_left
        · intro w' hSw; go_simp; try with_reducible rfl
        try simp only [pA, pE, pB, pC, pD]
        refine takeP0 41 (i := 4) (v := ?_) rfl rfl (by kernel_rfl) (by kernel_rfl) (by kernel_rfl) rfl (fun _ _ _ h => h) (Or.inl ⟨by kernel_rfl, ?_⟩) (fun _ => sV) ?_
        rotate_left
        · intro w' hSw; go_simp; try with_reducible rfl
        try simp only [pA, pE, pB, pC, pD]
        refine takeP0 42 (i := 5) (v := ?_) rfl rfl (by kernel_rfl) (by kernel_rfl) (by kernel_rfl) rfl (fun _ _ _ h => h) (Or.inl ⟨by kernel_rfl, ?_⟩) (fun _ => sV) ?_
        rotate_left
        · intro w' hSw; go_simp; try with_reducible rfl
        try simp only [pA, pE, pB, pC, pD]
        refine takeP0 43 (i := 6) (v := ?_) rfl rfl (by kernel_rfl) (by kernel_rfl) (by kernel_rfl) rfl (fun _ _ _ h => h) (Or.inl ⟨by kernel_rfl, ?_⟩) (fun _ => sV) ?_
        rotate_left
        · intro w' hSw; go_simp; try with_reducible rfl
        try simp only [pA, pE, pB, pC, pD]
        refine takeP0 44 (i := 7) (v := ?_) rfl rfl (by kernel_rfl) (by kernel_rfl) (by kernel_rfl) rfl (fun _ _ _ h => h) (Or.inl ⟨by kernel_rfl, ?_⟩) (fun _ => sV) ?_
        rotate_left
        · intro w' hSw; go_simp; try with_reducible rfl
        try simp only [pA, pE, pB, pC, pD]
        refine takeP 45 (i := 8) (v := ?_) rfl rfl (by kernel_rfl) (by kernel_rfl) (by kernel_rfl) (by kernel_rfl) rfl (by kernel_rfl) (fun _ _ _ h => h) (Or.inl ⟨by kernel_rfl, ?_⟩) sV ?_
        rotate_left
        · intro w' hSw; obtain ⟨q1, q2⟩ := hSw; go_simp; try with_reducible rfl
        try simp only [pA, pE, pB, pC, pD]
        refine wpAnyP_ready (rs := [9]) (by kernel_rfl) (by simp) ?_
        refine consP _ rfl (hopCd 46 rfl (by kernel_rfl) rfl (by kernel_rfl) (Calls.mono (float_int ((tb : Nat) : Int) _) ?_)) AllReadyP.nil
        rintro e V1 ⟨rfl, hV1⟩
        rw [Int.toNat_natCast, hV1]
        clear hV1
        refine ⟨_, rfl, sV, ?_⟩
        try simp only [pA, pE, pB, pC, pD]
        refine takeP0 47 (i := 10) (v := ?_) rfl rfl (by kernel_rfl) (by kernel_rfl) (by kernel_rfl) rfl (fun _ _ _ h => h) (Or.inl ⟨by kernel_rfl, ?_⟩) (fun _ => sV) ?_
        rotate_left
        · intro w' hSw; go_simp; try with_reducible rfl
        try simp only [pA, pE, pB, pC, pD]
        refine wpAnyP_ready (rs := [11]) (by kernel_rfl) (by simp) ?_
        refine consPs _ rfl (by kernel_rfl) (hopL rfl (wpList_store_at (by rfl) 55 _ _ (by rfl) w base lb p (.float .f64 tb) lcur dd 55 (by kernel_rfl) (by kernel_rfl) HLB.out (HTD.out.1.mono hbw) HA2.out 1 Tryz.szF1L rfl HPS.out (one_flD _) HDD.out.1 fun W9 e9 b9 s9 k9 => ?_)) AllReadyP.nil
        refine ⟨trivial, ?_⟩
        refine put_noneP rfl ?_
        try simp only [pA, pE, pB, pC, pD]
        refine wpAnyP_done (by kernel_rfl) ?_ _
        refine NoPanic.normal ?_
        try simp only [pA, pE, pB, pC, pD]
        have HE9 : Hid _ := And.intro e9 (And.intro b9 k9)
        clear e9 b9 s9 k9 sV
        go_wp2_with fail
        go_end0
        refine ⟨⟨_, rfl⟩, HTD.out.2.1.turn HMV.out rfl (fun a n' c e => by cases e; exact HPN.out) HLB.out HE9.out.1 HE9.out.2.2 htb HDD.out.2.2.1 HDD.out.2.2.2, HE9.out.2.1, fun k cur t ht hc => ?_⟩
        have hk1 := HTD.out.1.block k (blk_lt hc)
        exact (HE9.out.2.2 k (by rintro rfl; have := HLB.out; rw [hk1, hc] at this; cases this; exact ht rfl)).trans hk1
    · have e1 : (m == 1) = false := by simp [h1]
      have HMV : Hid (vc ∈ vc :: vr :: gl) := List.mem_cons_self
      clear h1
      go_upto_region 6 with fail
      obtain ⟨W, rfl⟩ : ∃ W, W = wc := ⟨_, rfl⟩
      have HT : Hid (Below w.heap.size w W ∧ XL W base cs rs ids gs vc vr vi (.slice (some ⟨gb, 0, none⟩) gl.length gc) gl ∧ W.heap[w.heap.size]? = some (.cells #[.int .i64 N, vc, vi, (.slice (some ⟨gb, 0, none⟩) gl.length gc), vr, .bool bad] 26) ∧ W.heap[w.heap.size + 1]? = some (.cells #[.int .i64 ta, .int .i64 ti, .int .u64 ((tb : Nat) : Int)] 52)) := T0
      clear hm e1 HG6 T0 t0 c1 c3 c4 HBB
      obtain ⟨us, hmk⟩ := HT.out.2.1.any _ HMV.out
      obtain ⟨lb, lcap, lcur, hv, a2, a3, a4, a5, a6, a7, a8, a9⟩ := hmk
      obtain ⟨n, hn⟩ : ∃ n, us.length = n := ⟨_, rfl⟩
      rw [hn] at hv a4 a7 a9
      clear a6 a8 hn
      subst hv
      have hmx := Nat.le_trans a5 maxLen_le
      by_cases hz : n = 0
      · have hd : decide ((n : Int) > 0) = false := decide_eq_false (by omega)
        have hd' : decide (0 < n) = false := decide_eq_false (by omega)
        have hd2 : ¬ 0 < n := by omega
        clear hz a2 a3 a9
        go_wp2_with fail
        go_end0
        exact ⟨⟨_, rfl⟩, ⟨cs, rs, gs, HT.out.2.1⟩, HT.out.1.mono hbw, fun k cur t _ hc => HT.out.1.block k (blk_lt hc)⟩
      · have hd : decide ((n : Int) > 0) = true := decide_eq_true (by omega)
        have hd2 : 0 < n := by omega
        obtain ⟨M, hand, hM⟩ := and40 ti
        obtain ⟨p, hp⟩ : ∃ p, M % n = p := ⟨_, rfl⟩
        have hpn : p < n := by rw [← hp]; exact Nat.mod_lt _ hd2
        have hpn' : (p : Int) < (n : Int) := by omega
        have hrem : Int.tmod (M : Int) (n : Int) = (p : Int) := by rw [← hp, Int.natCast_emod]; exact Int.tmod_eq_emod_of_nonneg (by omega)
        have hrem2 : (M : Int) % (n : Int) = (p : Int) := by rw [← hp, Int.natCast_emod]
        have hnz : ((n : Int) == 0) = false := beq_eq_false_iff_ne.2 (by omega)
        have hnz' : (n == 0) = false := beq_eq_false_iff_ne.2 (by omega)
        have hnsz : n < lcur.size := (Array.getElem?_eq_some_iff.1 a9).1
        obtain ⟨dd, hdd⟩ := setP_cells (c := lcur) (k := p) (v := .float .f64 tb) (by omega) rfl
        have HDD : Hid _ := hdd
        have HPS : Hid (p + 1 ≤ lcur.size) := by unfold Hid; omega
        have HPN : Hid (p < n) := hpn
        have HA2 : Hid (base ≤ lb) := a2
        have hdr : Below W.heap.size W W.drew := (Below.refl _ W).drew
        have HTD : Hid (Below w.heap.size w W.drew ∧ XL W.drew base cs rs ids gs (.slice (some ⟨lb, 0, none⟩) n lcap) vr vi (.slice (some ⟨gb, 0, none⟩) gl.length gc) gl ∧ W.drew.heap[w.heap.size]? = some (.cells #[.int .i64 N, (.slice (some ⟨lb, 0, none⟩) n lcap), vi, (.slice (some ⟨gb, 0, none⟩) gl.length gc), vr, .bool bad] 26) ∧ W.drew.heap[w.heap.size + 1]? = some (.cells #[.int .i64 ta, .int .i64 ti, .int .u64 ((tb : Nat) : Int)] 52)) := ⟨to_callD HT.out.1 hdr, HT.out.2.1.later hdr, kept hdr HT.out.2.2.1, kept hdr HT.out.2.2.2⟩
        have HLB : Hid (W.drew.heap[lb]? = some (.cells lcur 55)) := kept hdr a3
        have sV : (W.drew.cell? ⟨w.heap.size + 1, 1, none⟩ = some (.int .i64 ti) ∧ W.drew.cell? ⟨w.heap.size + 1, 2, none⟩ = some (.int .u64 ((tb : Nat) : Int))) := by
          obtain ⟨t0, t1, t2⟩ := cells3L HTD.out.2.2.2
          exact ⟨t1, t2⟩
        clear a2 a3 a9 hp hM hdd hdr hnsz HT
        go_upto_region 7 with fail
        refine wp_region_noPanic ?_
        refine wp_region_P (S := fun V => (V.cell? ⟨w.heap.size + 1, 1, none⟩ = some (.int .i64 ti) ∧ V.cell? ⟨w.heap.size + 1, 2, none⟩ = some (.int .u64 ((tb : Nat) : Int)))) (s := 11) (by kernel_rfl) ?_
        refine takeP0 37 (i := 0) (v := ?_) rfl rfl (by kernel_rfl) (by kernel_rfl) (by kernel_rfl) rfl (fun _ _ _ h => h) (Or.inl ⟨by kernel_rfl, ?_⟩) (fun _ => sV) ?_
        rotate_left
        · intro w' hSw; go_simp; try with_reducible rfl
        try simp only [pA, pE, pB, pC, pD]
        refine takeP0 38 (i := 1) (v := ?_) rfl rfl (by kernel_rfl) (by kernel_rfl) (by kernel_rfl) rfl (fun _ _ _ h => h) (Or.inl ⟨by kernel_rfl, ?_⟩) (fun _ => sV) ?_
        rotate_left
        · intro w' hSw; go_simp; try with_reducible rfl
        try simp only [pA, pE, pB, pC, pD]
        refine takeP 39 (i := 2) (v := ?_) rfl rfl (by kernel_rfl) (by kernel_rfl) (by kernel_rfl) (by kernel_rfl) rfl (by kernel_rfl) (fun _ _ _ h => h) (Or.inl ⟨by kernel_rfl, ?_⟩) sV ?_
        rotate_left
        · intro w' hSw; obtain ⟨q1, q2⟩ := hSw; go_simp; try with_reducible rfl
        try simp only [pA, pE, pB, pC, pD]
        refine takeP0 40 (i := 3) (v := ?_) rfl rfl (by kernel_rfl) (by kernel_rfl) (by kernel_rfl) rfl (fun _ _ _ h => h) (Or.inl ⟨by kernel_rfl, ?_⟩) (fun _ => sV) ?_
        rotate_left
        · intro w' hSw; go_simp; try with_reducible rfl
        try simp only [pA, pE, pB, pC, pD]
        refine takeP0 41 (i := 4) (v := ?_) rfl rfl (by kernel_rfl) (by kernel_rfl) (by kernel_rfl) rfl (fun _ _ _ h => h) (Or.inl ⟨by kernel_rfl, ?_⟩) (fun _ => sV) ?_
        rotate_left
        · intro w' hSw; go_simp; try with_reducible rfl
        try simp only [pA, pE, pB, pC, pD]
        refine takeP0 42 (i := 5) (v := ?_) rfl rfl (by kernel_rfl) (by kernel_rfl) (by kernel_rfl) rfl (fun _ _ _ h => h) (Or.inl ⟨by kernel_rfl, ?_⟩) (fun _ => sV) ?_
        rotate_left
        · intro w' hSw; go_simp; try with_reducible rfl
        try simp only [pA, pE, pB, pC, pD]
        refine takeP0 43 (i := 6) (v := ?_) rfl rfl (by kernel_rfl) (by kernel_rfl) (by kernel_rfl) rfl (fun _ _ _ h => h) (Or.inl ⟨by kernel_rfl, ?_⟩) (fun _ => sV) ?_
        rotate_left
        · intro w' hSw; go_simp; try with_reducible rfl
        try simp only [pA, pE, pB, pC, pD]
        refine takeP0 44 (i := 7) (v := ?_) rfl rfl (by kernel_rfl) (by kernel_rfl) (by kernel_rfl) rfl (fun _ _ _ h => h) (Or.inl ⟨by kernel_rfl, ?_⟩) (fun _ => sV) ?_
        rotate_left
        · intro w' hSw; go_simp; try with_reducible rfl
        try simp only [pA, pE, pB, pC, pD]
        refine takeP 45 (i := 8) (v := ?_) rfl rfl (by kernel_rfl) (by kernel_rfl) (by kernel_rfl) (by kernel_rfl) rfl (by kernel_rfl) (fun _ _ _ h => h) (Or.inl ⟨by kernel_rfl, ?_⟩) sV ?_
        rotate_left
        · intro w' hSw; obtain ⟨q1, q2⟩ := hSw; go_simp; try with_reducible rfl
        try simp only [pA, pE, pB, pC, pD]
        refine wpAnyP_ready (rs := [9]) (by kernel_rfl) (by simp) ?_
        refine consP _ rfl (hopCd 46 rfl (by kernel_rfl) rfl (by kernel_rfl) (Calls.mono (float_int ((tb : Nat) : Int) _) ?_)) AllReadyP.nil
        rintro e V1 ⟨rfl, hV1⟩
        rw [Int.toNat_natCast, hV1]
        clear hV1
        refine ⟨_, rfl, sV, ?_⟩
        try simp only [pA, pE, pB, pC, pD]
        refine takeP0 47 (i := 10) (v := ?_) rfl rfl (by kernel_rfl) (by kernel_rfl) (by kernel_rfl) rfl (fun _ _ _ h => h) (Or.inl ⟨by kernel_rfl, ?_⟩) (fun _ => sV) ?_
        rotate_left
        · intro w' hSw; go_simp; try with_reducible rfl
        try simp only [pA, pE, pB, pC, pD]
        refine wpAnyP_ready (rs := [11]) (by kernel_rfl) (by simp) ?_
        refine consPs _ rfl (by kernel_rfl) (hopL rfl (wpList_store_at (by rfl) 55 _ _ (by rfl) w base lb p (.float .f64 tb) lcur dd 55 (by kernel_rfl) (by kernel_rfl) HLB.out (HTD.out.1.mono hbw) HA2.out 1 Tryz.szF1L rfl HPS.out (one_flD _) HDD.out.1 fun W9 e9 b9 s9 k9 => ?_)) AllReadyP.nil
        refine ⟨trivial, ?_⟩
        refine put_noneP rfl ?_
        try simp only [pA, pE, pB, pC, pD]
        refine wpAnyP_done (by kernel_rfl) ?_ _
        refine NoPanic.normal ?_
        try simp only [pA, pE, pB, pC, pD]
        have HE9 : Hid _ := And.intro e9 (And.intro b9 k9)
        clear e9 b9 s9 k9 sV
        go_wp2_with fail
        go_end0
        refine ⟨⟨_, rfl⟩, HTD.out.2.1.turn HMV.out rfl (fun a n' c e => by cases e; exact HPN.out) HLB.out HE9.out.1 HE9.out.2.2 htb HDD.out.2.2.1 HDD.out.2.2.2, HE9.out.2.1, fun k cur t ht hc => ?_⟩
        have hk1 := HTD.out.1.block k (blk_lt hc)
        exact (HE9.out.2.2 k (by rintro rfl; have := HLB.out; rw [hk1, hc] at this; cases this; exact ht rfl)).trans hk1
end Go.Proofs.YtbfnahfkdjlpdaaGreat
