import Derived.Test.YtoehhnildocihaaSCd
import Derived.Test.YtoehhnildocihaaSCb4
namespace Go.Proofs.Ytoehhnildocihaa
open Go.RowKit Go.Shelf
set_option linter.unusedVariables false
set_option linter.unusedSimpArgs false
theorem Try.infoZ : (Try.prog.info? 26).map (·.size) = some 6 := by kernel_rfl
theorem Try.infoPA : (Try.prog.info? 73).map (fun i => (i.zero, i.size, i.bytes)) = some (some (.pointer none), 1, 8) := by kernel_rfl
def pnL (p : Nat → Nat) (n : Nat) : List Value := (List.range n).map fun j => .pointer (some ⟨p j, 0, none⟩)
theorem pnL_len (p : Nat → Nat) (n : Nat) : (pnL p n).length = n := by unfold pnL; simp
theorem pnL_at (p : Nat → Nat) (n j : Nat) (h : j < n) : (pnL p n)[j]? = some (.pointer (some ⟨p j, 0, none⟩)) := by
  unfold pnL
  rw [List.getElem?_map, List.getElem?_range h]
  rfl
theorem pnL_succ (p : Nat → Nat) (n B : Nat) : pnL p n ++ [Value.pointer (some ⟨B, 0, none⟩)] = pnL (fun j => if j = n then B else p j) (n + 1) := by
  unfold pnL
  rw [List.range_succ, List.map_append]
  congr 1
  · apply List.map_congr_left
    intro j hj
    have := List.mem_range.1 hj
    simp only [if_neg (show j ≠ n by omega)]
  · simp
/-- Accs that were made, and the list of their pointers. -/
structure TuS (w W : World) (n : Nat) (tv : Value) (p : Nat → Nat) (v : Nat → Int) : Prop where
  b : Below w.heap.size w W
  o : W.ownsRow w.heap.size 73 1 tv n (pnL p n)
  a : ∀ j, j < n → AccO W (p j) (some (v j))
  d : ∀ j, j < n → ∀ q, tv.ownBlock = some q → p j ≠ q
theorem TuS.step {w W W1 w2 : World} {n : Nat} {tv tv' : Value} {p : Nat → Nat} {v : Nat → Int} (h : TuS w W n tv p v) (hb : Below W.heap.size W W1) (ha : AccO W1 W.heap.size (some (v n))) (hs : W.heap.size < W1.heap.size)
    (o : w2.ownsRow w.heap.size 73 1 tv' (pnL p n ++ [Value.pointer (some ⟨W.heap.size, 0, none⟩)]).length (pnL p n ++ [Value.pointer (some ⟨W.heap.size, 0, none⟩)])) (g : Grw W1 w2 tv.ownBlock tv'.ownBlock) :
    TuS w w2 (n + 1) tv' (fun j => if j = n then W.heap.size else p j) v := by
  have hq : ∀ q, tv.ownBlock = some q → w.heap.size ≤ q ∧ q < W.heap.size := fun q hq => World.ownsRow.lt h.o q hq
  refine ⟨(to_call h.b hb).trans (g.below (fun k hk => (hq k hk).1) (Nat.le_trans h.b.size (Nat.le_of_lt hs))), ?_, fun j hj => ?_, fun j hj q hqq => ?_⟩
  · rw [pnL_succ, pnL_len] at o
    exact o
  · by_cases e : j = n
    · subst e
      simp only [if_pos]
      exact ha.heap (g.by'.block _ hs fun c => by have := hq _ c.symm; omega)
    · simp only [if_neg e]
      have h1 := h.a j (by omega)
      have h2 := h1.block
      have h3 : AccO W1 (p j) (some (v j)) := h1.below hb h2
      exact h3.heap (g.by'.block _ (by omega) fun c => h.d j (by omega) _ c.symm rfl)
  · rcases g.new with c | c
    · have h1 := hq q (c ▸ hqq)
      by_cases e : j = n
      · simp only [if_pos e]; omega
      · simp only [if_neg e]; exact h.d j (by omega) q (c ▸ hqq)
    · have h1 := c q hqq
      by_cases e : j = n
      · simp only [if_pos e]; omega
      · simp only [if_neg e]
        have := (h.a j (by omega)).block
        omega
theorem TuS.acl {w W : World} {n : Nat} {tv : Value} {p : Nat → Nat} {v : Nat → Int} (h : TuS w W n tv p v) : ∃ ao cap, tv = .slice ao n cap ∧ AcL W ao n p v := by
  obtain ⟨ao, cap, hv, hm, hc⟩ := owns_slice h.o
  refine ⟨ao, cap, hv, hm, ?_, h.a⟩
  rcases hc with h0 | ⟨g, hg, hc⟩
  · exact .inl h0
  · exact .inr ⟨g, 0, hg, fun j hj => by rw [Nat.zero_add, hc j hj, pnL_at p n j hj]⟩
/-- How far a column turns the claim's sum. -/
def dvK (us : List Nat) (gs : List (List Nat)) (rn : Nat) (j : Nat) : Int := ((dotV us (gs[j]?.getD []) rn).natAbs : Int)
/-- The symbol whose column turns it most, of the first m. -/
def bcV (us : List Nat) (gs : List (List Nat)) (rn : Nat) (ids : List Int) (m : Nat) : Int := if (grK (dvK us gs rn) m).1 < 0 then -1 else ids[(grK (dvK us gs rn) m).1.toNat]?.getD 0
theorem clB_is {z : ZD} {us : List Nat} (h : clB z us = true) : z.bad = false ∧ wholeB z = true ∧ (us.length : Int) = z.N + 1 ∧ ∀ u ∈ us, Fin u := by
  unfold clB checkB at h
  simp only [Bool.and_eq_true, decide_eq_true_eq, Bool.not_eq_true'] at h
  obtain ⟨⟨⟨h1, h2⟩, h3⟩, h4⟩ := h
  rw [h2] at h1
  refine ⟨h2, by simpa using h1, h3, fun u hu => ?_⟩
  unfold numsB at h4
  exact of_decide_eq_true (List.all_eq_true.1 h4 u hu)
set_option maxRecDepth 100000 in
set_option maxHeartbeats 4000000 in
theorem byClaim_any (z : ZD) (ao : Option Addr) (l c : Nat) (us : List Nat) (k : Int) (m : Nat) (w : World) (hz : ZR w z) (hdn : z.dn ≤ 1050000) (ha : RdF w ao l c us) (hm : clB z us = true → m ≤ z.dn ∧ ∀ j, j < z.dn → (z.ids[j]?.getD 0 < k ↔ j < m)) :
    Calls Try.prog 13 #[.agg #[.int .i64 z.N, .slice z.co z.cn z.cc, .slice z.io z.dn z.dc, .slice z.go z.gn z.gc, .slice z.ro z.rn z.rc, .bool z.bad], .slice ao l c, .int .i64 k] w fun e w' => e = .returned (.int .i64 (if clB z us = true then bcV us z.gs z.rn z.ids m else -1)) ∧ Below w.heap.size w w' := by
  obtain ⟨N, co, cn, cc, io, dn, dc, go, gn, gc, ro, rn, rc, bad, cs, ids, gv, gs, rs⟩ := z
  dsimp only at hdn hm ⊢
  have HZ : Hid (∀ W', Below w.heap.size w W' → ZR W' ⟨N, co, cn, cc, io, dn, dc, go, gn, gc, ro, rn, rc, bad, cs, ids, gv, gs, rs⟩) := fun W' hb => hz.later hb
  have HA : Hid (∀ W', Below w.heap.size w W' → RdF W' ao l c us) := fun W' hb => ha.later hb
  have HD : Hid (dn ≤ 1050000) := hdn
  have HLN : Hid (us.length = l ∧ ids.length = dn) := ⟨ha.length, hz.i.length⟩
  have hlm : l ≤ 9223372036854775807 := Nat.le_trans ha.max maxLen_le
  have HM : Hid (clB ⟨N, co, cn, cc, io, dn, dc, go, gn, gc, ro, rn, rc, bad, cs, ids, gv, gs, rs⟩ us = true → m ≤ dn ∧ ∀ j, j < dn → (ids[j]?.getD 0 < k ↔ j < m)) := hm
  obtain ⟨cb, hcb⟩ : ∃ cb, checkB ⟨N, co, cn, cc, io, dn, dc, go, gn, gc, ro, rn, rc, bad, cs, ids, gv, gs, rs⟩ = cb := ⟨_, rfl⟩
  obtain ⟨nb, hnb⟩ : ∃ nb, numsB us = nb := ⟨_, rfl⟩
  have HC : Hid (∀ W, Below w.heap.size w W → Calls Try.prog 27 #[.agg #[.int .i64 N, .slice co cn cc, .slice io dn dc, .slice go gn gc, .slice ro rn rc, .bool bad]] W fun e w' => e = .returned (.int .i64 (if cb then 0 else 100)) ∧ Below W.heap.size W w') := fun W hb => hcb ▸ zcheck_any ⟨N, co, cn, cc, io, dn, dc, go, gn, gc, ro, rn, rc, bad, cs, ids, gv, gs, rs⟩ W (HZ.out W hb)
  have HR : Hid (clB ⟨N, co, cn, cc, io, dn, dc, go, gn, gc, ro, rn, rc, bad, cs, ids, gv, gs, rs⟩ us = (cb && !bad && decide ((l : Int) = N + 1) && nb)) := by unfold Hid clB; rw [hcb, hnb, HLN.out.1]
  have HB : Hid (cb = true → bad = false → 1 ≤ N ∧ N ≤ 256) := by
    intro h1 h2
    rw [← hcb] at h1
    unfold checkB at h1
    dsimp only at h1
    rw [h2] at h1
    simp only [Bool.false_eq_true, if_false] at h1
    unfold wholeB at h1
    simp only [Bool.and_eq_true, decide_eq_true_eq] at h1
    exact ⟨h1.1.1.1.1.1.1, h1.1.1.1.1.1.2⟩
  have HN : Hid (l ≤ 1000 → ∀ W, Below w.heap.size w W → Calls Try.prog 28 #[.slice ao l c] W fun e w' => e = .returned (.bool nb) ∧ Below W.heap.size W w') := fun hl W hb => hnb ▸ areNum_any ao l c us hl W (HA.out W hb)
  obtain ⟨R, hR⟩ : ∃ R : Int, (if clB ⟨N, co, cn, cc, io, dn, dc, go, gn, gc, ro, rn, rc, bad, cs, ids, gv, gs, rs⟩ us = true then bcV us gs rn ids m else -1) = R := ⟨_, rfl⟩
  have HRES : Hid ((if clB ⟨N, co, cn, cc, io, dn, dc, go, gn, gc, ro, rn, rc, bad, cs, ids, gv, gs, rs⟩ us = true then bcV us gs rn ids m else -1) = R) := hR
  rw [hR]
  clear hz ha hcb hnb hdn hm hR
  have X0 : Below w.heap.size w (w.alloc (.cells #[.int .i64 N, .slice co cn cc, .slice io dn dc, .slice go gn gc, .slice ro rn rc, .bool bad] 26)) := (Below.refl _ w).alloc (Nat.le_refl _) _
  have Y0 : (w.alloc (.cells #[.int .i64 N, .slice co cn cc, .slice io dn dc, .slice go gn gc, .slice ro rn rc, .bool bad] 26)).heap[w.heap.size]? = some (.cells #[.int .i64 N, .slice co cn cc, .slice io dn dc, .slice go gn gc, .slice ro rn rc, .bool bad] 26) := heap_alloc_new w _
  have S0 : (w.alloc (.cells #[.int .i64 N, .slice co cn cc, .slice io dn dc, .slice go gn gc, .slice ro rn rc, .bool bad] 26)).heap.size = w.heap.size + 1 := by simp
  go_enter Try.func13, Try.ntmps13
  go_upto_region 1 with fail
  obtain ⟨X, hX⟩ : ∃ X, (w.alloc (.cells #[.int .i64 N, .slice co cn cc, .slice io dn dc, .slice go gn gc, .slice ro rn rc, .bool bad] 26)) = X := ⟨_, rfl⟩
  rw [hX] at X0 Y0 S0 ⊢
  clear hX
  go_wp2_with (first | (refine wpList_load_row (by rfl) 26 _ (by rfl) w.heap.size #[.int .i64 N, .slice co cn cc, .slice io dn dc, .slice go gn gc, .slice ro rn rc, .bool bad] (by rfl) Y0 _ Try.underlying26 rfl 6 Try.infoZ (by rfl) ?_))
  refine Calls.mono (HC.out _ X0) ?_
  rintro e w1 ⟨rfl, b1⟩
  have P1 : Hid (Below w.heap.size w w1 ∧ w1.heap[w.heap.size]? = some (.cells #[.int .i64 N, .slice co cn cc, .slice io dn dc, .slice go gn gc, .slice ro rn rc, .bool bad] 26) ∧ w.heap.size < w1.heap.size) := ⟨to_call X0 b1, kept b1 Y0, Nat.lt_of_lt_of_le (by omega) b1.size⟩
  obtain ⟨c0, c1, c2, c3, c4, c5⟩ := cells6 P1.out.2.1
  clear b1 Y0 X0 S0
  cases cb with
  | false =>
    simp only [Bool.false_eq_true, if_false]
    have HQ : Hid (R = -1) := by unfold Hid; rw [← HRES.out, HR.out]; rfl
    go_wp2_with fail
    go_ret
    exact ⟨by rw [HQ.out]; rfl, P1.out.1⟩
  | true =>
    simp only [if_true]
    cases bad with
    | true =>
      have HQ : Hid (R = -1) := by unfold Hid; rw [← HRES.out, HR.out]; rfl
      go_wp2_with fail
      go_ret
      exact ⟨by rw [HQ.out]; rfl, P1.out.1⟩
    | false =>
      obtain ⟨hN1, hN2⟩ := HB.out rfl rfl
      by_cases hl : (l : Int) = N + 1
      · have he : ((l : Int) != N + 1) = false := by simp [hl]
        have hl1000 : l ≤ 1000 := by omega
        have HRL : Hid (clB ⟨N, co, cn, cc, io, dn, dc, go, gn, gc, ro, rn, rc, false, cs, ids, gv, gs, rs⟩ us = nb) := by unfold Hid; rw [HR.out, decide_eq_true hl]; rfl
        have HLL : Hid ((l : Int) = N + 1) := hl
        have hwN : IntKind.i64.wrap (N + 1) = N + 1 := wrI _ (by omega)
        clear hl
        go_wp2_with fail
        refine Calls.mono (HN.out hl1000 _ P1.out.1) ?_
        rintro e w2 ⟨rfl, b2⟩
        have P2 : Hid (Below w.heap.size w w2 ∧ w2.heap[w.heap.size]? = some (.cells #[.int .i64 N, .slice co cn cc, .slice io dn dc, .slice go gn gc, .slice ro rn rc, .bool false] 26) ∧ w.heap.size < w2.heap.size) := ⟨to_call P1.out.1 b2, kept b2 P1.out.2.1, Nat.lt_of_lt_of_le P1.out.2.2 b2.size⟩
        clear P1 b2 c0 c1 c2 c3 c4 c5 hwN he
        cases nb with
        | false =>
          have HQ : Hid (R = -1) := by unfold Hid; rw [← HRES.out, HRL.out]; rfl
          go_wp2_with fail
          go_ret
          exact ⟨by rw [HQ.out]; rfl, P2.out.1⟩
        | true =>
          obtain ⟨h1, h2, h3, h4⟩ := clB_is HRL.out
          have hW : WhF ⟨N, co, cn, cc, io, dn, dc, go, gn, gc, ro, rn, rc, false, cs, ids, gv, gs, rs⟩ := WhF.of (HZ.out w (Below.refl _ _)) HD.out h2
          have hmm := HM.out HRL.out
          have HMM : Hid (m ≤ dn ∧ ∀ j, j < dn → (ids[j]?.getD 0 < k ↔ j < m)) := hmm
          have hdm : dn ≤ 1050000 := HD.out
          have HDG : Hid (dn = gn) := hW.dg
          have HWW : Hid (WhF ⟨N, co, cn, cc, io, dn, dc, go, gn, gc, ro, rn, rc, false, cs, ids, gv, gs, rs⟩ ∧ rn + 1 = l ∧ (∀ u ∈ us, Fin u)) := ⟨hW, by have := HLL.out; have := hW.N; dsimp only at this; omega, h4⟩
          obtain ⟨V, hV⟩ : ∃ V : Nat → Int, (fun j => dvK us gs rn j * ((2 ^ 92 : Nat) : Int)) = V := ⟨_, rfl⟩
          have HV : Hid (∀ j, j < dn → absO (wgK us (gs[j]?.getD []) rn) = some (V j)) := by
            intro j hj
            rw [← hV]
            have h9 := wgK_is (a := 92) (F := 4196) (n := rn) (us := us) (vs := gs[j]?.getD []) rfl rfl (fun i => finsB h4 i) (fun i => hW.fin.g j i) (by have := hW.n2; dsimp only at this; omega) rn (Nat.le_refl _)
            rw [h9]
            show some (((dotV us (gs[j]?.getD []) rn * ((2 ^ 92 : Nat) : Int)).natAbs : Nat) : Int) = _
            rw [Int.natAbs_mul, Int.natAbs_natCast, Int.natCast_mul]
            rfl
          have HVV : Hid (gaK V m = (grK (dvK us gs rn) m).1) := by
            unfold Hid
            rw [gaK_is V m (by intro j _; rw [← hV]; exact Int.mul_nonneg (Int.natCast_nonneg _) (Int.natCast_nonneg _)), ← hV, grK_scale (by exact Int.natCast_pos.2 (Nat.two_pow_pos 92))]
          have T0 : Hid (TuS w2 w2 0 (.slice none 0 0) (fun _ => 0) V) := ⟨Below.refl _ _, World.ownsRow_nil _ _ _ _, fun j hj => absurd hj (by omega), fun j hj => absurd hj (by omega)⟩
          obtain ⟨d0, d1, d2, d3, d4, d5⟩ := cells6 P2.out.2.1
          clear h1 h2 h3 h4 hW hmm hV
          go_wp2_with fail
          clear d0 d1 d2 d3 d4 d5
          go_loopg [7, 34] dn (fun g tv iv wx => ∃ i : Nat, iv = .int .i64 i ∧ i + g = dn ∧ Hid (∃ p, TuS w2 wx (min i m) tv p V))
          case atStart => exact ⟨0, rfl, by omega, _, by rw [Nat.zero_min]; exact T0.out⟩
          case round =>
            clear T0
            obtain ⟨i, rfl, hi, TT⟩ := hrel
            obtain ⟨p, T'⟩ := TT.out
            have P3 : Hid (Below w.heap.size w wr ∧ wr.heap[w.heap.size]? = some (.cells #[.int .i64 N, .slice co cn cc, .slice io dn dc, .slice go gn gc, .slice ro rn rc, .bool false] 26)) := ⟨to_call P2.out.1 T'.b, kept T'.b P2.out.2.1⟩
            by_cases hlt : i < dn
            · have hd : decide ((i : Int) < (dn : Int)) = true := decide_eq_true (by omega)
              obtain ⟨q, rfl⟩ : ∃ q, gk = q + 1 := ⟨gk - 1, by omega⟩
              have HIG : Hid (i + (q + 1) = dn) := hi
              have hlt' : (i : Int) < (dn : Int) := by omega
              have zx := HZ.out _ P3.out.1
              have zi := zx.i
              have zg := zx.g
              dsimp only at zi zg
              rcases zi.cells with h0 | ⟨ib, ioff, eio, hci⟩
              · omega
              rcases zg.cells with h0 | ⟨gb, goff, ego, hcg⟩
              · have := HDG.out; omega
              have gi := hci i hlt
              have hig : i < gn := by rw [← HDG.out]; exact hlt
              have gg := hcg i hig
              have rg := zg.each i hig
              have hgl : (gv i).2.1 = rn := by rw [← rg.length]; exact HWW.out.1.gl i hlt
              obtain ⟨x1, ex1⟩ : ∃ t, (gv i).1 = t := ⟨_, rfl⟩
              obtain ⟨x3, ex3⟩ : ∃ t, (gv i).2.2 = t := ⟨_, rfl⟩
              rw [ex1, ex3, hgl] at rg gg
              have hmi := HMM.out.2 i hlt
              have hvi := HV.out i hlt
              obtain ⟨id, hid⟩ : ∃ id : Int, ids[i]?.getD 0 = id := ⟨_, rfl⟩
              rw [hid] at gi hmi
              have RG : Hid (RdF wr x1 rn x3 (gs[i]?.getD [])) := rg
              have GG : Hid (wr.cell? ⟨gb, goff + i, none⟩ = some (.slice x1 rn x3)) := gg
              have C3 : Hid (wr.cell? ⟨w.heap.size, 3, none⟩ = some (.slice (some ⟨gb, goff, none⟩) gn gc)) := by have h9 := cellAtJ P3.out.2 3 _ rfl; rw [ego] at h9; exact h9
              have HVI : Hid (absO (wgK us (gs[i]?.getD []) rn) = some (V i)) := hvi
              have hig' : (i : Int) < (gn : Int) := by omega
              subst eio ego
              clear zx zi zg hci hcg rg gg hgl ex1 ex3 hi hid hvi
              by_cases him : i < m
              · have hik2 : decide (id < k) = true := decide_eq_true (hmi.2 him)
                have emi : min i m = i := by omega
                rw [emi] at T'
                have T : Hid (TuS w2 wr i u7 p V) := T'
                have hbw : w2.heap.size ≤ wr.heap.size := T'.b.size
                have c3 := C3.out
                have cg := GG.out
                clear hmi T' TT
                go_wp2_with (first
                  | (go_at_call 29; refine Calls.mono (turn_any ao x1 l c rn x3 us _ (by have := HWW.out.2.1; omega) HWW.out.2.2 _ (HA.out _ P3.out.1) RG.out) ?_; rintro e w5 ⟨rfl, a5, b5, s5⟩)
                  | (at_builtin; refine append_gr1M Try.underlying72 Try.infoPA rfl (by decide) w5 (by rfl) _ _ (by rfl) w2.heap.size u7 (pnL p i) (by rfl) (by rw [pnL_len]; exact owns_keep T.out.o fun k hk => b5.block k (World.ownsRow.lt T.out.o k hk).2) (.pointer (some ⟨wr.heap.size, 0, none⟩)) (by rfl) rfl (by rw [pnL_len]; omega) (Nat.le_trans hbw b5.size) ?_; intro v6 w6 o6 g6))
                have T2 : Hid (∃ p, TuS w2 w6 (min (i + 1) m) v6 p V) := by
                  rw [HVI.out] at a5
                  have h9 := T.out.step b5 a5 s5 o6 g6
                  unfold Hid
                  rw [show min (i + 1) m = i + 1 by omega]
                  exact ⟨_, h9⟩
                clear T P3 C3 GG RG HVI a5 b5 s5 o6 g6 c3 cg hbw
                go_roundg q
                case measure => omega
                case rel => exact ⟨i + 1, by go_num, by have := HIG.out; omega, T2⟩
              · have hik2 : decide (id < k) = false := decide_eq_false (fun h => him (hmi.1 h))
                have T2 : Hid (∃ p, TuS w2 wr (min (i + 1) m) u7 p V) := ⟨p, by rw [show min (i + 1) m = min i m by omega]; exact T'⟩
                clear hmi T' TT P3 C3 GG RG HVI
                go_wp2_with fail
                go_roundg q
                case measure => omega
                case rel => exact ⟨i + 1, by go_num, by have := HIG.out; omega, T2⟩
            · have hd : decide ((i : Int) < (dn : Int)) = false := decide_eq_false (by omega)
              have hd' : decide (i < dn) = false := decide_eq_false (by omega)
              have emi : min i m = m := by have := HMM.out.1; omega
              rw [emi] at T'
              obtain ⟨ta, tc, rfl, hacl⟩ := T'.acl
              have HAB : Hid (Calls Try.prog 30 #[.slice ta m tc] wr fun e w' => e = .returned (.int .i64 (gaK V m)) ∧ Below wr.heap.size wr w') := above_any ta m tc p V wr hacl
              obtain ⟨t, ht⟩ : ∃ t, gaK V m = t := ⟨_, rfl⟩
              have HT : Hid ((grK (dvK us gs rn) m).1 = t) := by unfold Hid; rw [← HVV.out]; exact ht
              have hr := grK_pos (dvK us gs rn) m
              rw [HT.out] at hr
              have hmdn := HMM.out.1
              have HBV : Hid (bcV us gs rn ids m = if t < 0 then -1 else ids[t.toNat]?.getD 0) := by unfold Hid bcV; rw [HT.out]
              rw [ht] at HAB
              clear T' TT hacl hi ht
              go_wp2_with fail
              refine Calls.mono HAB.out ?_
              rintro e w7 ⟨rfl, b7⟩
              have P7 : Hid (Below w.heap.size w w7 ∧ w7.heap[w.heap.size]? = some (.cells #[.int .i64 N, .slice co cn cc, .slice io dn dc, .slice go gn gc, .slice ro rn rc, .bool false] 26)) := ⟨to_call P3.out.1 b7, kept b7 P3.out.2⟩
              clear P3 b7 HAB
              by_cases h0 : t < 0
              · have f0 : decide (t < 0) = true := decide_eq_true h0
                rw [if_pos h0] at HBV
                clear h0 hr
                have HQ : Hid (R = -1) := by unfold Hid; rw [← HRES.out, HRL.out, if_pos rfl, HBV.out]
                go_wp2_with fail
                go_ret
                exact ⟨by rw [HQ.out]; rfl, P7.out.1⟩
              · have f0 : decide (t < 0) = false := decide_eq_false h0
                rw [if_neg h0] at HBV
                obtain ⟨T, rfl⟩ : ∃ T : Nat, t = T := ⟨t.toNat, by omega⟩
                rw [Int.toNat_natCast] at HBV
                have hT : T < dn := by omega
                have hT' : (T : Int) < (dn : Int) := by omega
                have zi := (HZ.out _ P7.out.1).i
                dsimp only at zi
                rcases zi.cells with h0 | ⟨ib, ioff, eio, hci⟩
                · omega
                have gi := hci T hT
                have C2 : w7.cell? ⟨w.heap.size, 2, none⟩ = some (.slice (some ⟨ib, ioff, none⟩) dn dc) := by have h9 := cellAtJ P7.out.2 2 _ rfl; rw [eio] at h9; exact h9
                obtain ⟨id, hid⟩ : ∃ id : Int, ids[T]?.getD 0 = id := ⟨_, rfl⟩
                rw [hid] at gi HBV
                clear h0 hr hci hid zi
                have HQ : Hid (R = id) := by unfold Hid; rw [← HRES.out, HRL.out, if_pos rfl, HBV.out]
                go_wp2_with fail
                go_ret
                exact ⟨by rw [HQ.out]; rfl, P7.out.1⟩
      · have he : ((l : Int) != N + 1) = true := by simp [hl]
        have hwN : IntKind.i64.wrap (N + 1) = N + 1 := wrI _ (by omega)
        have HRL : Hid (clB ⟨N, co, cn, cc, io, dn, dc, go, gn, gc, ro, rn, rc, false, cs, ids, gv, gs, rs⟩ us = false) := by unfold Hid; rw [HR.out, decide_eq_false hl]; rfl
        clear hl
        have HQ : Hid (R = -1) := by unfold Hid; rw [← HRES.out, HRL.out]; rfl
        go_wp2_with fail
        go_ret
        exact ⟨by rw [HQ.out]; rfl, P1.out.1⟩
end Go.Proofs.Ytoehhnildocihaa
