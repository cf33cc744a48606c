import Derived.Deep.CutBlock
import Derived.Deep.QuietTactic
import Derived.BigQuiet
import Derived.Test.YtaloaholmhcflaaMLj
namespace Go.Proofs.Ytaloaholmhcflaa
open Go.RowKit Go.Shelf
set_option linter.unusedVariables false
set_option linter.unusedSimpArgs false
theorem Try.infoPL : (Try.prog.info? 28).map (·.size) = some 7 := by kernel_rfl
theorem and15 (n : Int) : ∃ N : Nat, bits .and .i64 n 15 = (N : Int) ∧ N ≤ 15 := by
  have h1 : (BitVec.ofInt 64 15).toNat = 2 ^ 4 - 1 := by decide
  have h2 : (BitVec.ofInt 64 n &&& BitVec.ofInt 64 15).toNat = (BitVec.ofInt 64 n).toNat % 2 ^ 4 := by
    rw [BitVec.toNat_and, h1, Nat.and_two_pow_sub_one_eq_mod]
  have h3 : (BitVec.ofInt 64 n).toNat % 2 ^ 4 < 16 := Nat.mod_lt _ (by decide)
  refine ⟨(BitVec.ofInt 64 n).toNat % 2 ^ 4, ?_, by omega⟩
  show IntKind.i64.wrap ((BitVec.ofInt 64 n &&& BitVec.ofInt 64 15).toNat : Nat) = _
  rw [h2]
  exact wrV _ (by omega)
theorem Try.allocRP (w : World) : (Instr.alloc 36 true (.tuple #[])).run Try.prog w = .ok (.pointer (some ⟨w.heap.size, 0, none⟩)) (w.alloc (.cells #[.slice none 0 0, .slice none 0 0, .int .i64 0, .slice none 0 0, .int .i64 0, .int .i64 0, .int .i64 0] 36)) := by kernel_rfl
theorem put_noneP {P : Program} {md : Region.Mode} {ops : Array Oper} {Q : Exit → Act → World → Prop} {S : World → Prop} {s fuel : Nat} {l : Array Bool} {a : Act} {dst : Option Tmp} {v : Value} {w : World} (hd : dst = none) (h : wpAnyP P md ops Q S s fuel l a w) : wpAnyP P md ops Q S s fuel l (a.put dst v) w := by subst hd; exact h
theorem ex_load1B {P : Program} {ρ : Operand → Value} (o : Oper) (ty : TypeId) (p : Operand) (ho : o.op = .load ty p) (A : Addr) (hp : ρ p = .pointer (some A)) (w : World) (v : Value) (h : w.cell? A = some v) (hag : ∀ w, (isAgg ty).run P w = .ok false w) : (execOp ρ o).run P w = .ok (.value v) w := by
  unfold execOp
  simp only [ho, hp]
  simp [go_sem, hag, h, Result.andThen]
theorem colsB_drop (z : ZD) : ∀ (m k : Nat) (last : Int), k + m = z.dn → (colsB z last ((List.finRange z.dn).drop k) = true ↔ ∀ j : Nat, k ≤ j → j < z.dn → (if j = k then last else z.ids[j - 1]?.getD 0) < z.ids[j]?.getD 0 ∧ z.ids[j]?.getD 0 ≤ 1073741824 ∧ numN (z.gs[j]?.getD []) z.N = true)
  | 0, k, last, h => by
    rw [List.drop_of_length_le (by rw [List.length_finRange]; omega)]
    exact ⟨fun _ j h1 h2 => by omega, fun _ => rfl⟩
  | m + 1, k, last, h => by
    have hk : k < (List.finRange z.dn).length := by rw [List.length_finRange]; omega
    rw [List.drop_eq_getElem_cons hk]
    have ih := colsB_drop z m (k + 1) (z.ids[k]?.getD 0) (by omega)
    have hst : colsB z last ((List.finRange z.dn)[k] :: (List.finRange z.dn).drop (k + 1)) = (colOk z last (List.finRange z.dn)[k] && colsB z (idZ z (List.finRange z.dn)[k]) ((List.finRange z.dn).drop (k + 1))) := rfl
    have he : ((List.finRange z.dn)[k]).val = k := by simp
    have hid : idZ z (List.finRange z.dn)[k] = z.ids[k]?.getD 0 := by unfold idZ; rw [he]
    rw [hst, Bool.and_eq_true, hid, ih]
    unfold colOk
    rw [hid, he]
    simp only [Bool.and_eq_true, decide_eq_true_eq]
    constructor
    · rintro ⟨⟨⟨a1, a2⟩, a3⟩, a4⟩ j h1 h2
      by_cases e : j = k
      · subst e; rw [if_pos rfl]; exact ⟨a1, a2, a3⟩
      · have := a4 j (by omega) h2
        rw [if_neg e]
        by_cases e' : j = k + 1
        · subst e'; rw [if_pos rfl] at this; rw [Nat.add_sub_cancel]; exact this
        · rw [if_neg e'] at this; exact this
    · intro H
      have h0 := H k (Nat.le_refl _) (by omega)
      rw [if_pos rfl] at h0
      refine ⟨⟨⟨h0.1, h0.2.1⟩, h0.2.2⟩, fun j h1 h2 => ?_⟩
      have := H j (by omega) h2
      rw [if_neg (by omega)] at this
      by_cases e' : j = k + 1
      · subst e'; rw [if_pos rfl]; rw [Nat.add_sub_cancel] at this; exact this
      · rw [if_neg e']; exact this
theorem wholeB_ids {z : ZD} (h : wholeB z = true) : ∀ j, j < z.dn → 0 ≤ z.ids[j]?.getD 0 := by
  unfold wholeB at h
  simp only [Bool.and_eq_true] at h
  have h1 := (colsB_drop z z.dn 0 (-1) (by omega)).1 (by rw [List.drop_zero]; exact h.2)
  intro j
  induction j with
  | zero =>
    intro hj
    have h2 := (h1 0 (Nat.le_refl _) hj).1
    rw [if_pos rfl] at h2
    omega
  | succ j ih =>
    intro hj
    have h2 := (h1 (j + 1) (Nat.zero_le _) hj).1
    rw [if_neg (Nat.succ_ne_zero j), Nat.add_sub_cancel] at h2
    have h3 := ih (by omega)
    omega
theorem ofL_mono {w : World} {base b2 : Nat} {cs rs : List Nat} {ids : List Int} {gs : List (List Nat)} {vc vr vi vg : Value} {gl : List Value} (h : OfL w base cs rs ids gs vc vr vi vg gl) (hb : b2 ≤ base) : OfL w b2 cs rs ids gs vc vr vi vg gl := ⟨owns_monoJ h.c hb, owns_monoJ h.r hb, owns_monoJ h.i hb, owns_monoJ h.g hb, h.len, fun j u hj => owns_monoJ (h.col j u hj) hb⟩
theorem cl_w {m t : Int} {ls : List (List Nat)} (h : clL m t ls ≠ []) : m.toNat + 1 ≤ 257 := by
  unfold clL at h
  split at h
  · rename_i h0
    obtain ⟨h1, h2, h3, h4, h5, h6⟩ := mayE_ok h0
    omega
  · exact absurd rfl h
theorem flL_rdc {W : World} {base nw : Nat} {cl : List (List Nat)} {vg : Value} {gl : List Value} (h : FlL W base cl vg gl) (hr : ∀ us ∈ cl, us.length = nw ∧ ∀ u ∈ us, u < 18446744073709551616) (hw : cl ≠ [] → nw ≤ 257) : ∃ (go : Option Addr) (gc : Nat) (gv : Nat → Option Addr × Nat × Nat), vg = .slice go cl.length gc ∧ RdGs W go cl.length gc gv cl ∧ ∀ j, j < cl.length → (gv j).2.1 ≤ 1050000 := by
  obtain ⟨go, gc, gv, e, r, hn⟩ := h.rd fun us hu => (hr us hu).2
  refine ⟨go, gc, gv, e, r, fun j hj => ?_⟩
  rw [hn j hj, List.getElem?_eq_getElem hj]
  have h1 := (hr _ (List.getElem_mem hj)).1
  have h2 := hw (fun h0 => by rw [h0] at hj; exact absurd hj (Nat.not_lt_zero _))
  show (cl[j]).length ≤ 1050000
  omega
theorem zrow_all (u : ZD) : (zRow u).all (·.oneCell') = true := by unfold zRow; simp [Value.oneCell']
set_option maxRecDepth 100000 in
set_option maxHeartbeats 20000000 in
theorem marginLent_walk (z : ZD) (co go lo : Option Addr) (cn cc gn gc ln lc : Nat) (gvg gvl : Nat → Option Addr × Nat × Nat) (cs : List Nat) (gs ls : List (List Nat)) (t K D L : Int) (m k : Int) (w : World)
    (hz : ZR w z) (hzw : ZW z) (hdn : z.dn ≤ 1048576) (hc : RdF w co cn cc cs) (hg : RdGs w go gn gc gvg gs) (hl : RdGs w lo ln lc gvl ls) (hcn : cn ≤ 1050000) (hgn : gn ≤ 1050000) (hln : ln ≤ 1050000) (hgl : ∀ k, k < gn → (gvg k).2.1 ≤ 1050000) (hll : ∀ k, k < ln → (gvl k).2.1 ≤ 1050000) :
    Calls Try.prog 3 #[.agg (zRow z), .agg #[.slice co cn cc, .slice go gn gc, .int .i64 t, .slice lo ln lc, .int .i64 K, .int .i64 D, .int .i64 L], .int .i64 m, .int .i64 k] w fun e w' => e = .returned (.bool true) ∧ Below w.heap.size w w' := by
  have HZ : Hid (∀ W, Below w.heap.size w W → ZR W z) := fun W hb => hz.later hb
  have HOF : Hid (∀ W, Below w.heap.size w W → Calls Try.prog 5 #[.agg (zRow z)] W fun e w' => ∃ u : ZD, e = .returned (.agg (zRow u)) ∧ ZU w' u ∧ SmZ u z ∧ Below W.heap.size W w') := fun W hb => ofU z W (hz.later hb) hzw
  have HOP : Hid (∀ W, Below w.heap.size w W → _) := fun W hb => ofPropA_any co go lo cn cc gn gc ln lc gvg gvl cs gs ls t K D L W (hc.later hb) (hg.later hb) (hl.later hb) hcn hgn hln hgl hll
  have HCL : Hid (∀ W, Below w.heap.size w W → _) := fun W hb => claims17_any co go lo cn cc gn gc ln lc gvl ls t K D L m W (hl.later hb) hln
  have HLT : Hid (∀ us ∈ ls, ∀ u ∈ us, u < 18446744073709551616) := fun us hu u hu' => by
    obtain ⟨j, hj, e⟩ := List.mem_iff_getElem.1 hu
    have h1 := (hl.each j (by rw [← hl.length]; exact hj)).lt u
    rw [List.getElem?_eq_getElem hj, e] at h1
    exact h1 hu'
  have HLN : Hid (ls.length = ln) := hl.length
  have X0 : Below w.heap.size w ((w.alloc (.cells (zRow z) 26)).alloc (.cells #[.slice co cn cc, .slice go gn gc, .int .i64 t, .slice lo ln lc, .int .i64 K, .int .i64 D, .int .i64 L] 28)) := ((Below.refl _ w).alloc (Nat.le_refl _) _).alloc (by simp only [alloc_size]; omega) _
  have Y0 : ((w.alloc (.cells (zRow z) 26)).alloc (.cells #[.slice co cn cc, .slice go gn gc, .int .i64 t, .slice lo ln lc, .int .i64 K, .int .i64 D, .int .i64 L] 28)).heap[w.heap.size]? = some (.cells (zRow z) 26) := alloc_kept (heap_alloc_new w _) _
  have Y1 : ((w.alloc (.cells (zRow z) 26)).alloc (.cells #[.slice co cn cc, .slice go gn gc, .int .i64 t, .slice lo ln lc, .int .i64 K, .int .i64 D, .int .i64 L] 28)).heap[w.heap.size + 1]? = some (.cells #[.slice co cn cc, .slice go gn gc, .int .i64 t, .slice lo ln lc, .int .i64 K, .int .i64 D, .int .i64 L] 28) := heap_at _ _ _ (by simp only [alloc_size])
  clear hz hc hg hl hgl hll
  go_enter Try.func3, Try.ntmps3
  go_upto_region 1 with fail
  obtain ⟨X, hX⟩ : ∃ X, ((w.alloc (.cells (zRow z) 26)).alloc (.cells #[.slice co cn cc, .slice go gn gc, .int .i64 t, .slice lo ln lc, .int .i64 K, .int .i64 D, .int .i64 L] 28)) = X := ⟨_, rfl⟩
  rw [hX] at X0 Y0 Y1 ⊢
  have HX : Hid (Below w.heap.size w X ∧ X.heap[w.heap.size]? = some (.cells (zRow z) 26) ∧ X.heap[w.heap.size + 1]? = some (.cells #[.slice co cn cc, .slice go gn gc, .int .i64 t, .slice lo ln lc, .int .i64 K, .int .i64 D, .int .i64 L] 28)) := ⟨X0, Y0, Y1⟩
  clear hX X0 Y0 Y1
  obtain ⟨a0, a1, a2, a3, a4, a5⟩ := cells6 HX.out.2.1
  obtain ⟨b0, b1, b2, b3, b4, b5, b6⟩ := cells7L HX.out.2.2
  by_cases hL : 70 < ln
  · have e1 : decide ((ln : Int) > 70) = true := decide_eq_true (by omega)
    have e2 : decide ((70 : Int) < (ln : Int)) = true := decide_eq_true (by omega)
    have e3 : decide (70 < ln) = true := decide_eq_true hL
    clear a0 a1 a3 a4 a5 b0 b1 b2 b4 b5 b6
    go_wp2_with (first | (go_at_call 4; refine Calls.mono (awake_any _) ?_; rintro e w1 ⟨rfl, b1⟩))
    go_ret
    exact ⟨rfl, to_call HX.out.1 b1⟩
  · have e1 : decide ((ln : Int) > 70) = false := decide_eq_false (by omega)
    have e2 : decide ((70 : Int) < (ln : Int)) = false := decide_eq_false (by omega)
    have e3 : decide (70 < ln) = false := decide_eq_false hL
    by_cases hD : 100 < z.dn
    · have f1 : decide ((z.dn : Int) > 100) = true := decide_eq_true (by omega)
      have f2 : decide ((100 : Int) < (z.dn : Int)) = true := decide_eq_true (by omega)
      have f3 : decide (100 < z.dn) = true := decide_eq_true hD
      go_wp2_with (first | (go_at_call 4; refine Calls.mono (awake_any _) ?_; rintro e w1 ⟨rfl, b1⟩))
      go_ret
      exact ⟨rfl, to_call HX.out.1 b1⟩
    · have f1 : decide ((z.dn : Int) > 100) = false := decide_eq_false (by omega)
      have f2 : decide ((100 : Int) < (z.dn : Int)) = false := decide_eq_false (by omega)
      have f3 : decide (100 < z.dn) = false := decide_eq_false hD
      go_upto_region 3 with fail
      clear a0 a1 a2 a3 a4 a5 b0 b1 b2 b3 b4 b5 b6 e1 e2 e3 f1 f2 f3
      go_upto_region 4 with (first
        | (refine wpList_load_row (by rfl) 26 _ (by rfl) w.heap.size _ (by rfl) HX.out.2.1 _ Try.underlying26 rfl 6 Try.infoZL (by rfl) ?_)
        | (go_at_call 5; refine Calls.mono (HOF.out _ HX.out.1) ?_; rintro e w1 ⟨u, rfl, hu, hsm, b1⟩; have q1 := (Below.refl _ w1).alloc (Nat.le_refl _) (.cells #[.int .i64 0, .slice none 0 0, .slice none 0 0, .slice none 0 0, .slice none 0 0, .bool false] 33))
        | (refine wpList_store_row (by rfl) 33 _ _ (by rfl) w1 w1.heap.size w1.heap.size (zRow u) _ (by rfl) (by rfl) (heap_alloc_new w1 _) q1 (Nat.le_refl _) 6 Try.infoZu rfl rfl (zrow_all u) ?_; intro P Y1 A1 s9 o9))
      obtain ⟨B9, hB⟩ : ∃ b, w1.heap.size = b := ⟨_, rfl⟩
      rw [hB] at Y1
      have bP : Below X.heap.size X P := to_call b1 A1
      have HP : Hid ((Below w.heap.size w P ∧ P.heap[w.heap.size]? = some (.cells (zRow z) 26) ∧ P.heap[w.heap.size + 1]? = some (.cells #[.slice co cn cc, .slice go gn gc, .int .i64 t, .slice lo ln lc, .int .i64 K, .int .i64 D, .int .i64 L] 28)) ∧ P.heap[B9]? = some (.cells (zRow u) 33) ∧ ZU P u ∧ SmZ u z) := ⟨⟨to_call HX.out.1 bP, kept bP HX.out.2.1, kept bP HX.out.2.2⟩, Y1, hu.later A1, hsm⟩
      rw [hB]
      clear hB Y1 A1 bP hu hsm b1 q1 s9 o9 HX
      try simp only [Act.put, List.setIfInBounds_toArray, List.set_cons_zero, List.set_cons_succ]
      go_upto_region 5 with (first
        | (refine wpList_load_row (by rfl) 28 _ (by rfl) (w.heap.size + 1) _ (by rfl) HP.out.1.2.2 _ Try.underlying28 rfl 7 Try.infoPL (by rfl) ?_)
        | (go_at_call 6; refine Calls.mono (HOP.out _ HP.out.1.1) ?_; rintro e w1 ⟨⟨o1, o2, o3, c1, c2, c3, gv2, gv3, rfl, hq⟩, b1⟩; have q1 := (Below.refl _ w1).alloc (Nat.le_refl _) (.cells #[.slice none 0 0, .slice none 0 0, .int .i64 0, .slice none 0 0, .int .i64 0, .int .i64 0, .int .i64 0] 36))
        | (refine wpList_store_row (by rfl) 36 _ _ (by rfl) w1 w1.heap.size w1.heap.size #[.slice o1 cn c1, .slice o2 gn c2, .int .i64 t, .slice o3 ln c3, .int .i64 K, .int .i64 D, .int .i64 L] _ (by rfl) (by rfl) (heap_alloc_new w1 _) q1 (Nat.le_refl _) 7 Try.infoRefPropM rfl rfl (one7M _ _ _ _ _ _ _ _ _ _ _ _ _) ?_; intro Q Y1 A1 s9 o9))
      obtain ⟨B10, hB⟩ : ∃ b, w1.heap.size = b := ⟨_, rfl⟩
      rw [hB] at Y1
      have bQ : Below P.heap.size P Q := to_call b1 A1
      have HQ : Hid (((Below w.heap.size w Q ∧ Q.heap[w.heap.size]? = some (.cells (zRow z) 26) ∧ Q.heap[w.heap.size + 1]? = some (.cells #[.slice co cn cc, .slice go gn gc, .int .i64 t, .slice lo ln lc, .int .i64 K, .int .i64 D, .int .i64 L] 28)) ∧ Q.heap[B9]? = some (.cells (zRow u) 33) ∧ ZU Q u ∧ SmZ u z) ∧ Q.heap[B10]? = some (.cells #[.slice o1 cn c1, .slice o2 gn c2, .int .i64 t, .slice o3 ln c3, .int .i64 K, .int .i64 D, .int .i64 L] 36) ∧ RdUs Q o1 cn c1 cs ∧ RdGu Q o2 gn c2 gv2 gs ∧ RdGu Q o3 ln c3 gv3 ls) := ⟨⟨⟨to_call HP.out.1.1 bQ, kept bQ HP.out.1.2.1, kept bQ HP.out.1.2.2⟩, kept bQ HP.out.2.1, HP.out.2.2.1.later bQ, HP.out.2.2.2⟩, Y1, hq.out.1.later A1, hq.out.2.1.later A1, hq.out.2.2.later A1⟩
      rw [hB]
      clear hB Y1 A1 bQ hq b1 q1 s9 o9 HP
      try simp only [Act.put, List.setIfInBounds_toArray, List.set_cons_zero, List.set_cons_succ]
      obtain ⟨kk, hkk, hk15⟩ := and15 k
      go_upto_region 6 with fail
      try rw [hkk]
      clear hkk
      have HR : Hid ((∀ us ∈ clL m t ls, us.length = m.toNat + 1 ∧ ∀ u ∈ us, u < 18446744073709551616) ∧ (clL m t ls ≠ [] → m.toNat + 1 ≤ 257) ∧ (clL m t ls).length ≤ 326) := ⟨clL_row HLT.out, cl_w, by have h1 := clL_len (m := m) (t := t) (ls := ls); have h2 := HLN.out; omega⟩
      obtain ⟨cl, hcl⟩ : ∃ c, clL m t ls = c := ⟨_, rfl⟩
      obtain ⟨nw, hnw⟩ : ∃ n, m.toNat + 1 = n := ⟨_, rfl⟩
      have hnw0 : 0 < nw := by omega
      obtain ⟨er, her⟩ : ∃ n, mayE m t ls = n := ⟨_, rfl⟩
      rw [hcl, hnw] at HR
      rw [hcl, her] at HCL
      clear hcl her hnw
      go_upto_region 7 with (first
        | (refine wpList_load_row (by rfl) 28 _ (by rfl) (w.heap.size + 1) _ (by rfl) HQ.out.1.1.2.2 _ Try.underlying28 rfl 7 Try.infoPL (by rfl) ?_)
        | (go_at_call 7; refine Calls.mono (HCL.out _ HQ.out.1.1.1) ?_; rintro e W1 ⟨⟨vg, ga, rfl, hf⟩, b1⟩; obtain ⟨oa, ca, gva, rfl, ra, hla⟩ := flL_rdc hf.out HR.out.1 HR.out.2.1))
      have HA : Hid (Below Q.heap.size Q W1 ∧ Below w.heap.size w W1 ∧ FlL W1 Q.heap.size cl (.slice oa cl.length ca) ga ∧ RdGs W1 oa cl.length ca gva cl ∧ ∀ j, j < cl.length → (gva j).2.1 ≤ 1050000) := ⟨b1, to_call HQ.out.1.1.1 b1, hf.out, ra, hla⟩
      clear b1 hf ra hla
      have hpp := kept HA.out.1 HQ.out.1.1.2.2
      go_upto_region 8 with (first
        | (refine wpList_load_row (by rfl) 28 _ (by rfl) (w.heap.size + 1) _ (by rfl) hpp _ Try.underlying28 rfl 7 Try.infoPL (by rfl) ?_)
        | (go_at_call 7; refine Calls.mono (HCL.out _ HA.out.2.1) ?_; rintro e W2 ⟨⟨vg, gb, rfl, hf⟩, b1⟩; obtain ⟨ob, cb, gvb, rfl, rb, hlb⟩ := flL_rdc hf.out HR.out.1 HR.out.2.1))
      have HB : Hid (Below W1.heap.size W1 W2 ∧ Below w.heap.size w W2 ∧ FlL W2 W1.heap.size cl (.slice ob cl.length cb) gb ∧ RdGs W2 ob cl.length cb gvb cl ∧ (∀ j, j < cl.length → (gvb j).2.1 ≤ 1050000)) := ⟨b1, to_call HA.out.2.1 b1, hf.out, rb, hlb⟩
      clear b1 hf rb hlb hpp
      have HRA : Hid (∀ W, Below W2.heap.size W2 W → RdGs W oa cl.length ca gva cl) := fun W hb => (HA.out.2.2.2.1.later HB.out.1).later hb
      have HRB : Hid (∀ W, Below W2.heap.size W2 W → RdGs W ob cl.length cb gvb cl) := fun W hb => HB.out.2.2.2.1.later hb
      have hcl3 : cl.length ≤ 1050000 := by have h1 := HR.out.2.2; omega
      have hee : decide (er = er) = true := decide_eq_true rfl
      go_wp2_with fail
      refine Calls.mono (lists_any oa cl.length ca gva cl _ (HRA.out _ (Below.refl _ _)) hcl3 HA.out.2.2.2.2) ?_
      rintro e W3 ⟨⟨o4, c4, gv4, rfl, h4⟩, b3⟩
      go_wp2_with fail
      refine Calls.mono (lists_any ob cl.length cb gvb cl _ (HRB.out _ b3) hcl3 HB.out.2.2.2.2) ?_
      rintro e W4 ⟨⟨o5, c5, gv5, rfl, h5⟩, b4⟩
      go_wp2_with fail
      refine Calls.mono (sameLists6_any _ _ _ _ _ _ _ _ _ (h4.out.later b4) h5.out) ?_
      rintro e W5 ⟨rfl, b5⟩
      go_upto_region 10 with fail
      have b9 := to_call (to_call b3 b4) b5
      clear h4 h5 b3 b4 b5 hee
      try simp only [Act.put, List.setIfInBounds_toArray, List.set_cons_zero, List.set_cons_succ]
      have HW5 : Hid (Below W2.heap.size W2 W5) := b9
      have HQ5 : Hid (W5.heap[B10]? = some (.cells #[.slice o1 cn c1, .slice o2 gn c2, .int .i64 t, .slice o3 ln c3, .int .i64 K, .int .i64 D, .int .i64 L] 36)) := kept (to_call (to_call HA.out.1 HB.out.1) b9) HQ.out.2.1
      clear b9
      go_cut [15] (fun v15 wx => ∃ (DW : Nat) (o6 : Option Addr) (c6 : Nat) (g6 : List Value), v15 = .pointer (some ⟨DW, 0, none⟩) ∧ Hid (Below W5.heap.size W5 wx ∧ W5.heap.size ≤ DW ∧ wx.heap[DW]? = some (.cells #[.slice none 0 0, .slice none 0 0, .int .i64 t, .slice o6 cl.length c6, .int .i64 0, .int .i64 0, .int .i64 0] 36) ∧ OfL wx W5.heap.size [] [] [] cl (.slice none 0 0) (.slice none 0 0) (.slice none 0 0) (.slice o6 cl.length c6) g6))
      case rest =>
        obtain ⟨DW, o6, c6, g6, rfl, HW⟩ := hcut
        obtain ⟨Wb, hWb⟩ : ∃ W, wc = W := ⟨_, rfl⟩
        rw [hWb] at HW ⊢
        clear hWb
        have HWb : Hid (∀ W, Below Wb.heap.size Wb W → Below W2.heap.size W2 W) := fun W hb => to_call (to_call HW5.out HW.out.1) hb
        go_upto_block 0 with fail
        go_cut [16] (fun v16 wx => ∃ (n : Nat) (gI : Nat → Nat), n ≤ 20 ∧ Hid (Below Wb.heap.size Wb wx ∧ wx.ownsRow Wb.heap.size 23 1 v16 (n) (slL gI (fun _ => kk) kk (n)) ∧ (∀ j, j < n → ∃ xs, OwV wx Wb.heap.size 3 (gI j) kk kk xs) ∧ ∀ x y, x < n → y < n → gI x = gI y → x = y))
        case first =>
          go_wp2_with fail
          go_loopg [16, 17] (min cl.length 10) (fun g v16 v17 wx => ∃ (i : Nat) (gI : Nat → Nat), v17 = .int .i64 i ∧ i + g = min cl.length 10 ∧ Hid (Below Wb.heap.size Wb wx ∧ wx.ownsRow Wb.heap.size 23 1 v16 (2 * i) (slL gI (fun _ => kk) kk (2 * i)) ∧ (∀ j, j < 2 * i → ∃ xs, OwV wx Wb.heap.size 3 (gI j) kk kk xs) ∧ ∀ x y, x < 2 * i → y < 2 * i → gI x = gI y → x = y))
          case atStart => exact ⟨0, fun _ => 0, rfl, by omega, ⟨Below.refl _ _, World.ownsRow_nil _ _ _ _, (fun j h => absurd h (Nat.not_lt_zero _)), fun x y h => absurd h (Nat.not_lt_zero _)⟩⟩
          case round =>
            obtain ⟨i, gI, rfl, hi, HL⟩ := hrel
            by_cases hlk : i < min cl.length 10
            · have hlt : i < cl.length := by omega
              have hd : decide ((i : Int) < (cl.length : Int)) = true := decide_eq_true (by omega)
              have hd4 : decide ((i : Int) < 10) = true := decide_eq_true (by omega)
              obtain ⟨q, rfl⟩ : ∃ q, gk = q + 1 := ⟨gk - 1, by omega⟩
              have HIG : Hid (i + (q + 1) = min cl.length 10) := hi
              have rx := HRA.out _ (HWb.out _ HL.out.1)
              rcases rx.cells with h0 | ⟨gb, goff, ego, hcg⟩
              · omega
              subst ego
              have gg := hcg i hlt
              have rg := rx.each i hlt
              obtain ⟨us, hus⟩ : ∃ u, cl[i]?.getD [] = u := ⟨_, rfl⟩
              obtain ⟨x1, ex1⟩ : ∃ t, (gva i).1 = t := ⟨_, rfl⟩
              obtain ⟨x2, ex2⟩ : ∃ t, (gva i).2.1 = t := ⟨_, rfl⟩
              obtain ⟨x3, ex3⟩ : ∃ t, (gva i).2.2 = t := ⟨_, rfl⟩
              rw [ex1, ex2, ex3] at rg gg
              rw [hus] at rg
              have hbw : Below Q.heap.size Q wr := to_call (to_call HA.out.1 HB.out.1) (HWb.out _ HL.out.1)
              have HGG : Hid (wr.cell? ⟨gb, goff + i, none⟩ = some (.slice x1 x2 x3) ∧ RdF wr x1 x2 x3 us ∧ wr.heap[w.heap.size]? = some (.cells (zRow z) 26) ∧ ZR wr z) := ⟨gg, rg, kept hbw HQ.out.1.1.2.1, HZ.out _ (to_call HQ.out.1.1.1 hbw)⟩
              clear rx hcg gg rg ex1 ex2 ex3 hus hbw
              go_upto_region 15 with fail
              refine wp_region_noPanic ?_
              refine wp_region_held_drew (S := fun V => Below wr.heap.size wr V) (by kernel_rfl) ((Below.refl _ wr).drew) (fun _ => ?_)
              have SQ : Below wr.heap.size wr wr.drew := (Below.refl _ wr).drew
              refine takeH 77 (i := 0) (v := .agg (zRow z)) rfl rfl (by kernel_rfl) (by kernel_rfl) (by kernel_rfl) (fun _ _ _ h => h) (Or.inl ⟨by kernel_rfl, fun w' hSw => ex_loadRN _ 26 _ rfl w.heap.size (by kernel_rfl) w' _ (kept hSw HGG.out.2.2.1) _ Try.underlying26 rfl 6 Try.infoZL rfl⟩) SQ ?_
              try simp only [Act.put, List.setIfInBounds_toArray, List.set_cons_zero, List.set_cons_succ]
              refine takeH 78 (i := 1) (v := ?_) rfl rfl (by kernel_rfl) (by kernel_rfl) (by kernel_rfl) (fun _ _ _ h => h) (Or.inl ⟨by kernel_rfl, ?_⟩) SQ ?_
              rotate_left
              · intro w' hSw; go_simp; try with_reducible rfl
              try simp only [Act.put, List.setIfInBounds_toArray, List.set_cons_zero, List.set_cons_succ]
              refine takeH 79 (i := 2) (v := ?_) rfl rfl (by kernel_rfl) (by kernel_rfl) (by kernel_rfl) (fun _ _ _ h => h) (Or.inl ⟨by kernel_rfl, ?_⟩) SQ ?_
              rotate_left
              · intro w' hSw; go_simp; try with_reducible rfl
              try simp only [Act.put, List.setIfInBounds_toArray, List.set_cons_zero, List.set_cons_succ]
              refine takeH 80 (i := 3) (v := ?_) rfl rfl (by kernel_rfl) (by kernel_rfl) (by kernel_rfl) (fun _ _ _ h => h) (Or.inl ⟨by kernel_rfl, ?_⟩) SQ ?_
              rotate_left
              · intro w' hSw; go_simp; try with_reducible rfl
              try simp only [Act.put, List.setIfInBounds_toArray, List.set_cons_zero, List.set_cons_succ]
              refine takeH 81 (i := 4) (v := .slice x1 x2 x3) rfl rfl (by kernel_rfl) (by kernel_rfl) (by kernel_rfl) (fun _ _ _ h => h) (Or.inl ⟨by kernel_rfl, fun w' hSw => ex_load1B _ _ _ rfl ⟨gb, goff + i, none⟩ (by kernel_rfl) w' _ (by rw [hSw.cell (World.block_lt_of_cell? _ _ HGG.out.1)]; exact HGG.out.1) (fun w => by kernel_rfl)⟩) SQ ?_
              try simp only [Act.put, List.setIfInBounds_toArray, List.set_cons_zero, List.set_cons_succ]
              refine takeH 82 (i := 5) (v := ?_) rfl rfl (by kernel_rfl) (by kernel_rfl) (by kernel_rfl) (fun _ _ _ h => h) (Or.inl ⟨by kernel_rfl, ?_⟩) SQ ?_
              rotate_left
              · intro w' hSw; go_simp; try with_reducible rfl
              try simp only [Act.put, List.setIfInBounds_toArray, List.set_cons_zero, List.set_cons_succ]
              refine wpAnyH_ready (rs := [6]) (by kernel_rfl) (by simp) ?_
              refine consH _ rfl (hopCd 83 rfl (by kernel_rfl) rfl (by kernel_rfl) (Calls.mono (signs_any z x1 x2 x3 us (kk : Int) _ (HGG.out.2.2.2.later SQ) (Nat.le_trans hdn (by decide)) (HGG.out.2.1.later SQ) wholeB_ids) ?_)) AllReadyH.nil
              rintro e V1 ⟨⟨s1, n1, rfl, hs1⟩, k1⟩
              have SQ := to_call SQ k1
              clear k1
              refine ⟨_, rfl, SQ, ?_⟩
              try simp only [Act.put, List.setIfInBounds_toArray, List.set_cons_zero, List.set_cons_succ]
              refine takeH 18 (i := 7) (v := ?_) rfl rfl (by kernel_rfl) (by kernel_rfl) (by kernel_rfl) (fun _ _ _ h => h) (Or.inl ⟨by kernel_rfl, ?_⟩) SQ ?_
              rotate_left
              · intro w' hSw; go_simp; try with_reducible rfl
              try simp only [Act.put, List.setIfInBounds_toArray, List.set_cons_zero, List.set_cons_succ]
              refine wpAnyH_done (by kernel_rfl) ?_ _
              refine NoPanic.normal ?_
              try simp only [Act.put, List.setIfInBounds_toArray, List.set_cons_zero, List.set_cons_succ]
              have HV1 : Hid (Below wr.heap.size wr V1 ∧ SgR z us (kk : Int) wr.drew.heap.size V1 s1 n1 ∧ V1.cell? ⟨gb, goff + i, none⟩ = some (.slice x1 x2 x3) ∧ RdF V1 x1 x2 x3 us ∧ V1.heap[w.heap.size]? = some (.cells (zRow z) 26) ∧ ZR V1 z) := ⟨SQ, hs1, by rw [SQ.cell (World.block_lt_of_cell? _ _ HGG.out.1)]; exact HGG.out.1, HGG.out.2.1.later SQ, kept SQ HGG.out.2.2.1, HGG.out.2.2.2.later SQ⟩
              clear SQ hs1 HGG
              go_upto_region 16 with fail
              refine wp_region_noPanic ?_
              refine wp_region_held_drew (S := fun V => Below V1.heap.size V1 V) (by kernel_rfl) ((Below.refl _ V1).drew) (fun _ => ?_)
              have SQ : Below V1.heap.size V1 V1.drew := (Below.refl _ V1).drew
              refine takeH 84 (i := 0) (v := .agg (zRow z)) rfl rfl (by kernel_rfl) (by kernel_rfl) (by kernel_rfl) (fun _ _ _ h => h) (Or.inl ⟨by kernel_rfl, fun w' hSw => ex_loadRN _ 26 _ rfl w.heap.size (by kernel_rfl) w' _ (kept hSw HV1.out.2.2.2.2.1) _ Try.underlying26 rfl 6 Try.infoZL rfl⟩) SQ ?_
              try simp only [Act.put, List.setIfInBounds_toArray, List.set_cons_zero, List.set_cons_succ]
              refine takeH 85 (i := 1) (v := ?_) rfl rfl (by kernel_rfl) (by kernel_rfl) (by kernel_rfl) (fun _ _ _ h => h) (Or.inl ⟨by kernel_rfl, ?_⟩) SQ ?_
              rotate_left
              · intro w' hSw; go_simp; try with_reducible rfl
              try simp only [Act.put, List.setIfInBounds_toArray, List.set_cons_zero, List.set_cons_succ]
              refine takeH 86 (i := 2) (v := ?_) rfl rfl (by kernel_rfl) (by kernel_rfl) (by kernel_rfl) (fun _ _ _ h => h) (Or.inl ⟨by kernel_rfl, ?_⟩) SQ ?_
              rotate_left
              · intro w' hSw; go_simp; try with_reducible rfl
              try simp only [Act.put, List.setIfInBounds_toArray, List.set_cons_zero, List.set_cons_succ]
              refine takeH 87 (i := 3) (v := ?_) rfl rfl (by kernel_rfl) (by kernel_rfl) (by kernel_rfl) (fun _ _ _ h => h) (Or.inl ⟨by kernel_rfl, ?_⟩) SQ ?_
              rotate_left
              · intro w' hSw; go_simp; try with_reducible rfl
              try simp only [Act.put, List.setIfInBounds_toArray, List.set_cons_zero, List.set_cons_succ]
              refine takeH 88 (i := 4) (v := .slice x1 x2 x3) rfl rfl (by kernel_rfl) (by kernel_rfl) (by kernel_rfl) (fun _ _ _ h => h) (Or.inl ⟨by kernel_rfl, fun w' hSw => ex_load1B _ _ _ rfl ⟨gb, goff + i, none⟩ (by kernel_rfl) w' _ (by rw [hSw.cell (World.block_lt_of_cell? _ _ HV1.out.2.2.1)]; exact HV1.out.2.2.1) (fun w => by kernel_rfl)⟩) SQ ?_
              try simp only [Act.put, List.setIfInBounds_toArray, List.set_cons_zero, List.set_cons_succ]
              refine takeH 89 (i := 5) (v := ?_) rfl rfl (by kernel_rfl) (by kernel_rfl) (by kernel_rfl) (fun _ _ _ h => h) (Or.inl ⟨by kernel_rfl, ?_⟩) SQ ?_
              rotate_left
              · intro w' hSw; go_simp; try with_reducible rfl
              try simp only [Act.put, List.setIfInBounds_toArray, List.set_cons_zero, List.set_cons_succ]
              refine wpAnyH_ready (rs := [6]) (by kernel_rfl) (by simp) ?_
              refine consH _ rfl (hopCd 90 rfl (by kernel_rfl) rfl (by kernel_rfl) (Calls.mono (signs_any z x1 x2 x3 us (kk : Int) _ (HV1.out.2.2.2.2.2.later SQ) (Nat.le_trans hdn (by decide)) (HV1.out.2.2.2.1.later SQ) wholeB_ids) ?_)) AllReadyH.nil
              rintro e V2 ⟨⟨s2, n2, rfl, hs2⟩, k1⟩
              have SQ := to_call SQ k1
              clear k1
              refine ⟨_, rfl, SQ, ?_⟩
              try simp only [Act.put, List.setIfInBounds_toArray, List.set_cons_zero, List.set_cons_succ]
              refine takeH 19 (i := 7) (v := ?_) rfl rfl (by kernel_rfl) (by kernel_rfl) (by kernel_rfl) (fun _ _ _ h => h) (Or.inl ⟨by kernel_rfl, ?_⟩) SQ ?_
              rotate_left
              · intro w' hSw; go_simp; try with_reducible rfl
              try simp only [Act.put, List.setIfInBounds_toArray, List.set_cons_zero, List.set_cons_succ]
              refine wpAnyH_done (by kernel_rfl) ?_ _
              refine NoPanic.normal ?_
              try simp only [Act.put, List.setIfInBounds_toArray, List.set_cons_zero, List.set_cons_succ]
              obtain ⟨e1, B1, e2, lB1, OB1⟩ := sg_own hk15 HV1.out.2.1
              obtain ⟨e3, B2, e4, lB2, OB2⟩ := sg_own hk15 hs2
              have R1 := HV1.out.2.1.rd
              have R2 := hs2.rd
              replace e1 := e1.symm
              replace e3 := e3.symm
              subst e1
              subst e2
              subst e3
              subst e4
              obtain ⟨SS, hSS⟩ : ∃ l, (if 0 ≤ (kk : Int) ∧ (kk : Int) ≤ 256 then sgL z us (kk : Int).toNat else []) = l := ⟨_, rfl⟩
              rw [hSS] at R1 R2
              clear hSS
              have HSS : Hid (RdIs V2 (some ⟨B1, 0, none⟩) kk kk SS ∧ RdIs V2 (some ⟨B2, 0, none⟩) kk kk SS) := ⟨R1.later SQ, R2⟩
              have HL2 : Hid (Below Wb.heap.size Wb V2 ∧ V2.ownsRow Wb.heap.size 23 1 u16 (2 * i) (slL gI (fun _ => kk) kk (2 * i)) ∧ (∀ j, j < 2 * i → ∃ xs, OwV V2 Wb.heap.size 3 (gI j) kk kk xs) ∧ (∀ x y, x < 2 * i → y < 2 * i → gI x = gI y → x = y) ∧ (∃ xs, OwV V2 Wb.heap.size 3 B1 kk kk xs) ∧ (∃ xs, OwV V2 Wb.heap.size 3 B2 kk kk xs) ∧ (∀ j, j < 2 * i → gI j < B1) ∧ B1 < B2) := by
                have q1 := HV1.out.1
                have q2 := to_call q1 SQ
                have qb := HL.out.1.size
                refine ⟨to_call HL.out.1 q2, owns_keep HL.out.2.1 fun k e => q2.block k (World.ownsRow.lt HL.out.2.1 k e).2, fun j hj => ?_, HL.out.2.2.2, ⟨_, (OB1.later SQ).mono qb⟩, ⟨_, OB2.mono (Nat.le_trans qb q1.size)⟩, fun j hj => ?_, ?_⟩
                · obtain ⟨xs, h⟩ := HL.out.2.2.1 j hj; exact ⟨xs, h.later q2⟩
                · obtain ⟨xs, h⟩ := HL.out.2.2.1 j hj; exact Nat.lt_of_lt_of_le h.lt lB1
                · exact Nat.lt_of_lt_of_le OB1.lt lB2
              clear HV1 hs2 OB1 OB2 lB1 lB2 R1 R2 HL SQ
              have hss : decide (SS = SS) = true := decide_eq_true rfl
              go_upto_region 17 with fail
              go_upto_region 19 with (first
                | (go_at_call 11; refine Calls.mono (sameIntsM_any _ _ _ _ _ _ _ _ _ HSS.out.1 HSS.out.2) ?_; rintro e w7 ⟨rfl, b7⟩))
              have A7 : Below w7.heap.size w7 (w7.alloc (.cells #[.slice (some ⟨B1, 0, none⟩) kk kk, .slice (some ⟨B2, 0, none⟩) kk kk] 23)) := (Below.refl _ w7).alloc (Nat.le_refl _) _
              have N8 : Hid ((w7.alloc (.cells #[.slice (some ⟨B1, 0, none⟩) kk kk, .slice (some ⟨B2, 0, none⟩) kk kk] 23)).heap[w7.heap.size]? = some (.cells #[.slice (some ⟨B1, 0, none⟩) kk kk, .slice (some ⟨B2, 0, none⟩) kk kk] 23)) := heap_alloc_new w7 _
              have A8 : Below V2.heap.size V2 (w7.alloc (.cells #[.slice (some ⟨B1, 0, none⟩) kk kk, .slice (some ⟨B2, 0, none⟩) kk kk] 23)) := to_call b7 A7
              have HL3 : Hid (Below Wb.heap.size Wb (w7.alloc (.cells #[.slice (some ⟨B1, 0, none⟩) kk kk, .slice (some ⟨B2, 0, none⟩) kk kk] 23)) ∧ (w7.alloc (.cells #[.slice (some ⟨B1, 0, none⟩) kk kk, .slice (some ⟨B2, 0, none⟩) kk kk] 23)).ownsRow Wb.heap.size 23 1 u16 (2 * i) (slL gI (fun _ => kk) kk (2 * i)) ∧ (∀ j, j < 2 * i → ∃ xs, OwV (w7.alloc (.cells #[.slice (some ⟨B1, 0, none⟩) kk kk, .slice (some ⟨B2, 0, none⟩) kk kk] 23)) Wb.heap.size 3 (gI j) kk kk xs) ∧ (∃ xs, OwV (w7.alloc (.cells #[.slice (some ⟨B1, 0, none⟩) kk kk, .slice (some ⟨B2, 0, none⟩) kk kk] 23)) Wb.heap.size 3 B1 kk kk xs) ∧ (∃ xs, OwV (w7.alloc (.cells #[.slice (some ⟨B1, 0, none⟩) kk kk, .slice (some ⟨B2, 0, none⟩) kk kk] 23)) Wb.heap.size 3 B2 kk kk xs)) :=
                ⟨to_call HL2.out.1 A8, owns_keep HL2.out.2.1 fun k e => A8.block k (World.ownsRow.lt HL2.out.2.1 k e).2, fun j hj => by obtain ⟨xs, h⟩ := HL2.out.2.2.1 j hj; exact ⟨xs, h.later A8⟩, by obtain ⟨xs, h⟩ := HL2.out.2.2.2.2.1; exact ⟨xs, h.later A8⟩, by obtain ⟨xs, h⟩ := HL2.out.2.2.2.2.2.1; exact ⟨xs, h.later A8⟩⟩
              clear A7 A8 b7 HSS hss
              have hi20 : 2 * i + 2 ≤ 4000000 := by omega
              go_wp2_with (first
                | (at_builtin; refine append_gsJ Try.underlying43 Try.infoIsV rfl (by decide) (by decide) _ (by rfl) _ _ (by rfl) Wb.heap.size _ (2 * i) (slL gI (fun _ => kk) kk (2 * i)) (by rfl) HL3.out.2.1 ⟨w7.heap.size, 0, none⟩ 2 2 [.slice (some ⟨B1, 0, none⟩) kk kk, .slice (some ⟨B2, 0, none⟩) kk kk] (by rfl) rfl (news_twoV N8.out) (one_twoV _ _ rfl rfl) hi20 HL3.out.1.size ?_; intro v6 w6 o6 g6))
              have HL4 : Hid (Below Wb.heap.size Wb w6 ∧ w6.ownsRow Wb.heap.size 23 1 v6 (2 * (i + 1)) (slL (fun k => if k < 2 * i then gI k else if k = 2 * i then B1 else B2) (fun _ => kk) kk (2 * (i + 1))) ∧ (∀ j, j < 2 * (i + 1) → ∃ xs, OwV w6 Wb.heap.size 3 ((fun k => if k < 2 * i then gI k else if k = 2 * i then B1 else B2) j) kk kk xs) ∧ ∀ x y, x < 2 * (i + 1) → y < 2 * (i + 1) → (fun k => if k < 2 * i then gI k else if k = 2 * i then B1 else B2) x = (fun k => if k < 2 * i then gI k else if k = 2 * i then B1 else B2) y → x = y) := by
                have gt := grw_types HL3.out.2.1 g6
                have ow : ∀ {b : Nat}, (∃ xs, OwV (w7.alloc (.cells #[.slice (some ⟨B1, 0, none⟩) kk kk, .slice (some ⟨B2, 0, none⟩) kk kk] 23)) Wb.heap.size 3 b kk kk xs) → ∃ xs, OwV w6 Wb.heap.size 3 b kk kk xs := fun h => by obtain ⟨xs, h⟩ := h; exact ⟨xs, h.types (by decide) gt⟩
                have o7 := o6
                rw [slL_push2] at o7
                have tw := own_two (fun j hj => ow (HL3.out.2.2.1 j hj)) HL2.out.2.2.2.1 (ow HL3.out.2.2.2.1) (ow HL3.out.2.2.2.2) HL2.out.2.2.2.2.2.2.1 HL2.out.2.2.2.2.2.2.2
                exact ⟨HL3.out.1.trans (g6.below (fun k hk => (World.ownsRow.lt HL3.out.2.1 k hk).1) HL3.out.1.size), o7, tw.1, tw.2⟩
              clear o6 g6 N8 HL2 HL3 hi20
              go_roundg q
              case measure => omega
              case rel => exact ⟨i + 1, _, by go_num, by have := HIG.out; omega, HL4⟩
            · by_cases hlt : i < cl.length
              · have hd : decide ((i : Int) < (cl.length : Int)) = true := decide_eq_true (by omega)
                have hd4 : decide ((i : Int) < 10) = false := decide_eq_false (by omega)
                go_wp2_with fail
                go_meet
                exact ⟨2 * i, gI, by omega, HL⟩
              · have hd : decide ((i : Int) < (cl.length : Int)) = false := decide_eq_false (by omega)
                have hd3 : decide (i < cl.length) = false := decide_eq_false hlt
                go_wp2_with fail
                go_meet
                exact ⟨2 * i, gI, by omega, HL⟩
        case rest =>
          obtain ⟨n2, gI, hn2, HL⟩ := hcut
          obtain ⟨io, ic, hio⟩ := own_slice2 HL.out.2.1
          subst hio
          obtain ⟨n1, hn1, hn2', hr1⟩ : ∃ n1, 0 < n1 ∧ n1 ≤ 257 ∧ ∀ us ∈ cl, us.length = n1 := by
            by_cases h : cl = []
            · exact ⟨1, by omega, by omega, by rw [h]; intro us hu; cases hu⟩
            · exact ⟨nw, hnw0, HR.out.2.1 h, fun us hu => (HR.out.1 us hu).1⟩
          have BQ : Below Q.heap.size Q wc := to_call (to_call HA.out.1 HB.out.1) (HWb.out _ HL.out.1)
          have B2w : Below W2.heap.size W2 wc := HWb.out _ HL.out.1
          obtain ⟨g, c, C0, eg, og, ig⟩ := FlL.fam2 HA.out.2.2.1 HB.out.2.2.1 HA.out.1.size HB.out.1 B2w hn1 hr1
          obtain ⟨D0, hD0⟩ := exD HL.out.2.2.1
          have HWc : Hid (wc.heap[DW]? = some (.cells #[.slice none 0 0, .slice none 0 0, .int .i64 t, .slice o6 cl.length c6, .int .i64 0, .int .i64 0, .int .i64 0] 36) ∧ OfL wc W5.heap.size [] [] [] cl (.slice none 0 0) (.slice none 0 0) (.slice none 0 0) (.slice o6 cl.length c6) g6) := ⟨kept HL.out.1 HW.out.2.2.1, HW.out.2.2.2.later HL.out.1⟩
          have HLg : Hid (ga.length = cl.length ∧ gb.length = cl.length) := ⟨HA.out.2.2.1.len, HB.out.2.2.1.len⟩
          have OA : Hid (wc.ownsRow Q.heap.size 22 1 (.slice oa cl.length ca) cl.length ga) := by
            have h := (FlL.later (HA.out.2.2.1.later HB.out.1) B2w).g
            rw [HLg.out.1] at h
            exact h
          have OB : Hid (wc.ownsRow W1.heap.size 22 1 (.slice ob cl.length cb) cl.length gb) := by
            have h := (HB.out.2.2.1.later B2w).g
            rw [HLg.out.2] at h
            exact h
          have one : Hid (∀ u ∈ ga ++ gb, u.oneCell' = true) := by unfold Hid; rw [eg]; exact slL_oneV _ _ _ _
          have HMK : Hid (∀ W bl lo lc, Below wc.heap.size wc W → W.ownsRow bl 22 1 (.slice lo (cl.length + cl.length) lc) (cl.length + cl.length) (ga ++ gb) → Calls Try.prog 12 #[.slice lo (cl.length + cl.length) lc, .slice io n2 ic] W fun e w' => e = .returned (.bool true) ∧ Below Q.heap.size W w' ∧ ∀ (k : Nat) (cur : Array Value) (t : TypeId), t ≠ 50 → t ≠ 3 → W.heap[k]? = some (.cells cur t) → w'.heap[k]? = W.heap[k]?) := fun W bl lo lc hb ho => by
            have h20 : cl.length + cl.length ≤ 2000 := by have := HR.out.2.2; omega
            rw [eg] at ho
            have hqb : Q.heap.size ≤ Wb.heap.size := (to_call (to_call (to_call HA.out.1 HB.out.1) HW5.out) HW.out.1).size
            have oF : ∀ k, k < cl.length + cl.length → OwV W Q.heap.size 50 (g k) n1 (c k) (C0 k) := fun k hk => (og k hk).later hb
            have oI : ∀ k, k < n2 → OwV W Q.heap.size 3 (gI k) kk kk (D0 k) := fun k hk => ((hD0 k hk).mono hqb).later hb
            refine Calls.mono (marked_any (cl.length + cl.length) n2 n1 kk Q.heap.size g c gI (fun _ => kk) lo io lc ic bl Wb.heap.size C0 D0 W h20 (by omega) (by omega) (by omega) (to_call BQ hb).size ho (owns_keep HL.out.2.1 fun k e => hb.block k (World.ownsRow.lt HL.out.2.1 k e).2) oF ig oI HL.out.2.2.2) ?_
            rintro e w' ⟨he, b1, k1⟩
            refine ⟨he, b1, fun k cur t h1 h2 h3 => k1 k (blk_lt h3) (fun i hi => ?_) (fun i hi => ?_)⟩
            · rintro rfl
              obtain ⟨_, _, _, _, cu, h4, _⟩ := (oF i hi).get
              rw [h4] at h3
              injection h3 with h3
              injection h3 with _ h3
              exact h1 h3.symm
            · rintro rfl
              obtain ⟨_, _, _, _, cu, h4, _⟩ := (oI i hi).get
              rw [h4] at h3
              injection h3 with h3
              injection h3 with _ h3
              exact h2 h3.symm
          clear eg og ig hD0 C0 D0 hn1 hn2' hr1 B2w
          have hcl6 : cl.length ≤ 326 := HR.out.2.2
          go_upto_region 20 with fail
          refine wp_region_noPanic ?_
          refine wp_region_held_drew (S := fun V => Below Q.heap.size Q V) (by kernel_rfl) (BQ.drew) (fun _ => ?_)
          have SQ : Below Q.heap.size Q wc.drew := BQ.drew
          have SW : Below wc.heap.size wc wc.drew := (Below.refl _ wc).drew
          refine takeH 107 (i := 1) (v := ?_) rfl rfl (by kernel_rfl) (by kernel_rfl) (by kernel_rfl) (fun _ _ _ h => h) (Or.inl ⟨by kernel_rfl, ?_⟩) SQ ?_
          rotate_left
          · intro w' hSw; go_simp; try with_reducible rfl
          try simp only [Act.put, List.setIfInBounds_toArray, List.set_cons_zero, List.set_cons_succ]
          refine takeH 109 (i := 3) (v := ?_) rfl rfl (by kernel_rfl) (by kernel_rfl) (by kernel_rfl) (fun _ _ _ h => h) (Or.inl ⟨by kernel_rfl, ?_⟩) SQ ?_
          rotate_left
          · intro w' hSw; go_simp; try with_reducible rfl
          try simp only [Act.put, List.setIfInBounds_toArray, List.set_cons_zero, List.set_cons_succ]
          refine takeH 111 (i := 5) (v := ?_) rfl rfl (by kernel_rfl) (by kernel_rfl) (by kernel_rfl) (fun _ _ _ h => h) (Or.inl ⟨by kernel_rfl, ?_⟩) SQ ?_
          rotate_left
          · intro w' hSw; go_simp; try with_reducible rfl
          try simp only [Act.put, List.setIfInBounds_toArray, List.set_cons_zero, List.set_cons_succ]
          refine wpAnyH_ready (rs := [0]) (by kernel_rfl) (by simp) ?_
          refine consH _ rfl (hopB0 106 22 rfl rfl rfl (ex_bsV _ 24 0 #[] rfl #[] (by kernel_rfl) _ _ _ (Try.bsF0 _)) fun I0 V0 ow0 k0 => ?_) AllReadyH.nil
          have SQ := to_call SQ k0
          have SW := to_call SW k0
          clear k0
          refine ⟨SQ, ?_⟩
          try simp only [Act.put, List.setIfInBounds_toArray, List.set_cons_zero, List.set_cons_succ]
          refine wpAnyH_ready (rs := [2]) (by kernel_rfl) (by simp) ?_
          have na := own_news (owns_keep OA.out fun k e => SW.block k (World.ownsRow.lt OA.out k e).2)
          refine consH _ rfl (hopL rfl (append_gnJ Try.underlying24 Try.infoFsV rfl (by decide) (by decide) V0 (by rfl) _ _ (by rfl) wc.heap.size (.slice (some ⟨I0, 0, none⟩) 0 0) 0 [] (by kernel_rfl) ow0 oa cl.length ca ga (by kernel_rfl) na.1 na.2.1 na.2.2 (fun u hu => one.out u (List.mem_append.2 (.inl hu))) (by omega) SW.size fun v1 V1 ox1 gx1 => ?_)) AllReadyH.nil
          have kx1 : Below wc.heap.size wc V1 := SW.trans (gx1.below (fun k e => (World.ownsRow.lt ow0 k e).1) SW.size)
          have SQ : Below Q.heap.size Q V1 := to_call BQ kx1
          refine put_someL 108 rfl ?_
          refine ⟨SQ, ?_⟩
          try simp only [Act.put, List.setIfInBounds_toArray, List.set_cons_zero, List.set_cons_succ]
          simp only [List.nil_append, Nat.zero_add] at ox1
          clear ow0 gx1 SW na
          refine wpAnyH_ready (rs := [4]) (by kernel_rfl) (by simp) ?_
          have nb := own_news (owns_keep OB.out fun k e => kx1.block k (World.ownsRow.lt OB.out k e).2)
          refine consH _ rfl (hopL rfl (append_gnJ Try.underlying24 Try.infoFsV rfl (by decide) (by decide) V1 (by rfl) _ _ (by rfl) wc.heap.size v1 cl.length ga (by kernel_rfl) ox1 ob cl.length cb gb (by kernel_rfl) nb.1 nb.2.1 nb.2.2 (fun u hu => one.out u (List.mem_append.2 (.inr hu))) (by omega) kx1.size fun v2 V2 ox2 gx2 => ?_)) AllReadyH.nil
          have kx2 : Below wc.heap.size wc V2 := kx1.trans (gx2.below (fun k e => (World.ownsRow.lt ox1 k e).1) kx1.size)
          have SQ : Below Q.heap.size Q V2 := to_call BQ kx2
          refine put_someL 110 rfl ?_
          refine ⟨SQ, ?_⟩
          try simp only [Act.put, List.setIfInBounds_toArray, List.set_cons_zero, List.set_cons_succ]
          obtain ⟨l2, lc2, hl2⟩ := own_slice2 ox2
          subst hl2
          have HWc2 : Hid (V2.heap[DW]? = some (.cells #[.slice none 0 0, .slice none 0 0, .int .i64 t, .slice o6 cl.length c6, .int .i64 0, .int .i64 0, .int .i64 0] 36) ∧ OfL V2 W5.heap.size [] [] [] cl (.slice none 0 0) (.slice none 0 0) (.slice none 0 0) (.slice o6 cl.length c6) g6) := ⟨kept kx2 HWc.out.1, HWc.out.2.later kx2⟩
          refine wpAnyH_ready (rs := [6]) (by kernel_rfl) (by simp) ?_
          refine consH _ rfl (hopCd 112 rfl (by kernel_rfl) rfl (by kernel_rfl) (Calls.mono (HMK.out V2 wc.heap.size l2 lc2 kx2 ox2) ?_)) AllReadyH.nil
          rintro e V3 ⟨rfl, k3, u3⟩
          have SQ := SQ.trans k3
          refine ⟨_, rfl, SQ, ?_⟩
          try simp only [Act.put, List.setIfInBounds_toArray, List.set_cons_zero, List.set_cons_succ]
          have HW3 : Hid (V3.heap[DW]? = some (.cells #[.slice none 0 0, .slice none 0 0, .int .i64 t, .slice o6 cl.length c6, .int .i64 0, .int .i64 0, .int .i64 0] 36) ∧ OfL V3 W5.heap.size [] [] [] cl (.slice none 0 0) (.slice none 0 0) (.slice none 0 0) (.slice o6 cl.length c6) g6) := ⟨(u3 _ _ _ (by decide) (by decide) HWc2.out.1).trans HWc2.out.1, HWc2.out.2.keepU u3⟩
          clear u3 k3 HWc2 HWc kx1 kx2 ox1 ox2 gx2 nb OA OB one HMK
          refine takeH 113 (i := 7) (v := ?_) rfl rfl (by kernel_rfl) (by kernel_rfl) (by kernel_rfl) (fun _ _ _ h => h) (Or.inl ⟨by kernel_rfl, ?_⟩) SQ ?_
          rotate_left
          · intro w' hSw; go_simp; try with_reducible rfl
          try simp only [Act.put, List.setIfInBounds_toArray, List.set_cons_zero, List.set_cons_succ]
          refine takeH 114 (i := 8) (v := ?_) rfl rfl (by kernel_rfl) (by kernel_rfl) (by kernel_rfl) (fun _ _ _ h => h) (Or.inl ⟨by kernel_rfl, ?_⟩) SQ ?_
          rotate_left
          · intro w' hSw; go_simp; try with_reducible rfl
          try simp only [Act.put, List.setIfInBounds_toArray, List.set_cons_zero, List.set_cons_succ]
          refine takeH 115 (i := 9) (v := .agg #[.slice o1 cn c1, .slice o2 gn c2, .int .i64 t, .slice o3 ln c3, .int .i64 K, .int .i64 D, .int .i64 L]) rfl rfl (by kernel_rfl) (by kernel_rfl) (by kernel_rfl) (fun _ _ _ h => h) (Or.inl ⟨by kernel_rfl, fun w' hSw => ex_loadRN _ 36 _ rfl B10 (by kernel_rfl) w' _ (kept hSw HQ.out.2.1) _ Try.underlying36 rfl 7 Try.infoRefPropM rfl⟩) SQ ?_
          try simp only [Act.put, List.setIfInBounds_toArray, List.set_cons_zero, List.set_cons_succ]
          refine takeH 116 (i := 10) (v := .agg #[.slice co cn cc, .slice go gn gc, .int .i64 t, .slice lo ln lc, .int .i64 K, .int .i64 D, .int .i64 L]) rfl rfl (by kernel_rfl) (by kernel_rfl) (by kernel_rfl) (fun _ _ _ h => h) (Or.inl ⟨by kernel_rfl, fun w' hSw => ex_loadRN _ 28 _ rfl (w.heap.size + 1) (by kernel_rfl) w' _ (kept hSw HQ.out.1.1.2.2) _ Try.underlying28 rfl 7 Try.infoPL rfl⟩) SQ ?_
          try simp only [Act.put, List.setIfInBounds_toArray, List.set_cons_zero, List.set_cons_succ]
          refine wpAnyH_ready (rs := [11]) (by kernel_rfl) (by simp) ?_
          refine consH _ rfl (hopCd 117 rfl (by kernel_rfl) rfl (by kernel_rfl) (Calls.mono (HOP.out _ (to_call HQ.out.1.1.1 SQ)) ?_)) AllReadyH.nil
          rintro e V4 ⟨⟨p1, p2, p3, d1, d2, d3, hv2, hv3, rfl, hq4⟩, k4⟩
          have SQ := to_call SQ k4
          refine ⟨_, rfl, SQ, ?_⟩
          try simp only [Act.put, List.setIfInBounds_toArray, List.set_cons_zero, List.set_cons_succ]
          refine wpAnyH_ready (rs := [12]) (by kernel_rfl) (by simp) ?_
          refine consH _ rfl (hopCd 118 rfl (by kernel_rfl) rfl (by kernel_rfl) (Calls.mono (samePropA_any o1 o2 o3 p1 p2 p3 cn gn ln c1 c2 c3 d1 d2 d3 gv2 gv3 hv2 hv3 cs gs ls t K D L _ (HQ.out.2.2.1.later SQ) (HQ.out.2.2.2.1.later SQ) (HQ.out.2.2.2.2.later SQ) hq4.out.1 hq4.out.2.1 hq4.out.2.2) ?_)) AllReadyH.nil
          rintro e V5 ⟨rfl, k5⟩
          have SQ := to_call SQ k5
          refine ⟨_, rfl, SQ, ?_⟩
          try simp only [Act.put, List.setIfInBounds_toArray, List.set_cons_zero, List.set_cons_succ]
          clear hq4
          refine takeH 119 (i := 13) (v := ?_) rfl rfl (by kernel_rfl) (by kernel_rfl) (by kernel_rfl) (fun _ _ _ h => h) (Or.inl ⟨by kernel_rfl, ?_⟩) SQ ?_
          rotate_left
          · intro w' hSw; go_simp; try with_reducible rfl
          try simp only [Act.put, List.setIfInBounds_toArray, List.set_cons_zero, List.set_cons_succ]
          refine takeH 120 (i := 14) (v := ?_) rfl rfl (by kernel_rfl) (by kernel_rfl) (by kernel_rfl) (fun _ _ _ h => h) (Or.inl ⟨by kernel_rfl, ?_⟩) SQ ?_
          rotate_left
          · intro w' hSw; go_simp; try with_reducible rfl
          try simp only [Act.put, List.setIfInBounds_toArray, List.set_cons_zero, List.set_cons_succ]
          refine takeH 121 (i := 15) (v := ?_) rfl rfl (by kernel_rfl) (by kernel_rfl) (by kernel_rfl) (fun _ _ _ h => h) (Or.inl ⟨by kernel_rfl, ?_⟩) SQ ?_
          rotate_left
          · intro w' hSw; go_simp; try with_reducible rfl
          try simp only [Act.put, List.setIfInBounds_toArray, List.set_cons_zero, List.set_cons_succ]
          refine takeH 122 (i := 16) (v := .agg (zRow u)) rfl rfl (by kernel_rfl) (by kernel_rfl) (by kernel_rfl) (fun _ _ _ h => h) (Or.inl ⟨by kernel_rfl, fun w' hSw => ex_loadRN _ 33 _ rfl B9 (by kernel_rfl) w' _ (kept hSw HQ.out.1.2.1) _ Try.underlying33 rfl 6 Try.infoZu rfl⟩) SQ ?_
          try simp only [Act.put, List.setIfInBounds_toArray, List.set_cons_zero, List.set_cons_succ]
          refine takeH 123 (i := 17) (v := .agg (zRow z)) rfl rfl (by kernel_rfl) (by kernel_rfl) (by kernel_rfl) (fun _ _ _ h => h) (Or.inl ⟨by kernel_rfl, fun w' hSw => ex_loadRN _ 26 _ rfl w.heap.size (by kernel_rfl) w' _ (kept hSw HQ.out.1.1.2.1) _ Try.underlying26 rfl 6 Try.infoZL rfl⟩) SQ ?_
          try simp only [Act.put, List.setIfInBounds_toArray, List.set_cons_zero, List.set_cons_succ]
          refine wpAnyH_ready (rs := [18]) (by kernel_rfl) (by simp) ?_
          refine consH _ rfl (hopCd 124 rfl (by kernel_rfl) rfl (by kernel_rfl) (Calls.mono (sameZono_any u z _ (HQ.out.1.2.2.1.later SQ) (HZ.out _ (to_call HQ.out.1.1.1 SQ)) HQ.out.1.2.2.2) ?_)) AllReadyH.nil
          rintro e V6 ⟨rfl, k6⟩
          have SQ := to_call SQ k6
          refine ⟨_, rfl, SQ, ?_⟩
          try simp only [Act.put, List.setIfInBounds_toArray, List.set_cons_zero, List.set_cons_succ]
          have k46 := to_call (to_call k4 k5) k6
          have HW6 : Hid (V6.heap[DW]? = some (.cells #[.slice none 0 0, .slice none 0 0, .int .i64 t, .slice o6 cl.length c6, .int .i64 0, .int .i64 0, .int .i64 0] 36) ∧ OfL V6 W5.heap.size [] [] [] cl (.slice none 0 0) (.slice none 0 0) (.slice none 0 0) (.slice o6 cl.length c6) g6) := ⟨kept k46 HW3.out.1, HW3.out.2.later k46⟩
          clear HW3 k46 k4 k5 k6
          refine takeH 125 (i := 19) (v := ?_) rfl rfl (by kernel_rfl) (by kernel_rfl) (by kernel_rfl) (fun _ _ _ h => h) (Or.inl ⟨by kernel_rfl, ?_⟩) SQ ?_
          rotate_left
          · intro w' hSw; go_simp; try with_reducible rfl
          try simp only [Act.put, List.setIfInBounds_toArray, List.set_cons_zero, List.set_cons_succ]
          refine takeH 126 (i := 20) (v := ?_) rfl rfl (by kernel_rfl) (by kernel_rfl) (by kernel_rfl) (fun _ _ _ h => h) (Or.inl ⟨by kernel_rfl, ?_⟩) SQ ?_
          rotate_left
          · intro w' hSw; go_simp; try with_reducible rfl
          try simp only [Act.put, List.setIfInBounds_toArray, List.set_cons_zero, List.set_cons_succ]
          refine wpAnyH_done (by kernel_rfl) ?_ _
          refine NoPanic.normal ?_
          try simp only [Act.put, List.setIfInBounds_toArray, List.set_cons_zero, List.set_cons_succ]
          have HS6 : Hid (Below Q.heap.size Q V6) := SQ
          clear SQ
          go_upto_region 22 with fail
          have hpp6 := kept HS6.out HQ.out.1.1.2.2
          go_upto_region 23 with (first
            | (refine wpList_load_row (by rfl) 28 _ (by rfl) (w.heap.size + 1) _ (by rfl) hpp6 _ Try.underlying28 rfl 7 Try.infoPL (by rfl) ?_)
            | (go_at_call 7; refine Calls.mono (HCL.out _ (to_call HQ.out.1.1.1 HS6.out)) ?_; rintro e V7 ⟨⟨vg, gl7, rfl, hf⟩, b7⟩; obtain ⟨oc, cc7, gvc, rfl, rc, hlc⟩ := flL_rdc hf.out HR.out.1 HR.out.2.1))
          obtain ⟨og, cg, gvW, eW, rW⟩ := (HW6.out.2.later b7).guM
          injection eW with e1 e2 e3
          subst e1
          subst e3
          have H7 : Hid (V7.heap[DW]? = some (.cells #[.slice none 0 0, .slice none 0 0, .int .i64 t, .slice o6 cl.length c6, .int .i64 0, .int .i64 0, .int .i64 0] 36) ∧ RdGs V7 oc cl.length cc7 gvc cl ∧ RdGu V7 o6 cl.length c6 gvW cl) := ⟨kept b7 HW6.out.1, rc, rW⟩
          have HF7 : Hid (Below w.heap.size w V7) := to_call (to_call HQ.out.1.1.1 HS6.out) b7
          clear hpp6 hf rc rW b7 HW6 e2
          refine wp_region_noPanic ?_
          refine wp_region_held_drew (S := fun V => Below V7.heap.size V7 V) (by kernel_rfl) ((Below.refl _ V7).drew) (fun _ => ?_)
          have SQ : Below V7.heap.size V7 V7.drew := (Below.refl _ V7).drew
          refine takeH 133 (i := 0) (v := ?_) rfl rfl (by kernel_rfl) (by kernel_rfl) (by kernel_rfl) (fun _ _ _ h => h) (Or.inl ⟨by kernel_rfl, ?_⟩) SQ ?_
          rotate_left
          · intro w' hSw; go_simp; try with_reducible rfl
          try simp only [Act.put, List.setIfInBounds_toArray, List.set_cons_zero, List.set_cons_succ]
          refine takeH 134 (i := 1) (v := ?_) rfl rfl (by kernel_rfl) (by kernel_rfl) (by kernel_rfl) (fun _ _ _ h => h) (Or.inl ⟨by kernel_rfl, ?_⟩) SQ ?_
          rotate_left
          · intro w' hSw; go_simp; try with_reducible rfl
          try simp only [Act.put, List.setIfInBounds_toArray, List.set_cons_zero, List.set_cons_succ]
          refine takeH 135 (i := 2) (v := ?_) rfl rfl (by kernel_rfl) (by kernel_rfl) (by kernel_rfl) (fun _ _ _ h => h) (Or.inl ⟨by kernel_rfl, ?_⟩) SQ ?_
          rotate_left
          · intro w' hSw; go_simp; try with_reducible rfl
          try simp only [Act.put, List.setIfInBounds_toArray, List.set_cons_zero, List.set_cons_succ]
          refine takeH 136 (i := 3) (v := ?_) rfl rfl (by kernel_rfl) (by kernel_rfl) (by kernel_rfl) (fun _ _ _ h => h) (Or.inl ⟨by kernel_rfl, ?_⟩) SQ ?_
          rotate_left
          · intro w' hSw; go_simp; try with_reducible rfl
          try simp only [Act.put, List.setIfInBounds_toArray, List.set_cons_zero, List.set_cons_succ]
          refine takeH 137 (i := 4) (v := ?_) rfl rfl (by kernel_rfl) (by kernel_rfl) (by kernel_rfl) (fun _ _ _ h => h) (Or.inl ⟨by kernel_rfl, ?_⟩) SQ ?_
          rotate_left
          · intro w' hSw; go_simp; try with_reducible rfl
          try simp only [Act.put, List.setIfInBounds_toArray, List.set_cons_zero, List.set_cons_succ]
          refine takeH 138 (i := 5) (v := .slice o6 cl.length c6) rfl rfl (by kernel_rfl) (by kernel_rfl) (by kernel_rfl) (fun _ _ _ h => h) (Or.inl ⟨by kernel_rfl, fun w' hSw => ex_load1B _ _ _ rfl ⟨DW, 3, none⟩ (by kernel_rfl) w' _ (cellAtJ (kept hSw H7.out.1) 3 _ rfl) (fun w => by kernel_rfl)⟩) SQ ?_
          try simp only [Act.put, List.setIfInBounds_toArray, List.set_cons_zero, List.set_cons_succ]
          refine takeH 139 (i := 6) (v := ?_) rfl rfl (by kernel_rfl) (by kernel_rfl) (by kernel_rfl) (fun _ _ _ h => h) (Or.inl ⟨by kernel_rfl, ?_⟩) SQ ?_
          rotate_left
          · intro w' hSw; go_simp; try with_reducible rfl
          try simp only [Act.put, List.setIfInBounds_toArray, List.set_cons_zero, List.set_cons_succ]
          refine wpAnyH_ready (rs := [7]) (by kernel_rfl) (by simp) ?_
          refine consH _ rfl (hopCd 140 rfl (by kernel_rfl) rfl (by kernel_rfl) (Calls.mono (lists_any oc cl.length cc7 gvc cl _ (H7.out.2.1.later SQ) hcl3 hlc) ?_)) AllReadyH.nil
          rintro e V8 ⟨⟨o8, c8, gv8, rfl, h8⟩, k8⟩
          have SQ := to_call SQ k8
          refine ⟨_, rfl, SQ, ?_⟩
          try simp only [Act.put, List.setIfInBounds_toArray, List.set_cons_zero, List.set_cons_succ]
          refine wpAnyH_ready (rs := [8]) (by kernel_rfl) (by simp) ?_
          refine consH _ rfl (hopCd 141 rfl (by kernel_rfl) rfl (by kernel_rfl) (Calls.mono (sameLists6_any _ _ _ _ _ _ _ _ _ (H7.out.2.2.later SQ) h8.out) ?_)) AllReadyH.nil
          rintro e V9 ⟨rfl, k9⟩
          have SQ := to_call SQ k9
          refine ⟨_, rfl, SQ, ?_⟩
          try simp only [Act.put, List.setIfInBounds_toArray, List.set_cons_zero, List.set_cons_succ]
          clear k8 k9 h8
          refine takeH 142 (i := 9) (v := ?_) rfl rfl (by kernel_rfl) (by kernel_rfl) (by kernel_rfl) (fun _ _ _ h => h) (Or.inl ⟨by kernel_rfl, ?_⟩) SQ ?_
          rotate_left
          · intro w' hSw; go_simp; try with_reducible rfl
          try simp only [Act.put, List.setIfInBounds_toArray, List.set_cons_zero, List.set_cons_succ]
          refine takeH 143 (i := 10) (v := ?_) rfl rfl (by kernel_rfl) (by kernel_rfl) (by kernel_rfl) (fun _ _ _ h => h) (Or.inl ⟨by kernel_rfl, ?_⟩) SQ ?_
          rotate_left
          · intro w' hSw; go_simp; try with_reducible rfl
          try simp only [Act.put, List.setIfInBounds_toArray, List.set_cons_zero, List.set_cons_succ]
          refine wpAnyH_ready (rs := [11]) (by kernel_rfl) (by simp) ?_
          refine consH _ rfl (hopCd 144 rfl (by kernel_rfl) rfl (by kernel_rfl) (Calls.mono (awake_any _) ?_)) AllReadyH.nil
          rintro e V10 ⟨rfl, k10⟩
          have SQ := to_call SQ k10
          refine ⟨_, rfl, SQ, ?_⟩
          try simp only [Act.put, List.setIfInBounds_toArray, List.set_cons_zero, List.set_cons_succ]
          clear k10
          refine takeH 145 (i := 12) (v := ?_) rfl rfl (by kernel_rfl) (by kernel_rfl) (by kernel_rfl) (fun _ _ _ h => h) (Or.inl ⟨by kernel_rfl, ?_⟩) SQ ?_
          rotate_left
          · intro w' hSw; go_simp; try with_reducible rfl
          try simp only [Act.put, List.setIfInBounds_toArray, List.set_cons_zero, List.set_cons_succ]
          refine takeH 8 (i := 13) (v := ?_) rfl rfl (by kernel_rfl) (by kernel_rfl) (by kernel_rfl) (fun _ _ _ h => h) (Or.inl ⟨by kernel_rfl, ?_⟩) SQ ?_
          rotate_left
          · intro w' hSw; go_simp; try with_reducible rfl
          try simp only [Act.put, List.setIfInBounds_toArray, List.set_cons_zero, List.set_cons_succ]
          refine wpAnyH_done (by kernel_rfl) ?_ _
          refine NoPanic.normal ?_
          try simp only [Act.put, List.setIfInBounds_toArray, List.set_cons_zero, List.set_cons_succ]
          go_wp2_with fail
          go_ret
          exact ⟨rfl, to_call HF7.out SQ⟩
      refine wp_region_noPanic ?_
      refine wp_region_P (fun V => V.heap[B10]? = some (.cells #[.slice o1 cn c1, .slice o2 gn c2, .int .i64 t, .slice o3 ln c3, .int .i64 K, .int .i64 D, .int .i64 L] 36)) 6 (by kernel_rfl) ?_
      have Q0 : Below W5.heap.size W5 W5.drew := (Below.refl _ W5).drew
      have S0 : W5.drew.heap[B10]? = some (.cells #[.slice o1 cn c1, .slice o2 gn c2, .int .i64 t, .slice o3 ln c3, .int .i64 K, .int .i64 D, .int .i64 L] 36) := kept Q0 HQ5.out
      refine takeP0 62 (i := 0) (v := ?_) rfl rfl (by kernel_rfl) (by kernel_rfl) (by kernel_rfl) rfl (fun _ _ _ h => h) (Or.inl ⟨by kernel_rfl, ?_⟩) (fun _ => S0) ?_
      rotate_left
      · intro w' hSw; go_simp; try with_reducible rfl
      try simp only [Act.put, List.setIfInBounds_toArray, List.set_cons_zero, List.set_cons_succ]
      refine takeP 63 (i := 1) (v := .int .i64 t) rfl rfl (by kernel_rfl) (by kernel_rfl) (by kernel_rfl) (by kernel_rfl) rfl (by kernel_rfl) (fun _ _ _ h => h) (Or.inl ⟨by kernel_rfl, fun w' hSw => ex_load1B _ _ _ rfl ⟨B10, 2, none⟩ (by kernel_rfl) w' _ (cellAtJ hSw 2 _ rfl) (fun w => by kernel_rfl)⟩) S0 ?_
      try simp only [Act.put, List.setIfInBounds_toArray, List.set_cons_zero, List.set_cons_succ]
      refine takeP0 64 (i := 2) (v := ?_) rfl rfl (by kernel_rfl) (by kernel_rfl) (by kernel_rfl) rfl (fun _ _ _ h => h) (Or.inl ⟨by kernel_rfl, ?_⟩) (fun _ => S0) ?_
      rotate_left
      · intro w' hSw; go_simp; try with_reducible rfl
      try simp only [Act.put, List.setIfInBounds_toArray, List.set_cons_zero, List.set_cons_succ]
      refine wpAnyP_ready (rs := [3, 5]) (by kernel_rfl) (by simp) ?_
      refine consP _ rfl (hopCd 65 rfl (by kernel_rfl) rfl (by kernel_rfl) (Calls.mono (listsO_any oa cl.length ca gva cl _ (HRA.out _ (to_call HW5.out Q0)) hcl3 HA.out.2.2.2.2) ?_)) (consP _ rfl (hopAJ 15 rfl rfl rfl 36 rfl #[.slice none 0 0, .slice none 0 0, .int .i64 0, .slice none 0 0, .int .i64 0, .int .i64 0, .int .i64 0] Try.allocRP fun DW V1 hD hDl k1 => ?_) AllReadyP.nil)
      · rintro e V1 ⟨⟨o6, c6, g6, rfl, h6⟩, k1⟩
        have h6 := ofL_mono h6.out Q0.size
        have S1 := kept k1 S0
        have Q1 := to_call Q0 k1
        clear k1
        refine ⟨_, rfl, S1, ?_⟩
        try simp only [Act.put, List.setIfInBounds_toArray, List.set_cons_zero, List.set_cons_succ]
        refine takeP0 66 (i := 4) (v := ?_) rfl rfl (by kernel_rfl) (by kernel_rfl) (by kernel_rfl) rfl (fun _ _ _ h => h) (Or.inl ⟨by kernel_rfl, ?_⟩) (fun _ => S1) ?_
        rotate_left
        · intro w' hSw; go_simp; try with_reducible rfl
        try simp only [Act.put, List.setIfInBounds_toArray, List.set_cons_zero, List.set_cons_succ]
        refine wpAnyP_ready (rs := [5]) (by kernel_rfl) (by simp) ?_
        refine consP _ rfl (hopAJ 15 rfl rfl rfl 36 rfl #[.slice none 0 0, .slice none 0 0, .int .i64 0, .slice none 0 0, .int .i64 0, .int .i64 0, .int .i64 0] Try.allocRP fun DW V2 hD hDl k1 => ?_) AllReadyP.nil
        have hDl := Nat.le_trans Q1.size hDl
        have S2 := kept k1 S1
        have Q2 := to_call Q1 k1
        have h6 := h6.later k1
        clear k1
        refine ⟨S2, ?_⟩
        try simp only [Act.put, List.setIfInBounds_toArray, List.set_cons_zero, List.set_cons_succ]
        refine wpAnyP_ready (rs := [6]) (by kernel_rfl) (by simp) ?_
        refine consPs _ rfl (by kernel_rfl) (hopL rfl (wpList_store_row (by rfl) 36 _ _ (by rfl) W5 W5.heap.size DW #[.slice none 0 0, .slice none 0 0, .int .i64 t, .slice o6 cl.length c6, .int .i64 0, .int .i64 0, .int .i64 0] _ (by kernel_rfl) (by kernel_rfl) hD Q2 hDl 7 Try.infoRefPropM rfl rfl (one7M _ _ _ _ _ _ _ _ _ _ _ _ _) fun W9 e9 k9 s9 o9 => ?_)) AllReadyP.nil
        refine ⟨trivial, ?_⟩
        refine put_noneP rfl ?_
        try simp only [Act.put, List.setIfInBounds_toArray, List.set_cons_zero, List.set_cons_succ]
        refine wpAnyP_done (by kernel_rfl) ?_ _
        refine NoPanic.normal ?_
        try simp only [Act.put, List.setIfInBounds_toArray, List.set_cons_zero, List.set_cons_succ]
        have HW : Hid (Below W5.heap.size W5 W9 ∧ W5.heap.size ≤ DW ∧ W9.heap[DW]? = some (.cells #[.slice none 0 0, .slice none 0 0, .int .i64 t, .slice o6 cl.length c6, .int .i64 0, .int .i64 0, .int .i64 0] 36) ∧ OfL W9 W5.heap.size [] [] [] cl (.slice none 0 0) (.slice none 0 0) (.slice none 0 0) (.slice o6 cl.length c6) g6) := ⟨k9, hDl, e9, h6.keepP fun k cur t ht hc => o9 k (by rintro rfl; rw [hD] at hc; cases hc; exact ht rfl)⟩
        clear k9 e9 s9 o9 h6 hD hDl S2 Q2
        go_wp2_with fail
        go_meet
        exact ⟨DW, o6, c6, g6, rfl, HW⟩
      · have hDl := Nat.le_trans Q0.size hDl
        have S1 := kept k1 S0
        have Q1 := to_call Q0 k1
        clear k1
        refine ⟨S1, ?_⟩
        try simp only [Act.put, List.setIfInBounds_toArray, List.set_cons_zero, List.set_cons_succ]
        refine wpAnyP_ready (rs := [3]) (by kernel_rfl) (by simp) ?_
        refine consP _ rfl (hopCd 65 rfl (by kernel_rfl) rfl (by kernel_rfl) (Calls.mono (listsO_any oa cl.length ca gva cl _ (HRA.out _ (to_call HW5.out Q1)) hcl3 HA.out.2.2.2.2) ?_)) AllReadyP.nil
        rintro e V2 ⟨⟨o6, c6, g6, rfl, h6⟩, k1⟩
        have h6 := ofL_mono h6.out Q1.size
        have S2 := kept k1 S1
        have Q2 := to_call Q1 k1
        have hD := kept k1 hD
        clear k1
        refine ⟨_, rfl, S2, ?_⟩
        try simp only [Act.put, List.setIfInBounds_toArray, List.set_cons_zero, List.set_cons_succ]
        refine takeP0 66 (i := 4) (v := ?_) rfl rfl (by kernel_rfl) (by kernel_rfl) (by kernel_rfl) rfl (fun _ _ _ h => h) (Or.inl ⟨by kernel_rfl, ?_⟩) (fun _ => S2) ?_
        rotate_left
        · intro w' hSw; go_simp; try with_reducible rfl
        try simp only [Act.put, List.setIfInBounds_toArray, List.set_cons_zero, List.set_cons_succ]
        refine wpAnyP_ready (rs := [6]) (by kernel_rfl) (by simp) ?_
        refine consPs _ rfl (by kernel_rfl) (hopL rfl (wpList_store_row (by rfl) 36 _ _ (by rfl) W5 W5.heap.size DW #[.slice none 0 0, .slice none 0 0, .int .i64 t, .slice o6 cl.length c6, .int .i64 0, .int .i64 0, .int .i64 0] _ (by kernel_rfl) (by kernel_rfl) hD Q2 hDl 7 Try.infoRefPropM rfl rfl (one7M _ _ _ _ _ _ _ _ _ _ _ _ _) fun W9 e9 k9 s9 o9 => ?_)) AllReadyP.nil
        refine ⟨trivial, ?_⟩
        refine put_noneP rfl ?_
        try simp only [Act.put, List.setIfInBounds_toArray, List.set_cons_zero, List.set_cons_succ]
        refine wpAnyP_done (by kernel_rfl) ?_ _
        refine NoPanic.normal ?_
        try simp only [Act.put, List.setIfInBounds_toArray, List.set_cons_zero, List.set_cons_succ]
        have HW : Hid (Below W5.heap.size W5 W9 ∧ W5.heap.size ≤ DW ∧ W9.heap[DW]? = some (.cells #[.slice none 0 0, .slice none 0 0, .int .i64 t, .slice o6 cl.length c6, .int .i64 0, .int .i64 0, .int .i64 0] 36) ∧ OfL W9 W5.heap.size [] [] [] cl (.slice none 0 0) (.slice none 0 0) (.slice none 0 0) (.slice o6 cl.length c6) g6) := ⟨k9, hDl, e9, h6.keepP fun k cur t ht hc => o9 k (by rintro rfl; rw [hD] at hc; cases hc; exact ht rfl)⟩
        clear k9 e9 s9 o9 h6 hD hDl S2 Q2
        go_wp2_with fail
        go_meet
        exact ⟨DW, o6, c6, g6, rfl, HW⟩
end Go.Proofs.Ytaloaholmhcflaa
