import Derived.Test.YtajopgndpomggaaXA
import Derived.Deep.RegionHeld3
namespace Go.Proofs.Ytajopgndpomggaa
open Go.RowKit
set_option linter.unusedVariables false

theorem later_three {w w' : World} {B : Nat} {x y z : Value} (h : w.cell? ⟨B, 0, none⟩ = some x ∧ w.cell? ⟨B, 1, none⟩ = some y ∧ w.cell? ⟨B, 2, none⟩ = some z) (hb : Below w.heap.size w w') :
    w'.cell? ⟨B, 0, none⟩ = some x ∧ w'.cell? ⟨B, 1, none⟩ = some y ∧ w'.cell? ⟨B, 2, none⟩ = some z := by
  have hl := World.block_lt_of_cell? w _ h.1
  exact ⟨by rw [hb.cell (p := ⟨B, 0, none⟩) hl]; exact h.1, by rw [hb.cell (p := ⟨B, 1, none⟩) hl]; exact h.2.1, by rw [hb.cell (p := ⟨B, 2, none⟩) hl]; exact h.2.2⟩
theorem NumV.form {w : World} {v : Value} {neg : Bool} {m : Nat} {e : Int} (h : NumV w v neg m e) : ∃ ao len cap, v = .agg #[.bool neg, .slice ao len cap, .int .i64 e] := by
  obtain ⟨ao, len, cap, xs, h1, _⟩ := h
  exact ⟨ao, len, cap, h1⟩
theorem NumZ.form {w : World} {v : Value} {s : Nat} {T z : Int} (h : NumZ w v s T z) : ∃ neg ao len cap e, v = .agg #[.bool neg, .slice ao len cap, .int .i64 e] := by
  obtain ⟨neg, m, e, h1, _⟩ := h
  obtain ⟨ao, len, cap, h2⟩ := h1.form
  exact ⟨neg, ao, len, cap, e, h2⟩
theorem RefO.form {w : World} {v : Value} {o : Option Int} (h : RefO w v o) : ∃ nb ao l c e b, v = .agg #[.bool nb, .slice ao l c, .int .i64 e, .bool b] := by
  obtain ⟨nb, ao, l, c, e, h1, _⟩ := h
  exact ⟨nb, ao, l, c, e, _, h1⟩
theorem rd4_keep {w w' : World} {B : Nat} (hB : ∀ j x, w.cell? ⟨B, j, none⟩ ≠ some (.int .u32 x)) (ho : ∀ b, b ≠ B → w'.heap[b]? = w.heap[b]?) {ao : Option Addr} {len cap : Nat} {xs : List Nat} (h : Rd4 w ao len cap xs) : Rd4 w' ao len cap xs := by
  refine ⟨h.length, h.le, h.max, h.lt, h.nil, ?_⟩
  rcases h.cells with h0 | ⟨b, off, ha, hc⟩
  · exact .inl h0
  · by_cases e : b = B
    · by_cases h0 : len = 0
      · exact .inl h0
      · subst e; exact absurd (hc 0 (by omega)) (hB _ _)
    · exact .inr ⟨b, off, ha, fun j hj => by rw [(cell_of_heap (ho b e) (off + j)).1]; exact hc j hj⟩
theorem NumC.keep {w w' : World} {B : Nat} (hB : ∀ j x, w.cell? ⟨B, j, none⟩ ≠ some (.int .u32 x)) (ho : ∀ b, b ≠ B → w'.heap[b]? = w.heap[b]?) {v : Value} {s : Nat} {T z : Int} (h : NumC w v s T z) : NumC w' v s T z := by
  obtain ⟨neg, m, e, ⟨ao, len, cap, xs, h1, h2, h3, h4⟩, h5⟩ := h
  exact ⟨neg, m, e, ⟨ao, len, cap, xs, h1, rd4_keep hB ho h2, h3, h4⟩, h5⟩
/-- A block of the document's Acc holds no words. -/
theorem acc4_not {w : World} {B : Nat} {nb b : Bool} {ao : Option Addr} {l c : Nat} {e : Int} {t : TypeId} (h : w.heap[B]? = some (.cells #[.bool nb, .slice ao l c, .int .i64 e, .bool b] t)) (j : Nat) (x : Int) : w.cell? ⟨B, j, none⟩ ≠ some (.int .u32 x) := by
  rw [cell_of_row w B j _ _ _ h]
  match j with
  | 0 => simp
  | 1 => simp
  | 2 => simp
  | 3 => simp
  | n + 4 => simp
theorem heap_set4 {w : World} {B : Nat} (x y z u : Value) : ∀ b, b ≠ B → ((((w.setCell ⟨B, 0, none⟩ x).setCell ⟨B, 1, none⟩ y).setCell ⟨B, 2, none⟩ z).setCell ⟨B, 3, none⟩ u).heap[b]? = w.heap[b]? := fun b hb => by
  rw [heap_setCell_other _ _ _ _ hb, heap_setCell_other _ _ _ _ hb, heap_setCell_other _ _ _ _ hb, heap_setCell_other _ _ _ _ hb]
set_option maxRecDepth 100000 in
set_option maxHeartbeats 2000000 in
theorem refProd_any (v : Value) (o : Option Int) (a b : Nat) (n : Int) (ha : a < 18446744073709551616) (hb : b < 18446744073709551616) (w : World) (h : RefO w v o) :
    Calls Try.prog 28 #[v, .int .u64 (a : Int), .int .u64 (b : Int), .int .i64 n] w fun e' w' => ∃ v', e' = .returned v' ∧ RefO w' v' (prodO o a b n) ∧ Below w.heap.size w w' := by
  have HV : Hid _ := h
  obtain ⟨nb, ao, l, c, e, rfl, hz⟩ := h
  have HZ : Hid (∀ z, o = some z → NumC w (.agg #[.bool nb, .slice ao l c, .int .i64 e]) 2240 2560 z) := hz
  clear hz
  obtain ⟨E, hE⟩ : ∃ E : Nat, E = 1074 := ⟨_, rfl⟩
  obtain ⟨a1, a2, a3, a4⟩ := alloc2_facts w (.cells #[.bool nb, .slice ao l c, .int .i64 e, .bool o.isNone] 29) (.cells #[.bool false, .slice none 0 0, .int .i64 0, .bool false] 29)
  go_enter Try.func28, Try.ntmps28
  go_wp2_with fail
  generalize (w.alloc (.cells #[.bool nb, .slice ao l c, .int .i64 e, .bool o.isNone] 29)).alloc (.cells #[.bool false, .slice none 0 0, .int .i64 0, .bool false] 29) = w1 at a1 a2 a3 a4 ⊢
  have A1 : Hid _ := a1
  have A2 : Hid _ := a2
  have A3 : Hid _ := a3
  have B1 : Hid _ := a4
  clear a1 a2 a3 a4
  refine (ofZ_any a ha _ E hE).mono ?_
  rintro e1 w2 ⟨pv, rfl, ⟨zp, np, fp⟩, b2⟩
  obtain ⟨pn, po, pl, pc, pe, rfl⟩ := np.form
  have NP : Hid _ := np
  have FP : Hid _ := fp
  have B2 : Hid (Below w1.heap.size w1 w2) := b2
  clear np fp b2
  obtain ⟨fa, hfa⟩ : ∃ fa, decide (Fin a) = fa := ⟨_, rfl⟩
  have HFA : Hid _ := hfa
  rw [hfa]
  clear hfa
  go_wp2_with fail
  have B2' : Hid (Below w1.heap.size w1 (w2.alloc (.cells #[.bool pn, .slice po pl pc, .int .i64 pe] 27))) := B2.out.alloc B2.out.size _
  have P2 : Hid ((w2.alloc (.cells #[.bool pn, .slice po pl pc, .int .i64 pe] 27)).heap[w2.heap.size]? = some (.cells #[.bool pn, .slice po pl pc, .int .i64 pe] 27)) := heap_alloc_new w2 _
  have NP2 : Hid (NumZ (w2.alloc (.cells #[.bool pn, .slice po pl pc, .int .i64 pe] 27)) (.agg #[.bool pn, .slice po pl pc, .int .i64 pe]) E 1024 zp) := NumZ.later NP.out ((Below.refl _ w2).alloc (Nat.le_refl _) _)
  have Z2 : Hid ((w2.alloc (.cells #[.bool pn, .slice po pl pc, .int .i64 pe] 27)).heap.size = w2.heap.size + 1) := by unfold Hid; simp
  generalize w2.alloc (.cells #[.bool pn, .slice po pl pc, .int .i64 pe] 27) = w2' at B2' P2 NP2 Z2 ⊢
  refine (ofZ_any b hb _ E hE).mono ?_
  rintro e1 w3 ⟨qv, rfl, ⟨zq, nq, fq⟩, b3⟩
  obtain ⟨qn, qo, ql, qc, qe, rfl⟩ := nq.form
  have NQ : Hid (NumZ (w3.alloc (.cells #[.bool qn, .slice qo ql qc, .int .i64 qe] 27)) (.agg #[.bool qn, .slice qo ql qc, .int .i64 qe]) E 1024 zq) := NumZ.later nq ((Below.refl _ w3).alloc (Nat.le_refl _) _)
  have FQ : Hid (Fin b → zq = fval b) := fq
  have B3 : Hid (Below w2'.heap.size w2' (w3.alloc (.cells #[.bool qn, .slice qo ql qc, .int .i64 qe] 27))) := b3.alloc b3.size _
  have Q3 : Hid ((w3.alloc (.cells #[.bool qn, .slice qo ql qc, .int .i64 qe] 27)).heap[w3.heap.size]? = some (.cells #[.bool qn, .slice qo ql qc, .int .i64 qe] 27)) := heap_alloc_new w3 _
  have HSB3 : Hid (w2'.heap.size ≤ w3.heap.size) := b3.size
  clear nq fq b3
  obtain ⟨fb, hfb⟩ : ∃ fb, decide (Fin b) = fb := ⟨_, rfl⟩
  have HFB : Hid _ := hfb
  rw [hfb]
  clear hfb
  go_upto_region 3 with fail
  have BB : Hid (Below w.heap.size w (w3.alloc (.cells #[.bool qn, .slice qo ql qc, .int .i64 qe] 27))) := (B1.out.trans (B2'.out.mono (by have := A3.out; omega))).trans (B3.out.mono (by have := A3.out; have := B2'.out.size; omega))
  have XX : Hid ((w3.alloc (.cells #[.bool qn, .slice qo ql qc, .int .i64 qe] 27)).heap[w.heap.size]? = some (.cells #[.bool nb, .slice ao l c, .int .i64 e, .bool o.isNone] 29)) := by
    unfold Hid
    rw [B3.out.block _ (by have := A3.out; have := B2'.out.size; omega), B2'.out.block _ (by have := A3.out; omega)]; exact A1.out
  have RR : Hid ((w3.alloc (.cells #[.bool qn, .slice qo ql qc, .int .i64 qe] 27)).heap[w.heap.size + 1]? = some (.cells #[.bool false, .slice none 0 0, .int .i64 0, .bool false] 29)) := by
    unfold Hid
    rw [B3.out.block _ (by have := A3.out; have := B2'.out.size; omega), B2'.out.block _ (by have := A3.out; omega)]; exact A2.out
  have PP : Hid ((w3.alloc (.cells #[.bool qn, .slice qo ql qc, .int .i64 qe] 27)).heap[w2.heap.size]? = some (.cells #[.bool pn, .slice po pl pc, .int .i64 pe] 27)) := by
    unfold Hid
    rw [B3.out.block _ (by have := Z2.out; omega)]; exact P2.out
  have NPP : Hid (NumZ (w3.alloc (.cells #[.bool qn, .slice qo ql qc, .int .i64 qe] 27)) (.agg #[.bool pn, .slice po pl pc, .int .i64 pe]) E 1024 zp) := NumZ.later NP2.out B3.out
  generalize w3.alloc (.cells #[.bool qn, .slice qo ql qc, .int .i64 qe] 27) = w4 at NQ B3 Q3 BB XX RR PP NPP ⊢
  have HS2 : Hid (w.heap.size + 2 ≤ w2.heap.size) := by unfold Hid; have := A3.out; have := B2.out.size; omega
  have HS3 : Hid (w.heap.size + 2 ≤ w3.heap.size) := by unfold Hid; have := HS2.out; have := Z2.out; have := HSB3.out; omega
  clear A1 A2 A3 B1 B2 B2' P2 NP2 Z2 NP B3
  obtain ⟨x0, x1, x2, x3⟩ := four_cells XX.out
  obtain ⟨r0, r1, r2, r3⟩ := four_cells RR.out
  have rf := fun j => frozen_of_row _ _ j _ _ RR.out
  by_cases hg : o ≠ none ∧ fa = true ∧ fb = true ∧ -64 ≤ n ∧ n ≤ 64
  · obtain ⟨g0, rfl, rfl, g3, g4⟩ := hg
    obtain ⟨z, rfl⟩ := Option.ne_none_iff_exists'.1 g0
    have HFAZ : Hid (Fin a ∧ Fin b) := ⟨of_decide_eq_true HFA.out, of_decide_eq_true HFB.out⟩
    have HRES : Hid (prodO (some z) a b n = holdZ (z + zp * zq * ((2 ^ (n + 92).toNat : Nat) : Int))) := by
      unfold Hid
      rw [FP.out HFAZ.out.1, FQ.out HFAZ.out.2]
      exact if_pos ⟨HFAZ.out.1, HFAZ.out.2, g3, g4⟩
    obtain ⟨pt, hpt⟩ : ∃ pt, zp * zq * ((2 ^ (n + 92).toNat : Nat) : Int) = pt := ⟨_, rfl⟩
    have HPT : Hid _ := hpt
    rw [hpt] at HRES
    clear hpt
    have HXC : Hid (NumC w4 (.agg #[.bool nb, .slice ao l c, .int .i64 e]) 2240 2560 z) := NumC.later (HZ.out z rfl) BB.out
    obtain ⟨p0, p1, p2⟩ := three_cells PP.out
    obtain ⟨q0, q1, q2⟩ := three_cells Q3.out
    have d1 : decide (n < -64) = false := decide_eq_false (by omega)
    have d2 : decide (64 < n) = false := decide_eq_false (by omega)
    clear HFA HFB FP FQ HZ HV g0 r0 r1 r2 r3 rf
    go_wp2_with fail
    have KEEP : Hid (∀ w', Below w4.heap.size w4 w' → (w'.cell? ⟨w.heap.size, 0, none⟩ = some (.bool nb) ∧ w'.cell? ⟨w.heap.size, 1, none⟩ = some (.slice ao l c) ∧ w'.cell? ⟨w.heap.size, 2, none⟩ = some (.int .i64 e)) ∧ (w'.cell? ⟨w2.heap.size, 0, none⟩ = some (.bool pn) ∧ w'.cell? ⟨w2.heap.size, 1, none⟩ = some (.slice po pl pc) ∧ w'.cell? ⟨w2.heap.size, 2, none⟩ = some (.int .i64 pe)) ∧ (w'.cell? ⟨w3.heap.size, 0, none⟩ = some (.bool qn) ∧ w'.cell? ⟨w3.heap.size, 1, none⟩ = some (.slice qo ql qc) ∧ w'.cell? ⟨w3.heap.size, 2, none⟩ = some (.int .i64 qe))) := fun w' hb' => ⟨later_three ⟨x0, x1, x2⟩ hb', later_three ⟨p0, p1, p2⟩ hb', later_three ⟨q0, q1, q2⟩ hb'⟩
    have HEE : Hid ((2240 : Int) = ((E + E : Nat) : Int) + 92) := by unfold Hid; omega
    have HE2 : Hid (E ≤ 10000 ∧ E + E ≤ 10000) := by unfold Hid; omega
    have D4 : Hid (Below w4.heap.size w4 w4.drew) := (Below.refl _ w4).drew
    have y2 : ¬ w2.heap.size = w.heap.size + 1 := by have := HS2.out; omega
    have y2' : ¬ w.heap.size + 1 = w2.heap.size := by have := HS2.out; omega
    have y3 : ¬ w3.heap.size = w.heap.size + 1 := by have := HS3.out; omega
    have y3' : ¬ w.heap.size + 1 = w3.heap.size := by have := HS3.out; omega
    clear hE
    go_region_held3 (fun w' => w'.cell? ⟨w.heap.size, 0, none⟩ = some (.bool nb) ∧ w'.cell? ⟨w.heap.size, 1, none⟩ = some (.slice ao l c) ∧ w'.cell? ⟨w.heap.size, 2, none⟩ = some (.int .i64 e) ∧ w'.cell? ⟨w2.heap.size, 0, none⟩ = some (.bool pn) ∧ w'.cell? ⟨w2.heap.size, 1, none⟩ = some (.slice po pl pc) ∧ w'.cell? ⟨w2.heap.size, 2, none⟩ = some (.int .i64 pe) ∧ w'.cell? ⟨w3.heap.size, 0, none⟩ = some (.bool qn) ∧ w'.cell? ⟨w3.heap.size, 1, none⟩ = some (.slice qo ql qc) ∧ w'.cell? ⟨w3.heap.size, 2, none⟩ = some (.int .i64 qe)) (go_keep) ((first | (go_at_call 16; refine (timesC_any _ _ E 1024 1024 zp zq _ (NumZ.later NPP.out D4.out) (NumZ.later NQ.out D4.out) HE2.out.1 (by omega) (by omega)).mono ?_; rintro e5 w5 ⟨v5, rfl, n5, b5⟩; have N5 : Hid (NumC w5 v5 (E + E) 2048 (zp * zq)) := n5; have G5 : Hid (Below w4.heap.size w4 w5) := D4.out.trans b5; clear n5 b5; obtain ⟨⟨k50, k51, k52⟩, ⟨k53, k54, k55⟩, ⟨k56, k57, k58⟩⟩ := KEEP.out w5 G5.out; ) | (go_at_call 44; refine (movedC_any v5 (E + E) 2240 2048 2112 (zp * zq) n _ N5.out HE2.out.2 (by omega) ⟨g3, g4⟩ (by omega) HEE.out).mono ?_; rintro e6 w6 ⟨v6, rfl, n6, b6⟩; have N6 : Hid (NumC w6 v6 2240 2112 pt) := (by rw [← HPT.out]; exact n6); have G6 : Hid (Below w4.heap.size w4 w6) := G5.out.trans (b6.mono G5.out.size); clear n6 b6; obtain ⟨⟨k60, k61, k62⟩, ⟨k63, k64, k65⟩, ⟨k66, k67, k68⟩⟩ := KEEP.out w6 G6.out; ) | (go_at_call 43; refine (plusC_any _ v6 2240 2560 z pt _ (NumC.later HXC.out G6.out) (NumC.mono N6.out (by omega)) (by omega) (by omega)).mono ?_; rintro e7 w7 ⟨v7, rfl, n7, b7⟩; have N7 : Hid (NumC w7 v7 2240 2561 (z + pt)) := n7; have G7 : Hid (Below w4.heap.size w4 w7) := G6.out.trans (b7.mono G6.out.size); clear n7 b7; obtain ⟨⟨k70, k71, k72⟩, ⟨k73, k74, k75⟩, ⟨k76, k77, k78⟩⟩ := KEEP.out w7 G7.out; ) | (go_at_call 62; refine (held3_any v7 _ _ N7.out).mono ?_; rintro e8 w8 ⟨v8, rfl, ⟨nb8, ao8, l8, c8, e9, rfl, hz8⟩, b8⟩; have G8 : Hid (Below w4.heap.size w4 w8) := G7.out.trans (b8.mono G7.out.size); have Z8 : Hid _ := hz8; have R8 : Hid _ := (G8.out.block (w.heap.size + 1) (Array.getElem?_eq_some_iff.1 RR.out).1).trans RR.out; obtain ⟨r0, r1, r2, r3⟩ := four_cells R8.out; have rf := fun j => frozen_of_row _ _ j _ _ R8.out; clear hz8 b8; obtain ⟨⟨k80, k81, k82⟩, ⟨k83, k84, k85⟩, ⟨k86, k87, k88⟩⟩ := KEEP.out w8 G8.out; )))
    have HZ8 : Hid (∀ y, holdZ (z + pt) = some y → NumC w8 (.agg #[.bool nb8, .slice ao8 l8 c8, .int .i64 e9]) 2240 2560 y) := Z8.out
    clear k50 k51 k52 k53 k54 k55 k56 k57 k58 k60 k61 k62 k63 k64 k65 k66 k67 k68 k70 k71 k72 k73 k74 k75 k76 k77 k78 k80 k81 k82 k83 k84 k85 k86 k87 k88
    go_wp2_with fail
    (try simp only [Exit.inBlock, Exit.then])
    refine bodyPost_ret (v := .agg #[.bool nb8, .slice ao8 l8 c8, .int .i64 e9, .bool (holdZ (z + pt)).isNone]) (res_acc4 _ 8 (by kernel_rfl) _ _ (w.heap.size + 1) _ _ _ _ (by rfl) (set4_heap _ _ _ _ R8.out)) rfl ⟨_, rfl, ?_, below_set4 _ _ _ _ (BB.out.trans (G8.out.mono BB.out.size)) (by omega)⟩
    rw [HRES.out]
    exact ⟨nb8, ao8, l8, c8, e9, rfl, fun y hy => NumC.keep (acc4_not R8.out) (heap_set4 _ _ _ _) (HZ8.out y hy)⟩
  · have HBAD : Hid (prodO o a b n = none) := by
      unfold Hid
      cases o with
      | none => rfl
      | some z =>
        refine if_neg (fun c => hg ⟨by simp, ?_, ?_, c.2.2.1, c.2.2.2⟩)
        · rw [← HFA.out]; exact decide_eq_true c.1
        · rw [← HFB.out]; exact decide_eq_true c.2.1
    by_cases c0 : o.isNone = false
    · have c0' : o ≠ none := by cases o <;> simp_all
      by_cases c1 : fa = true
      · by_cases c2 : fb = true
        · by_cases c3 : -64 ≤ n
          · have c4 : ¬ n ≤ 64 := fun c => hg ⟨c0', c1, c2, c3, c⟩
            subst c1 c2
            have d1 : decide (n < -64) = false := decide_eq_false (by omega)
            have d2 : decide (64 < n) = true := decide_eq_true (by omega)
            rw [c0] at x3
            clear hg
            go_wp2_with fail
            (try simp only [Exit.inBlock, Exit.then])
            refine bodyPost_ret (v := .agg #[.bool false, .slice none 0 0, .int .i64 0, .bool true]) (res_acc4 _ 8 (by kernel_rfl) _ _ (w.heap.size + 1) _ _ _ _ (by rfl) (set4_heap _ _ _ _ RR.out)) rfl ⟨_, rfl, ?_, below_set4 _ _ _ _ BB.out (by omega)⟩
            rw [HBAD.out]
            exact ⟨_, _, _, _, _, rfl, fun y hy => by cases hy⟩
          · subst c1 c2
            have d1 : decide (n < -64) = true := decide_eq_true (by omega)
            rw [c0] at x3
            clear hg
            go_wp2_with fail
            (try simp only [Exit.inBlock, Exit.then])
            refine bodyPost_ret (v := .agg #[.bool false, .slice none 0 0, .int .i64 0, .bool true]) (res_acc4 _ 8 (by kernel_rfl) _ _ (w.heap.size + 1) _ _ _ _ (by rfl) (set4_heap _ _ _ _ RR.out)) rfl ⟨_, rfl, ?_, below_set4 _ _ _ _ BB.out (by omega)⟩
            rw [HBAD.out]
            exact ⟨_, _, _, _, _, rfl, fun y hy => by cases hy⟩
        · obtain rfl : fb = false := by simpa using c2
          subst c1
          rw [c0] at x3
          clear hg
          go_wp2_with fail
          (try simp only [Exit.inBlock, Exit.then])
          refine bodyPost_ret (v := .agg #[.bool false, .slice none 0 0, .int .i64 0, .bool true]) (res_acc4 _ 8 (by kernel_rfl) _ _ (w.heap.size + 1) _ _ _ _ (by rfl) (set4_heap _ _ _ _ RR.out)) rfl ⟨_, rfl, ?_, below_set4 _ _ _ _ BB.out (by omega)⟩
          rw [HBAD.out]
          exact ⟨_, _, _, _, _, rfl, fun y hy => by cases hy⟩
      · obtain rfl : fa = false := by simpa using c1
        rw [c0] at x3
        clear hg
        go_wp2_with fail
        (try simp only [Exit.inBlock, Exit.then])
        refine bodyPost_ret (v := .agg #[.bool false, .slice none 0 0, .int .i64 0, .bool true]) (res_acc4 _ 8 (by kernel_rfl) _ _ (w.heap.size + 1) _ _ _ _ (by rfl) (set4_heap _ _ _ _ RR.out)) rfl ⟨_, rfl, ?_, below_set4 _ _ _ _ BB.out (by omega)⟩
        rw [HBAD.out]
        exact ⟨_, _, _, _, _, rfl, fun y hy => by cases hy⟩
    · have c0' : o.isNone = true := by simpa using c0
      rw [c0'] at x3
      clear hg
      go_wp2_with fail
      (try simp only [Exit.inBlock, Exit.then])
      refine bodyPost_ret (v := .agg #[.bool false, .slice none 0 0, .int .i64 0, .bool true]) (res_acc4 _ 8 (by kernel_rfl) _ _ (w.heap.size + 1) _ _ _ _ (by rfl) (set4_heap _ _ _ _ RR.out)) rfl ⟨_, rfl, ?_, below_set4 _ _ _ _ BB.out (by omega)⟩
      rw [HBAD.out]
      exact ⟨_, _, _, _, _, rfl, fun y hy => by cases hy⟩
end Go.Proofs.Ytajopgndpomggaa
