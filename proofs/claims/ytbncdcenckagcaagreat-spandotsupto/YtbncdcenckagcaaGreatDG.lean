import Derived.Test.YtbncdcenckagcaaGreatDB
import Derived.Test.YtbncdcenckagcaaGreatDD
import Derived.Deep.DeepCutAuto
namespace Go.Proofs.YtbncdcenckagcaaGreat
open Go.RowKit
set_option linter.unusedVariables false

theorem Tryz.infoSpF : (Tryz.prog.info? 34).map (·.size) = some 3 := by kernel_rfl
theorem one_spf (x y : Nat) (b : Bool) : ∀ u ∈ (Value.agg #[.float .f64 x, .float .f64 y, .bool b]).cells.toList, u.oneCell' = true := by
  intro u hu
  simp only [Value.cells, List.mem_cons, List.not_mem_nil, or_false] at hu
  rcases hu with rfl | rfl | rfl <;> rfl
theorem rndO_some (d : Int) (o : Option Int) : ∃ p : Nat × Bool, RndO d o p.1 p.2 := by
  cases o with
  | none => exact ⟨(0, false), rfl, rfl⟩
  | some z =>
    obtain ⟨a, ha⟩ : ∃ a : Nat, a = 1166 := ⟨_, rfl⟩
    obtain ⟨p, hp⟩ := rndZ_some d z (2 ^ a) (Nat.two_pow_pos _)
    exact ⟨p, fun b hb => by rw [show b = a by omega]; exact hp⟩
theorem dot_rnd {d : Int} {U : Nat → Nat} {F : Nat → Nat × Nat × Bool} {n : Nat} {p : Nat × Bool} (hn : n ≤ 9223372036854775807) (h : RndO d (accD d U F n) p.1 p.2) (hf : ∀ j, j < n → Fin (U j) ∧ Good (F j).1 (F j).2.1 (F j).2.2) {E : Nat} (hE : E = 1074) : RndZ d (dsum d U F n) (2 ^ E) p := by
  rw [accD_some n hn hf] at h
  obtain ⟨a, ha⟩ : ∃ a : Nat, a = 1166 := ⟨_, rfl⟩
  exact rnd_down ha hE (h a ha)
theorem dot_of {U : Nat → Nat} {F : Nat → Nat × Nat × Bool} {n : Nat} {p q : Nat × Bool} (hn : n ≤ 9223372036854775807) (h2 : RndO 2 (accD 2 U F n) p.1 p.2) (h1 : RndO 1 (accD 1 U F n) q.1 q.2) (hg : AllGood F n) {E : Nat} (hE : E = 1074) : DotR U F n n E (spOf p q) := by
  unfold DotR
  by_cases hf : ∀ j, j < n → Fin (U j)
  · rw [if_pos ⟨rfl, hg, hf⟩]
    have hb := fun j hj => And.intro (hf j hj) (hg j hj)
    exact ⟨p, q, dot_rnd hn h2 hb hE, dot_rnd hn h1 hb hE, rfl⟩
  · rw [if_neg (fun c => hf c.2.2)]
    have hx : ∃ j, j < n ∧ ¬ Fin (U j) := by
      rcases Classical.em (∃ j, j < n ∧ ¬ Fin (U j)) with c | c
      · exact c
      · exact absurd (fun j hj => Classical.byContradiction fun k => c ⟨j, hj, k⟩) hf
    rw [accD_none n hx] at h2
    have : p.2 = false := h2.2
    unfold spOf
    rw [if_neg (by rw [this]; simp)]
set_option maxRecDepth 100000 in
set_option maxHeartbeats 4000000 in
theorem spDot_any (wa la : Option Addr) (n m wc lc : Nat) (U : Nat → Nat) (F : Nat → Nat × Nat × Bool) (w : World) (hr : RdG w wa n wc U) (hs : RdS w la m lc F) (E : Nat) (hE : E = 1074) :
    Calls Tryz.prog 8 #[.slice wa n wc, .slice la m lc] w fun e w' => ∃ r, e = .returned (.agg #[.float .f64 r.1, .float .f64 r.2.1, .bool r.2.2]) ∧ DotR U F n m E r ∧ Below w.heap.size w w' := by
  have HR : Hid (RdG w wa n wc U) := hr
  have HS : Hid (RdS w la m lc F) := hs
  have hmx : n ≤ 9223372036854775807 := by have := hr.le; have := hr.max; simp only [maxLen] at *; omega
  have hmm : m ≤ 9223372036854775807 := by have := hs.le; have := hs.max; simp only [maxLen] at *; omega
  have hmf := hMakeFunc
  obtain ⟨g0, g1, g2, gz, gb⟩ := alloc3_facts w (Obj.cells #[Value.slice wa n wc] 22) (Obj.cells #[Value.slice la m lc] 23) (Obj.cells #[Value.float .f64 0, .float .f64 0, .bool false] 34)
  have G0 : Hid _ := g0
  have G1 : Hid _ := g1
  have R1 : Hid _ := g2
  have C1 : Hid _ := gb
  clear g0 g1 g2 gz gb hr hs
  go_enter Tryz.func8, Tryz.ntmps8
  go_upto_region 1 with fail
  generalize (((w.alloc (Obj.cells #[Value.slice wa n wc] 22)).alloc (Obj.cells #[Value.slice la m lc] 23)).alloc (Obj.cells #[Value.float .f64 0, .float .f64 0, .bool false] 34)) = W3 at G0 G1 R1 C1 ⊢
  have a0 : W3.cell? ⟨w.heap.size, 0, none⟩ = some (.slice wa n wc) := by rw [cell_of_row _ _ _ _ _ _ G0.out]; rfl
  have b0 : W3.cell? ⟨w.heap.size + 1, 0, none⟩ = some (.slice la m lc) := by rw [cell_of_row _ _ _ _ _ _ G1.out]; rfl
  by_cases hnm : n = m
  · subst hnm
    have hne : ((n : Int) != (n : Int)) = false := by simp
    by_cases hg : AllGood F n
    · have hgd : decide (AllGood F n) = true := decide_eq_true hg
      obtain ⟨p, hp⟩ := rndO_some 2 (accD 2 U F n)
      obtain ⟨q, hq⟩ := rndO_some 1 (accD 1 U F n)
      obtain ⟨rr, HRR⟩ : ∃ rr, Hid (spOf p q = rr) := ⟨_, rfl⟩
      have HW : Hid (DotR U F n n E rr) := by rw [← HRR.out]; exact dot_of hmx hp hq hg hE
      have HP : Hid _ := hp
      have HQ : Hid _ := hq
      clear hp hq hg
      go_upto_region 3 with (first
        | (go_at_call 21; refine (good_any la n lc F _ (HS.out.later C1.out)).mono ?_; rintro e w1 ⟨rfl, bw⟩; rw [hgd]; have A2 : Hid _ := keep0 G0.out bw; have B2 : Hid _ := keep0 G1.out bw; have R2 : Hid _ := keep0 R1.out bw; have C2 : Hid (Below w.heap.size w w1) := C1.out.trans (bw.mono C1.out.size); clear bw))
      have T2 : Hid (Tells 24 #[.pointer (some ⟨w.heap.size, 0, none⟩), .pointer (some ⟨w.heap.size + 1, 0, none⟩)] w1 2 p) := fun w' hb => by
        have hb' : Below w.heap.size w w' := C2.out.trans (hb.mono C2.out.size)
        refine (dot1_any 2 w.heap.size (w.heap.size + 1) wa la n wc lc U F w' (keep0 A2.out hb) (keep0 B2.out hb) (HR.out.later hb') (HS.out.later hb')).mono ?_
        rintro e w2 ⟨u, b, rfl, h1, h2⟩
        obtain ⟨rfl, rfl⟩ := h1.uniq HP.out
        exact ⟨rfl, h2⟩
      have T1 : Hid (Tells 24 #[.pointer (some ⟨w.heap.size, 0, none⟩), .pointer (some ⟨w.heap.size + 1, 0, none⟩)] w1 1 q) := fun w' hb => by
        have hb' : Below w.heap.size w w' := C2.out.trans (hb.mono C2.out.size)
        refine (dot1_any 1 w.heap.size (w.heap.size + 1) wa la n wc lc U F w' (keep0 A2.out hb) (keep0 B2.out hb) (HR.out.later hb') (HS.out.later hb')).mono ?_
        rintro e w2 ⟨u, b, rfl, h1, h2⟩
        obtain ⟨rfl, rfl⟩ := h1.uniq HQ.out
        exact ⟨rfl, h2⟩
      clear a0 b0 A2 B2 G0 G1 R1 C1
      go_wp2_with (first
        | (go_at_call 23; refine Calls.mono (spanOf_any 24 _ (enters_of Tryz.func24 (by kernel_rfl) rfl) _ p q T2.out T1.out) ?_; rintro e w4 ⟨he, bw⟩; rw [HRR.out] at he; subst he; have R4 : Hid _ := keep0 R2.out bw; have C4 : Hid (Below w.heap.size w w4) := C2.out.trans (bw.mono C2.out.size); clear bw)
        | (refine wpList_store_at (by rfl) 34 _ _ (by rfl) w w.heap.size (w.heap.size + 1 + 1) 0 (.agg #[.float .f64 rr.1, .float .f64 rr.2.1, .bool rr.2.2]) _ #[Value.float .f64 rr.1, .float .f64 rr.2.1, .bool rr.2.2] 34 (by rfl) (by rfl) R4.out C4.out (by omega) 3 Tryz.infoSpF (by rfl) (Nat.le_of_ble_eq_true rfl) (by exact one_spf _ _ _) (by rfl) ?_; intro W9 h9 b9 s9 t9))
      refine bodyPost_ret (v := .agg #[.float .f64 rr.1, .float .f64 rr.2.1, .bool rr.2.2]) (res_sp _ 4 (by kernel_rfl) _ _ (w.heap.size + 1 + 1) _ _ _ (by rfl) h9) rfl ⟨rr, rfl, HW.out, b9⟩
    · have hgd : decide (AllGood F n) = false := decide_eq_false hg
      have HW : Hid (DotR U F n n E (0, 0, true)) := by unfold Hid DotR; rw [if_neg (fun c => hg c.2.1)]
      clear hg
      go_upto_region 2 with (first
        | (go_at_call 21; refine (good_any la n lc F _ (HS.out.later C1.out)).mono ?_; rintro e w1 ⟨rfl, bw⟩; rw [hgd]; have R2 : Hid _ := keep0 R1.out bw; have C2 : Hid (Below w.heap.size w w1) := C1.out.trans (bw.mono C1.out.size); clear bw R1 C1))
      go_wp2_with (first
        | (go_at_call 22; refine (spBad_any _).mono ?_; rintro e w4 ⟨rfl, bw⟩; have R4 : Hid _ := keep0 R2.out bw; have C4 : Hid (Below w.heap.size w w4) := C2.out.trans (bw.mono C2.out.size); clear bw)
        | (refine wpList_store_at (by rfl) 34 _ _ (by rfl) w w.heap.size (w.heap.size + 1 + 1) 0 (.agg #[.float .f64 0, .float .f64 0, .bool true]) _ #[Value.float .f64 0, .float .f64 0, .bool true] 34 (by rfl) (by rfl) R4.out C4.out (by omega) 3 Tryz.infoSpF (by rfl) (Nat.le_of_ble_eq_true rfl) (by exact one_spf _ _ _) (by rfl) ?_; intro W9 h9 b9 s9 t9))
      refine bodyPost_ret (v := .agg #[.float .f64 0, .float .f64 0, .bool true]) (res_sp _ 4 (by kernel_rfl) _ _ (w.heap.size + 1 + 1) _ _ _ (by rfl) h9) rfl ⟨(0, 0, true), rfl, HW.out, b9⟩
  · have hne : ((n : Int) != (m : Int)) = true := by simp; omega
    have HW : Hid (DotR U F n m E (0, 0, true)) := by unfold Hid DotR; rw [if_neg (fun c => hnm c.1)]
    clear hnm
    go_wp2_with (first
      | (go_at_call 22; refine (spBad_any _).mono ?_; rintro e w4 ⟨rfl, bw⟩; have R4 : Hid _ := keep0 R1.out bw; have C4 : Hid (Below w.heap.size w w4) := C1.out.trans (bw.mono C1.out.size); clear bw)
      | (refine wpList_store_at (by rfl) 34 _ _ (by rfl) w w.heap.size (w.heap.size + 1 + 1) 0 (.agg #[.float .f64 0, .float .f64 0, .bool true]) _ #[Value.float .f64 0, .float .f64 0, .bool true] 34 (by rfl) (by rfl) R4.out C4.out (by omega) 3 Tryz.infoSpF (by rfl) (Nat.le_of_ble_eq_true rfl) (by exact one_spf _ _ _) (by rfl) ?_; intro W9 h9 b9 s9 t9))
    refine bodyPost_ret (v := .agg #[.float .f64 0, .float .f64 0, .bool true]) (res_sp _ 4 (by kernel_rfl) _ _ (w.heap.size + 1 + 1) _ _ _ (by rfl) h9) rfl ⟨(0, 0, true), rfl, HW.out, b9⟩
end Go.Proofs.YtbncdcenckagcaaGreat
