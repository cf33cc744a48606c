import Derived.Test.YtpinpcefgbhdmaaDoorBkD
import Derived.Test.YtpinpcefgbhdmaaDoorTold
import Derived.Test.YtpinpcefgbhdmaaDoorUints
import Derived.Test.YtpinpcefgbhdmaaDoorRefUint
import Derived.Test.YtpinpcefgbhdmaaDoorFloats
import Derived.Test.YtpinpcefgbhdmaaDoorRefFloats
import Derived.Test.YtpinpcefgbhdmaaDoorTexts
import Derived.Test.YtpinpcefgbhdmaaDoorRefText
import Derived.Test.YtpinpcefgbhdmaaDoorReadFrames
import Derived.Test.YtpinpcefgbhdmaaDoorTrip
import Derived.Deep.RegionHeld3
import Derived.Deep.RegionWith
import Derived.BigRegion
import Derived.BigQuiet
namespace Go.Proofs.YtpinpcefgbhdmaaDoor
open Go.RowKit
set_option linter.unusedVariables false
set_option linter.unusedSimpArgs false

theorem cells_new5 (w : World) {a b c d f : Value} {t : TypeId} : ∀ j u, [a, b, c, d, f][j]? = some u → (w.alloc (.cells #[a, b, c, d, f] t)).cell? ((⟨w.heap.size, 0, none⟩ : Addr).add j) = some u := by
  intro j u hu
  rw [Addr.add_lit, cell_of_row _ w.heap.size _ _ _ _ (heap_alloc_new w _), Nat.zero_add]
  simpa using hu
theorem one_new5 {a b c d f : Value} (h : ∀ v ∈ [a, b, c, d, f], ∃ p q r, v = .slice p q r) : ∀ u ∈ [a, b, c, d, f], u.oneCell' = true := by
  intro u hu
  obtain ⟨p, q, r, rfl⟩ := h u hu
  rfl
theorem Reads.slice {w wr : World} {base : Nat} {p : Value} {q : List Int} (h : Reads w wr base p q) : ∃ a b c, p = .slice a b c := by
  rcases h with ⟨h1, -⟩ | ⟨ao, len, cap, h1, -⟩
  · obtain ⟨la, lc, e⟩ := owns_form h1
    exact ⟨_, _, _, e⟩
  · exact ⟨_, _, _, h1⟩
theorem Own.slice {w : World} {base : Nat} {p : Value} {q : List Int} (h : Own w base p q) : ∃ a b c, p = .slice a b c := by
  obtain ⟨la, lc, e⟩ := owns_form h
  exact ⟨_, _, _, e⟩
theorem get5 {P : Value → List Int → Prop} {a b c d f : Value} {q0 q1 q2 q3 q4 : List Int} (h0 : P a q0) (h1 : P b q1) (h2 : P c q2) (h3 : P d q3) (h4 : P f q4) : ∀ (i : Nat) v q, [a, b, c, d, f][i]? = some v → [q0, q1, q2, q3, q4][i]? = some q → P v q := by
  intro i v q hv hq
  match i, hv, hq with
  | 0, hv, hq => cases hv; cases hq; exact h0
  | 1, hv, hq => cases hv; cases hq; exact h1
  | 2, hv, hq => cases hv; cases hq; exact h2
  | 3, hv, hq => cases hv; cases hq; exact h3
  | 4, hv, hq => cases hv; cases hq; exact h4
/-- Five new lists, each in blocks behind those before. -/
theorem pw5 {fv : Value} {vs : List Value} {s0 s1 s2 s3 s4 s5 : Nat} {a b c d f : Value} (h : (fv :: vs).Pairwise Apart) (ho : ∀ v ∈ fv :: vs, Fr 0 s0 v) (ha : Fr s0 s1 a) (hb : Fr s1 s2 b) (hc : Fr s2 s3 c) (hd : Fr s3 s4 d) (hf : Fr s4 s5 f) (h1 : s0 ≤ s1) (h2 : s1 ≤ s2) (h3 : s2 ≤ s3) (h4 : s3 ≤ s4) : (fv :: (vs ++ [a, b, c, d, f])).Pairwise Apart := by
  rw [← List.cons_append, List.pairwise_append]
  refine ⟨h, ?_, fun x hx y hy => ?_⟩
  · simp only [List.pairwise_cons, List.mem_cons, List.not_mem_nil, or_false, forall_eq_or_imp, forall_eq, List.Pairwise.nil, and_true, false_imp_iff, implies_true]
    exact ⟨⟨ha.apart hb (Nat.le_refl _), ha.apart hc (by omega), ha.apart hd (by omega), ha.apart hf (by omega)⟩, ⟨hb.apart hc (Nat.le_refl _), hb.apart hd (by omega), hb.apart hf (by omega)⟩, ⟨hc.apart hd (Nat.le_refl _), hc.apart hf (by omega)⟩, hd.apart hf (Nat.le_refl _)⟩
  · have hx := ho x hx
    simp only [List.mem_cons, List.not_mem_nil, or_false] at hy
    rcases hy with rfl | rfl | rfl | rfl | rfl
    · exact hx.apart ha (Nat.le_refl _)
    · exact hx.apart hb (by omega)
    · exact hx.apart hc (by omega)
    · exact hx.apart hd (by omega)
    · exact hx.apart hf (by omega)
theorem G1.fr {w wr : World} {base : Nat} {fv av pv : Value} {vs ps : List Value} {qs rs : List (List Int)} {fq : List Int} (h : G1 w wr base fv av pv vs ps qs rs) (hF : Own wr base fv fq) : ∀ v ∈ fv :: vs, Fr 0 wr.heap.size v := by
  intro v hv
  rcases List.mem_cons.1 hv with rfl | hv
  · exact (own_fr hF).mono (Nat.zero_le _) (Nat.le_refl _)
  · obtain ⟨i, hi⟩ := List.getElem?_of_mem hv
    have hil := (List.getElem?_eq_some_iff.1 hi).1
    obtain ⟨x, -, -⟩ := h.each i v _ hi (List.getElem?_eq_getElem (by rw [← h.lenA]; exact hil))
    exact (own_fr x).mono (Nat.zero_le _) (Nat.le_refl _)
theorem uintB_len (n : Int) (h : n ≤ 9223372036854775807) : (uintB n).length ≤ 10000 := by
  unfold uintB
  split
  · simp
  · have := grp_len 9 n.toNat (by omega) (by omega)
    omega
theorem floatB_len (u : Nat) : (floatB u).length ≤ 10000 := by
  unfold floatB
  split
  · rw [low8_len]; omega
  · simp
theorem textB_len (s : ByteArray) (h : s.size ≤ 4000) : (textB s).length ≤ 10000 := by
  unfold textB
  split
  · simp
  · have := grp_len 9 s.size (by omega) (by omega)
    rw [List.length_append, strL_len]; omega
theorem own_rd {w : World} {base : Nat} {ao : Option Addr} {len cap : Nat} {q : List Int} (h : Own w base (.slice ao len cap) q) (hb : Byt q) : Rd w ao len cap q := by
  obtain ⟨ao', cap', e, r⟩ := Rd.of_owns h hb
  simp only [Value.slice.injEq] at e
  obtain ⟨rfl, rfl, rfl⟩ := e
  exact r
theorem b_to {w a b : World} (h : Below w.heap.size w a) (k : Below a.heap.size a b) : Below w.heap.size w b := h.trans (k.mono h.size)
theorem g3_start {w wr : World} {base : Nat} {fv av pv : Value} {fq : List Int} {vs ps : List Value} {qs rs : List (List Int)} (h : G1 w wr base fv av pv vs ps qs rs) (hF : Own wr base fv fq) (hz : base ≤ wr.heap.size) : G3 w (wr.alloc (Obj.cells #[Value.slice none 0 0, Value.slice none 0 0] 44)) base wr.heap.size fv av (.slice none 0 0) (.slice none 0 0) fq vs [] [] 0 := by
  have hap : ∀ v : Value, Apart v (.slice none 0 0) := fun v k _ hk => by simp [Value.ownBlock] at hk
  refine ⟨⟨heap_alloc_new wr _, OwnV.nil _ _, Own.nil _ _, rfl, fun i hi => by simp at hi⟩, fun e he => by simp at he, World.ownsRow.alloc h.A _, hap _, World.ownsRow.alloc hF _, hap _, fun j _ hj => ?_, h.pw, h.below.trans ((Below.refl _ wr).alloc hz _), hz⟩
  obtain ⟨x, y, z⟩ := h.each j _ _ (List.getElem?_eq_getElem hj) (List.getElem?_eq_getElem (by rw [← h.lenA]; exact hj))
  exact ⟨_, _, List.getElem?_eq_getElem hj, World.ownsRow.alloc x _, z, hap _, fun e he => by simp at he⟩
set_option maxRecDepth 100000 in
set_option maxHeartbeats 16000000 in
theorem wireLent_core (n : Int) (hn0 : -9223372036854775808 ≤ n) (hn1 : n ≤ 9223372036854775807) (u : Nat) (hu : u < 18446744073709551616) (s s1 : ByteArray) (hs0 : s.size ≤ 9223372036854775807) (hs1 : s1.size ≤ 4000) (ao a1 : Option Addr) (len cap l1 c1 : Nat) (xs : List Int) (w : World) (hr : Rd w a1 l1 c1 xs) (hT : U8 w) (hl : len ≤ 9223372036854775807) (hl1 : l1 ≤ 4000)
    (h1 : (decide ((4000 : Int) < (len : Int)) = true ∧ ∀ w, (Instr.slice 23 (.slice ao len cap) none (some (.int .i64 4000)) none).run Tryd.prog w = .ok (.slice a1 l1 c1) w) ∨ (decide ((4000 : Int) < (len : Int)) = false ∧ a1 = ao ∧ l1 = len ∧ c1 = cap))
    (h2 : (decide ((4000 : Int) < (s.size : Int)) = true ∧ ∀ w, (Instr.slice 9 (.string s) none (some (.int .i64 4000)) none).run Tryd.prog w = .ok (.string s1) w) ∨ (decide ((4000 : Int) < (s.size : Int)) = false ∧ s1 = s)) :
    Calls Tryd.prog 3 #[.int .i64 n, .int .u64 (u : Int), .string s, .slice ao len cap] w fun e w' => e = .returned (.bool true) ∧ Below w.heap.size w w' := by
  have HR : Hid _ := hr
  have HT : Hid (U8 w) := hT
  have HXL : Hid (xs.length = l1) := hr.length
  have HQ : Hid ((rdR (frameB xs) 0).1 = xs) := by
    have := rdR_frame [] xs [] (by rw [hr.length]; omega)
    simp only [List.nil_append, List.append_nil, List.length_nil] at this
    show (rdR (frameB xs) ((0 : Nat) : Int)).1 = xs
    rw [this]
  have HFB : Hid (Byt (frameB xs)) := frame_byt hr.byt
  have HFL : Hid ((frameB xs).length ≤ 10000) := by unfold Hid; rw [frame_len, hr.length]; omega
  clear hr hT
  go_enter Tryd.func3, Tryd.ntmps3
  go_upto_region 3 with (first | (go_at_call 4; refine (told_any _).mono ?_; rintro e w1 ⟨rfl, g1⟩; have HB1 : Hid (Below w.heap.size w w1) := g1; clear g1))
  go_upto_if 40 with fail
  go_cut [3] (fun s0 wx => s0 = .slice a1 l1 c1 ∧ w1 = wx)
  case first =>
    rcases h1 with ⟨h1, h1'⟩ | ⟨h1, rfl, rfl, rfl⟩
    all_goals
      rw [h1]
      go_wp2_with fail
      go_meet
      exact ⟨rfl, rfl⟩
  case rest =>
  obtain ⟨rfl, rfl⟩ := hcut
  clear h1
  go_upto_if 45 with fail
  go_cut [2] (fun s0 wx => s0 = .string s1 ∧ w1 = wx)
  case first =>
    rcases h2 with ⟨h2, h2'⟩ | ⟨h2, rfl⟩
    all_goals
      rw [h2]
      go_wp2_with fail
      go_meet
      exact ⟨rfl, rfl⟩
  case rest =>
  obtain ⟨rfl, rfl⟩ := hcut
  clear h2
  go_upto_region 9 with (first | (go_at_call 5; refine (refFrame_small a1 l1 c1 xs _ (HR.out.later HB1.out) (by omega)).mono ?_; rintro e w2 ⟨fv, rfl, hF, g2⟩; obtain ⟨fa, fl, fc, rfl⟩ := Own.slice hF; have HF : Hid (Own w2 w.heap.size (.slice fa fl fc) (frameB xs)) := own_low hF HB1.out.size; have HB2 : Hid (Below w.heap.size w w2) := HB1.out.trans (g2.mono HB1.out.size); clear hF g2 HB1))
  have HG0 : Hid (G1 w w2 w.heap.size (.slice fa fl fc) (.slice none 0 0) (.slice none 0 0) [] [] [] []) := ⟨OwnV.nil _ _, OwnV.nil _ _, fun k hk => by simp [Value.ownBlock] at hk, rfl, fun i v q h => by simp at h, by simp, rfl, fun i v q h => by simp at h, HB2.out⟩
  go_wp2_with fail
  go_loopg [11, 12, 13] 2 (fun g av pv iv wr => ∃ (j : Nat) (vs ps : List Value) (qs : List (List Int)), j + g = 2 ∧ iv = .int .i64 j ∧ vs.length = 5 * j ∧ Hid (Own wr w.heap.size (.slice fa fl fc) (frameB xs)) ∧ Hid (G1 w wr w.heap.size (.slice fa fl fc) av pv vs ps qs qs) ∧ Hid (w.heap.size ≤ wr.heap.size))
  case atStart => exact ⟨0, [], [], [], by omega, rfl, rfl, HF, HG0, HB2.out.size⟩
  case round =>
    clear HG0 HF HB2
    obtain ⟨j, vs, ps, qs, hj, rfl, hvl, HF, HG, HZ⟩ := hrel
    by_cases hlt : j < 2
    · have hd1 : decide ((j : Int) < 2) = true := decide_eq_true (by omega)
      obtain ⟨g, rfl⟩ : ∃ g, gk = g + 1 := ⟨gk - 1, by omega⟩
      go_upto_region 17 with (first
        | (go_at_call 6; refine (uint_any n hn0 hn1 _).mono ?_; rintro e wa ⟨va, rfl, oa, ga⟩; obtain ⟨pa, la, ca, rfl⟩ := Own.slice oa; have XA : Hid (Below wr.heap.size wr wa) := ga; have OA : Hid _ := oa; have YA : Hid _ := ga; clear oa ga) 
        | (go_at_call 8; refine (float_any u _).mono ?_; rintro e wf ⟨rfl, hwf⟩; rw [hwf]; clear hwf) 
        | (go_at_call 7; refine (wfloat_any u hu _).mono ?_; rintro e wb ⟨vb, rfl, ob, gb⟩; obtain ⟨pb, lb, cb, rfl⟩ := Own.slice ob; have XB : Hid (Below wr.heap.size wr wb) := b_to XA.out gb; have OB : Hid _ := ob; have YB : Hid _ := gb; clear ob gb) 
        | (go_at_call 9; refine (text_any s1 _ (U8.later HT.out (b_to HG.out.below XB.out)) (by omega)).mono ?_; rintro e wc ⟨vc, rfl, oc, gc⟩; obtain ⟨pc, lc, cc, rfl⟩ := Own.slice oc; have XC : Hid (Below wr.heap.size wr wc) := b_to XB.out gc; have OC : Hid _ := oc; have YC : Hid _ := gc; clear oc gc) 
        | (go_at_call 10; refine (frame_small a1 l1 c1 xs _ (HR.out.later (b_to HG.out.below XC.out)) (by omega)).mono ?_; rintro e wd ⟨vd, rfl, od, gd⟩; obtain ⟨pd, ld, cd, rfl⟩ := Own.slice od; have XD : Hid (Below wr.heap.size wr wd) := b_to XC.out gd; have OD : Hid _ := od; have YD : Hid _ := gd; clear od gd) 
        | (go_at_call 11; refine (readFrame_any fa fl fc (frameB xs) 0 _ ((own_rd HF.out HFB.out).later XD.out)).mono ?_; rintro e we ⟨ve, rfl, oe, ge⟩; obtain ⟨pe, le, ce, rfl⟩ := Own.slice oe; have XE : Hid (Below wr.heap.size wr we) := b_to XD.out ge; have OE : Hid _ := oe; have YE : Hid _ := ge; clear oe ge))
      have HGE : Hid _ := HG.out.later XE.out HZ.out
      have HFE : Hid _ := own_later HF.out XE.out
      have KA : Hid (Own we w.heap.size (.slice pa la ca) (uintB n)) := own_low (own_later OA.out (b_to YB.out (b_to YC.out (b_to YD.out YE.out)))) HZ.out
      have KB : Hid (Own we w.heap.size (.slice pb lb cb) (floatB u)) := own_low (own_later OB.out (b_to YC.out (b_to YD.out YE.out))) (Nat.le_trans HZ.out XA.out.size)
      have KC : Hid (Own we w.heap.size (.slice pc lc cc) (textB s1)) := own_low (own_later OC.out (b_to YD.out YE.out)) (Nat.le_trans HZ.out XB.out.size)
      have KD : Hid (Own we w.heap.size (.slice pd ld cd) (frameB xs)) := own_low (own_later OD.out YE.out) (Nat.le_trans HZ.out XC.out.size)
      have KE : Hid (Own we w.heap.size (.slice pe le ce) xs) := by have := own_low OE.out (Nat.le_trans HZ.out XD.out.size); rw [HQ.out] at this; exact this
      have HPW : Hid ((Value.slice fa fl fc :: (vs ++ [Value.slice pa la ca, .slice pb lb cb, .slice pc lc cc, .slice pd ld cd, .slice pe le ce])).Pairwise Apart) := pw5 HG.out.pw (HG.out.fr HF.out) (own_fr OA.out) (own_fr OB.out) (own_fr OC.out) (own_fr OD.out) (own_fr OE.out) XA.out.size YB.out.size YC.out.size YD.out.size
      have hze : w.heap.size ≤ we.heap.size := Nat.le_trans HZ.out XE.out.size
      clear OA OB OC OD OE YA YB YC YD YE XA XB XC XD XE HG HF HZ
      go_upto_region 18 with (first
        | (refine append_gr Tryd.underlying27 Tryd.infoBytes rfl (by decide) _ (by rfl) _ _ (by rfl) w.heap.size _ vs (by rfl) (World.ownsRow.alloc HGE.out.A _) ⟨we.heap.size, 0, none⟩ 5 5 [Value.slice pa la ca, .slice pb lb cb, .slice pc lc cc, .slice pd ld cd, .slice pe le ce] (by rfl) rfl (by decide) (cells_new5 we) (one_new5 (by intro v hv; simp only [List.mem_cons, List.not_mem_nil, or_false] at hv; rcases hv with rfl | rfl | rfl | rfl | rfl <;> exact ⟨_, _, _, rfl⟩)) (by omega) (by simp; omega) ?_; intro av' wg o7 c7; have HG7 : Hid (G1 w wg w.heap.size (.slice fa fl fc) av' _ (vs ++ [Value.slice pa la ca, .slice pb lb cb, .slice pc lc cc, .slice pd ld cd, .slice pe le ce]) ps (qs ++ [uintB n, floatB u, textB s1, frameB xs, xs]) qs) := HGE.out.addA hze o7 c7 rfl (get5 (P := fun v q => Own we w.heap.size v q ∧ Byt q ∧ q.length ≤ 10000) ⟨KA.out, uintB_byt n, uintB_len n hn1⟩ ⟨KB.out, floatB_byt u, floatB_len u⟩ ⟨KC.out, textB_byt s1, textB_len s1 hs1⟩ ⟨KD.out, HFB.out, HFL.out⟩ ⟨KE.out, HR.out.byt, by rw [HXL.out]; omega⟩) HPW.out; have HF7 : Hid (Own wg w.heap.size (.slice fa fl fc) (frameB xs)) := own_at (World.ownsRow.alloc HFE.out _) (World.ownsRow.alloc HGE.out.A _) (by decide) c7; clear o7 c7))
      clear KA KB KC KD KE HPW HGE HFE hze
      have hzg := HG7.out.below.size
      go_upto_region 21 with (first
        | (go_at_call 12; refine (refUint_any n hn0 hn1 _).mono ?_; rintro e wp ⟨vp, rfl, op, gp⟩; obtain ⟨pp, lp, cp, rfl⟩ := Own.slice op; have OP : Hid _ := op; have YP : Hid _ := gp; clear op gp)
        | (go_at_call 13; refine (refFloat_any u hu _).mono ?_; rintro e wq ⟨vq, rfl, oq, gq⟩; obtain ⟨pq, lq, cq, rfl⟩ := Own.slice oq; have OQ : Hid _ := oq; have YQ : Hid _ := gq; have XQ : Hid (Below wg.heap.size wg wq) := b_to YP.out gq; clear oq gq)
        | (go_at_call 14; refine (refText_any s1 _ (by omega)).mono ?_; rintro e wz ⟨vz, rfl, oz, gz⟩; obtain ⟨pz, lz, cz, rfl⟩ := Own.slice oz; have OZ : Hid _ := oz; have YZ : Hid _ := gz; have XZ : Hid (Below wg.heap.size wg wz) := b_to XQ.out gz; clear oz gz))
      have HGE : Hid _ := HG7.out.later XZ.out hzg
      have HFE : Hid _ := own_later HF7.out XZ.out
      have KA : Hid (Own wz w.heap.size (.slice pp lp cp) (uintB n)) := own_low (own_later OP.out (b_to YQ.out YZ.out)) hzg
      have KB : Hid (Own wz w.heap.size (.slice pq lq cq) (floatB u)) := own_low (own_later OQ.out YZ.out) (Nat.le_trans hzg YP.out.size)
      have KC : Hid (Own wz w.heap.size (.slice pz lz cz) (textB s1)) := own_low OZ.out (Nat.le_trans hzg XQ.out.size)
      have hze : w.heap.size ≤ wz.heap.size := Nat.le_trans hzg XZ.out.size
      have hpl : ps.length = vs.length := by have h3 := HG7.out.lenA; have h4 := HG7.out.lenP; simp at h3; omega
      clear OP OQ OZ YP YQ YZ XQ XZ HG7 HF7 hzg
      go_wp2_with (first
        | (refine append_gr Tryd.underlying27 Tryd.infoBytes rfl (by decide) _ (by rfl) _ _ (by rfl) w.heap.size _ ps (by rfl) (World.ownsRow.alloc HGE.out.P _) ⟨wz.heap.size, 0, none⟩ 5 5 [Value.slice pp lp cp, .slice pq lq cq, .slice pz lz cz, .slice fa fl fc, .slice a1 l1 c1] (by rfl) rfl (by decide) (cells_new5 wz) (one_new5 (by intro v hv; simp only [List.mem_cons, List.not_mem_nil, or_false] at hv; rcases hv with rfl | rfl | rfl | rfl | rfl <;> exact ⟨_, _, _, rfl⟩)) (by omega) (by simp; omega) ?_; intro pv' wh o8 c8; have HG8 : Hid (G1 w wh w.heap.size (.slice fa fl fc) av' pv' (vs ++ [Value.slice pa la ca, .slice pb lb cb, .slice pc lc cc, .slice pd ld cd, .slice pe le ce]) (ps ++ [Value.slice pp lp cp, .slice pq lq cq, .slice pz lz cz, .slice fa fl fc, .slice a1 l1 c1]) (qs ++ [uintB n, floatB u, textB s1, frameB xs, xs]) (qs ++ [uintB n, floatB u, textB s1, frameB xs, xs])) := HGE.out.addP hze o8 c8 rfl (get5 (P := fun v q => Reads w wz w.heap.size v q) (.inl ⟨KA.out, uintB_byt n⟩) (.inl ⟨KB.out, floatB_byt u⟩) (.inl ⟨KC.out, textB_byt s1⟩) (.inl ⟨HFE.out, HFB.out⟩) (.inr ⟨a1, l1, c1, rfl, HR.out⟩)); have HF8 : Hid (Own wh w.heap.size (.slice fa fl fc) (frameB xs)) := own_at (World.ownsRow.alloc HFE.out _) (World.ownsRow.alloc HGE.out.P _) (by decide) c8; clear o8 c8))
      go_roundg g
      case measure => omega
      case rel => exact ⟨j + 1, _, _, _, by omega, by go_num, by simp [hvl]; omega, HF8, HG8, HG8.out.below.size⟩
    · have hd1 : decide ((j : Int) < 2) = false := decide_eq_false (by omega)
      have HVL : Hid (vs.length = 10) := (by omega : vs.length = 10)
      have hvb : vs.length ≤ 100 := by omega
      clear hvl
      go_upto_region 22 with fail
      obtain ⟨Aa, Ac, rfl⟩ := owns_form HG.out.A
      obtain ⟨Pa, Pc, rfl⟩ := owns_form HG.out.P
      have hpl : Hid (ps.length = vs.length) := (by have h3 := HG.out.lenA; have h4 := HG.out.lenP; omega : ps.length = vs.length)
      obtain ⟨W1, hW1⟩ : ∃ W1, Hid (W1 = wr) := ⟨_, rfl⟩
      go_wp2_with fail
      go_loopg [31] vs.length (fun g iv wx => ∃ k : Nat, k + g = vs.length ∧ iv = .int .i64 k ∧ Hid (Below W1.heap.size W1 wx))
      case atStart => exact ⟨0, by omega, rfl, by rw [hW1.out]; exact Below.refl _ _⟩
      case round =>
        obtain ⟨k, hk, rfl, IB⟩ := hrel
        by_cases hlt2 : k < vs.length
        · have hd2 : decide ((k : Int) < (vs.length : Int)) = true := decide_eq_true (by omega)
          obtain ⟨g, rfl⟩ : ∃ g, gk = g + 1 := ⟨gk - 1, by omega⟩
          have HGk : Hid _ := (hW1.out ▸ HG.out : G1 w W1 w.heap.size _ _ _ vs ps qs qs).later IB.out (by rw [hW1.out]; exact HZ.out)
          obtain ⟨gA, cA, e1, c1'⟩ := owns_cell HGk.out.A hlt2
          obtain ⟨gP, cP, e2, c2'⟩ := owns_cell HGk.out.P (show k < ps.length by rw [hpl.out]; exact hlt2)
          simp only [Value.slice.injEq] at e1 e2
          obtain ⟨rfl, -, rfl⟩ := e1
          obtain ⟨rfl, -, rfl⟩ := e2
          obtain ⟨v, hv⟩ : ∃ v, vs[k]? = some v := ⟨_, List.getElem?_eq_getElem hlt2⟩
          obtain ⟨p, hp⟩ : ∃ p, ps[k]? = some p := ⟨_, List.getElem?_eq_getElem (show k < ps.length by rw [hpl.out]; exact hlt2)⟩
          obtain ⟨q, hq⟩ : ∃ q, qs[k]? = some q := ⟨_, List.getElem?_eq_getElem (by rw [← HGk.out.lenA]; exact hlt2)⟩
          obtain ⟨o1, b1, z1⟩ := HGk.out.each k v q hv hq
          obtain ⟨va, vc, rfl⟩ := owns_form o1
          obtain ⟨pa, pl, pc, rfl, r2⟩ := (HGk.out.want k p q hp hq).rd HGk.out.below
          have R1 : Hid _ := own_rd o1 b1
          have R2 : Hid _ := r2
          rw [hv] at c1'
          rw [hp] at c2'
          have hpk : (k : Int) < (ps.length : Int) := by have := hpl.out; omega
          clear o1 b1 z1 r2 hv hp hq HGk
          generalize q.length = ql at *
          go_upto_region 25 with fail
          go_region_with (first
            | (go_at_call 15; refine (same_any va pa ql pl vc pc q q _ (R1.out.later (Below.refl _ _).drew) (R2.out.later (Below.refl _ _).drew)).mono ?_; rintro e w5 ⟨rfl, g5⟩; rw [show decide (q = q) = true from decide_eq_true rfl]; have IB5 : Hid (Below W1.heap.size W1 w5) := b_to (IB.out.drew) g5; clear g5))
          all_goals
            go_wp2_with fail
            go_roundg g
            case measure => omega
            case rel => exact ⟨k + 1, by omega, by go_num, IB5⟩
        · have hd2 : decide ((k : Int) < (vs.length : Int)) = false := decide_eq_false (by omega)
          go_upto_region 27 with fail
          have HGk : Hid _ := (hW1.out ▸ HG.out : G1 w W1 w.heap.size _ _ _ vs ps qs qs).later IB.out (by rw [hW1.out]; exact HZ.out)
          have HFk : Hid _ := (own_later (hW1.out ▸ HF.out : Own W1 w.heap.size (.slice fa fl fc) (frameB xs)) IB.out)
          clear HG HF HZ
          go_upto_region 28 with fail
          have HG3 : Hid (G3 w (wr.alloc (Obj.cells #[Value.slice none 0 0, Value.slice none 0 0] 44)) w.heap.size wr.heap.size (.slice fa fl fc) (.slice Aa vs.length Ac) (.slice none 0 0) (.slice none 0 0) (frameB xs) vs [] [] 0) := g3_start HGk.out HFk.out HGk.out.below.size
          obtain ⟨BB, hBB⟩ : ∃ BB, BB = wr.heap.size := ⟨_, rfl⟩
          rw [← hBB] at HG3 ⊢
          generalize wr.alloc (Obj.cells #[Value.slice none 0 0, Value.slice none 0 0] 44) = W3 at HG3 ⊢
          clear HGk HFk hBB IB
          go_wp2_with fail
          go_loopg [33] vs.length (fun g iv wx => ∃ (k : Nat) (Lv Mv : Value) (es : List Value) (ms : List Int), k + g = vs.length ∧ iv = .int .i64 k ∧ Hid (es.length = 3 * k) ∧ Hid (G3 w wx w.heap.size BB (.slice fa fl fc) (.slice Aa vs.length Ac) Lv Mv (frameB xs) vs es ms k))
          case atStart => exact ⟨0, _, _, [], [], by omega, rfl, rfl, HG3⟩
          case round =>
            clear HG3
            obtain ⟨k, Lv, Mv, es, ms, hk, rfl, HE, HG3⟩ := hrel
            by_cases hlt2 : k < vs.length
            · have hd2 : decide ((k : Int) < (vs.length : Int)) = true := decide_eq_true (by omega)
              obtain ⟨g, rfl⟩ : ∃ g, gk = g + 1 := ⟨gk - 1, by omega⟩
              obtain ⟨v, q, t1, t2, t3, t4, t5⟩ := HG3.out.rest k (Nat.le_refl _) hlt2
              obtain ⟨gA, cA, e1, c1'⟩ := owns_cell HG3.out.A hlt2
              simp only [Value.slice.injEq] at e1
              obtain ⟨rfl, -, rfl⟩ := e1
              rw [t1] at c1'
              obtain ⟨va, vc, rfl⟩ := owns_form t2
              have T1 : Hid _ := t1
              have T2 : Hid (Own wr w.heap.size (.slice va q.length vc) q) := t2
              have T3 : Hid _ := t3
              have T4 : Hid (Apart (.slice va q.length vc) Mv) := t4
              have T5 : Hid (∀ e ∈ es, Apart (.slice va q.length vc) e) := t5
              clear t1 t2 t3 t4 t5
              obtain ⟨ql, HQL⟩ : ∃ ql, Hid (q.length = ql) := ⟨_, rfl⟩
              rw [HQL.out] at c1' T1 T2 T4 T5
              go_wp2_with (first
                | (go_at_call 16; refine (take_any w.heap.size BB Lv Mv (.slice va ql vc) es ms q _ HG3.out.bk.blk HG3.out.le HG3.out.bk.L HG3.out.bk.M T2.out T4.out (by have := HE.out; omega) (by have := HE.out; have := HG3.out.bk.len; omega) T3.out HG3.out.below.size).mono ?_; rintro e w6 ⟨rfl, Lv', Mv', v2, v3, t6⟩; have HG4 : Hid _ := HG3.out.step T1.out T2.out T3.out T4.out T5.out t6; clear t6))
              go_roundg g
              case measure => omega
              case rel => exact ⟨k + 1, _, _, _, _, by omega, by go_num, by have := HE.out; unfold Hid; simp; omega, HG4⟩
            · have hd2 : decide ((k : Int) < (vs.length : Int)) = false := decide_eq_false (by omega)
              have hel : es.length ≤ 1000 := by have := HE.out; omega
              go_wp2_with (first
                | (go_at_call 10; refine (frame_small a1 l1 c1 xs _ (HR.out.later HG3.out.below) (by omega)).mono ?_; rintro e w6 ⟨v6, rfl, o6, g6⟩; obtain ⟨p6, l6, c6, rfl⟩ := Own.slice o6; have R6 : Hid (Rd w6 p6 l6 c6 (frameB xs)) := own_rd o6 HFB.out; have K6 : Hid (BkOk w6 w.heap.size BB Lv Mv es ms) := HG3.out.bk.later g6; have F6 : Hid (Rd w6 fa fl fc (frameB xs)) := (own_rd HG3.out.F HFB.out).later g6; have B6 : Hid (Below w.heap.size w w6) := b_to HG3.out.below g6; clear o6 g6 HG3)
                | (go_at_call 17; refine (whole_any w.heap.size BB Lv Mv es ms _ K6.out hel).mono ?_; rintro e w7 ⟨rfl, g7⟩; have R7 : Hid _ := R6.out.later g7; have F7 : Hid _ := F6.out.later g7; have B7 : Hid (Below w.heap.size w w7) := b_to B6.out g7; clear g7 K6 R6 F6 B6)
                | (go_at_call 15; refine (same_any p6 fa l6 fl c6 fc (frameB xs) (frameB xs) _ R7.out F7.out).mono ?_; rintro e w8 ⟨rfl, g8⟩; rw [show decide (frameB xs = frameB xs) = true from decide_eq_true rfl]; have B8 : Hid (Below w.heap.size w w8) := b_to B7.out g8; clear g8 R7 F7 B7)
                | (go_at_call 4; refine (told_any _).mono ?_; rintro e w9 ⟨rfl, g9⟩; have B9 : Hid (Below w.heap.size w w9) := b_to B8.out g9; clear g9 B8))
              go_ret
              exact ⟨rfl, B9.out⟩
theorem wireLent_walk (n : Int) (hn0 : -9223372036854775808 ≤ n) (hn1 : n ≤ 9223372036854775807) (u : Nat) (hu : u < 18446744073709551616) (s : ByteArray) (hs0 : s.size ≤ 9223372036854775807) (ao : Option Addr) (len cap : Nat) (xs : List Int) (w : World) (hr : Rd w ao len cap xs) (hT : U8 w) :
    Calls Tryd.prog 3 #[.int .i64 n, .int .u64 (u : Int), .string s, .slice ao len cap] w fun e w' => e = .returned (.bool true) ∧ Below w.heap.size w w' := by
  obtain ⟨a1, l1, c1, ys, hr1, hl1, h1⟩ : ∃ a1 l1 c1 ys, Rd w a1 l1 c1 ys ∧ l1 ≤ 4000 ∧ ((decide ((4000 : Int) < (len : Int)) = true ∧ ∀ w, (Instr.slice 23 (.slice ao len cap) none (some (.int .i64 4000)) none).run Tryd.prog w = .ok (.slice a1 l1 c1) w) ∨ (decide ((4000 : Int) < (len : Int)) = false ∧ a1 = ao ∧ l1 = len ∧ c1 = cap)) := by
    by_cases h : len ≤ 4000
    · exact ⟨ao, len, cap, xs, hr, h, .inr ⟨decide_eq_false (by omega), rfl, rfl, rfl⟩⟩
    · obtain ⟨a, l, c, hs, hr'⟩ := cut_to hr 4000 (by omega)
      exact ⟨a, l, c, _, hr', by have := hr'.length; rw [List.length_take] at this; omega, .inl ⟨decide_eq_true (by omega), hs⟩⟩
  obtain ⟨s1, hs1, h2⟩ : ∃ s1 : ByteArray, s1.size ≤ 4000 ∧ ((decide ((4000 : Int) < (s.size : Int)) = true ∧ ∀ w, (Instr.slice 9 (.string s) none (some (.int .i64 4000)) none).run Tryd.prog w = .ok (.string s1) w) ∨ (decide ((4000 : Int) < (s.size : Int)) = false ∧ s1 = s)) := by
    by_cases h : s.size ≤ 4000
    · exact ⟨s, h, .inr ⟨decide_eq_false (by omega), rfl⟩⟩
    · refine ⟨s.extract 0 4000, by rw [ByteArray.size_extract]; omega, .inl ⟨decide_eq_true (by omega), fun w => ?_⟩⟩
      have := run_slice_string_h (P := Tryd.prog) (w := w) (t := 9) (s := s) Tryd.underlying9 .i64 (4000 : Int) (by omega) (by omega)
      simpa using this
  have hl : len ≤ 9223372036854775807 := by have := hr.le; have := hr.max; omega
  exact wireLent_core n hn0 hn1 u hu s s1 hs0 hs1 ao a1 len cap l1 c1 ys w hr1 hT hl hl1 h1 h2
end Go.Proofs.YtpinpcefgbhdmaaDoor
