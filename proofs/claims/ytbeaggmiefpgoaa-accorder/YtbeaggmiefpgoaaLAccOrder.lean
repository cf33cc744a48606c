import Derived.Test.YtbeaggmiefpgoaaYE
namespace Go.Proofs.Ytbeaggmiefpgoaa
open Go.RowKit
set_option linter.unusedVariables false

/-- What the loops carry. -/
structure OrdS (w2 wr : World) (Bx By Bp : Nat) (X Y P : Int) : Prop where
  bel : Below w2.heap.size w2 wr
  ax : AccO wr Bx (some X)
  ay : AccO wr By (some Y)
  ap : AccO wr Bp (some P)
theorem OrdS.later {w2 wr w' : World} {Bx By Bp : Nat} {X Y P : Int} (h : OrdS w2 wr Bx By Bp X Y P) (hb : Below wr.heap.size wr w') : OrdS w2 w' Bx By Bp X Y P :=
  ⟨h.bel.trans (hb.mono h.bel.size), h.ax.below hb h.ax.block, h.ay.below hb h.ay.block, h.ap.below hb h.ap.block⟩
theorem OrdS.x {w2 wr w' : World} {Bx By Bp : Nat} {X Y P X' : Int} (h : OrdS w2 wr Bx By Bp X Y P) (hc : Chg Bx wr w') (ha : AccO w' Bx (some X')) (h1 : By ≠ Bx) (h2 : Bp ≠ Bx) (hb : w2.heap.size ≤ Bx) : OrdS w2 w' Bx By Bp X' Y P :=
  ⟨h.bel.trans (hc.below.mono hb), ha, h.ay.chg hc h1, h.ap.chg hc h2⟩
theorem OrdS.y {w2 wr w' : World} {Bx By Bp : Nat} {X Y P Y' : Int} (h : OrdS w2 wr Bx By Bp X Y P) (hc : Chg By wr w') (ha : AccO w' By (some Y')) (h1 : Bx ≠ By) (h2 : Bp ≠ By) (hb : w2.heap.size ≤ By) : OrdS w2 w' Bx By Bp X Y' P :=
  ⟨h.bel.trans (hc.below.mono hb), h.ax.chg hc h1, ha, h.ap.chg hc h2⟩
theorem OrdS.p {w2 wr w' : World} {Bx By Bp : Nat} {X Y P P' : Int} (h : OrdS w2 wr Bx By Bp X Y P) (hc : Chg Bp wr w') (ha : AccO w' Bp (some P')) (h1 : Bx ≠ Bp) (h2 : By ≠ Bp) (hb : w2.heap.size ≤ Bp) : OrdS w2 w' Bx By Bp X Y P' :=
  ⟨h.bel.trans (hc.below.mono hb), h.ax.chg hc h1, h.ay.chg hc h2, ha⟩
theorem OwnT.chg {w w' : World} {base B : Nat} {v : Value} {ts : List TmV} (h : OwnT w base v ts) (hc : Chg B w w') (hB : B < base) : OwnT w' base v ts :=
  h.keep fun k hk => hc.other k (h.lt k hk).2 (by have := (h.lt k hk).1; omega)
theorem getT {ts : List TmV} {k : Nat} (h : k < ts.length) : ts[k]?.getD tmD = ts[k] := by rw [List.getElem?_eq_getElem h]; rfl
theorem psum_take {ts : List TmV} {k : Nat} (h : k < ts.length) : psum (ts.take (k + 1)) = psum (ts.take k) + prT ts[k] := by
  rw [List.take_succ_eq_append_getElem h, psum_append, psum_one]
/-- Where the rest of a row begins. -/
def restA (g k cp : Nat) : Addr := if cp = k + 1 then ⟨g, 0, none⟩ else ⟨g, (k + 1) * 3, none⟩
theorem sliceA (g len cp k : Nat) (hk : k < cp) (w : World) : (Instr.slice 55 (.slice (some ⟨g, 0, none⟩) len cp) none (some (.int .i64 (k : Int))) none).run Try.prog w = .ok (.slice (some ⟨g, 0, none⟩) k cp) w := by
  rw [sliceT_h _ len cp k (by omega)]
  unfold sliced
  rw [if_neg (by omega)]
  simp [Addr.add]
theorem sliceB (g len cp k : Nat) (hk : k < len) (hc : len ≤ cp) (w : World) : (Instr.slice 55 (.slice (some ⟨g, 0, none⟩) len cp) (some (.int .i64 ((k : Int) + 1))) none none).run Try.prog w = .ok (.slice (some (restA g k cp)) (len - (k + 1)) (cp - (k + 1))) w := by
  have := sliceT_l (some ⟨g, 0, none⟩) len cp (k + 1) (by omega) w
  rw [show (((k + 1 : Nat) : Int)) = (k : Int) + 1 by omega] at this
  rw [this]
  unfold sliced restA
  by_cases h : cp = k + 1
  · rw [if_pos h, if_pos h]
  · rw [if_neg h, if_neg h, Option.map_some, Addr.add_lit, Nat.zero_add]
theorem news_head {W : World} {g : Nat} {L : List TmV} {k : Nat} (h : ∀ j u, (tmcs L)[j]? = some u → W.cell? ⟨g, j, none⟩ = some u) : ∀ j u, (tmcs (L.take k))[j]? = some u → W.cell? ((⟨g, 0, none⟩ : Addr).add j) = some u := by
  intro j u hu
  rw [Addr.add_lit, Nat.zero_add]
  rw [tmcs_take, List.getElem?_take] at hu
  split at hu
  · exact h j u hu
  · cases hu
theorem news_rest {W : World} {g cp : Nat} {L : List TmV} {k : Nat} (hc : L.length ≤ cp) (h : ∀ j u, (tmcs L)[j]? = some u → W.cell? ⟨g, j, none⟩ = some u) : ∀ j u, (tmcs (L.drop (k + 1)))[j]? = some u → W.cell? ((restA g k cp).add j) = some u := by
  intro j u hu
  unfold restA
  by_cases e : cp = k + 1
  · rw [List.drop_of_length_le (by omega)] at hu
    simp [tmcs] at hu
  · rw [if_neg e, Addr.add_lit]
    rw [tmcs_drop, List.getElem?_drop] at hu
    exact h _ u hu
theorem and40 (n : Int) : ∃ N : Nat, bits .and .i64 n 1099511627775 = (N : Int) ∧ N ≤ 1099511627775 := by
  have h1 : (BitVec.ofInt 64 1099511627775).toNat = 2 ^ 40 - 1 := by decide
  have h2 : (BitVec.ofInt 64 n &&& BitVec.ofInt 64 1099511627775).toNat = (BitVec.ofInt 64 n).toNat % 2 ^ 40 := by
    rw [BitVec.toNat_and, h1, Nat.and_two_pow_sub_one_eq_mod]
  have h3 : (BitVec.ofInt 64 n).toNat % 2 ^ 40 < 1099511627776 := Nat.mod_lt _ (by decide)
  refine ⟨(BitVec.ofInt 64 n).toNat % 2 ^ 40, ?_, by omega⟩
  show IntKind.i64.wrap ((BitVec.ofInt 64 n &&& BitVec.ofInt 64 1099511627775).toNat : Nat) = _
  rw [h2, IntKind.wrap_i64]
  omega
set_option maxRecDepth 100000 in
set_option maxHeartbeats 4000000 in
theorem accOrder_walk (ao : Option Addr) (len cap : Nat) (F : Nat → TmV) (oo : Option Addr) (olen ocap : Nat) (G : Nat → Int) (mo : Option Addr) (mlen mcap : Nat) (M : Nat → TmV) (w : World) (hl : RdT w ao len cap F) (ho : RdI w oo olen ocap G) (hm : RdT w mo mlen mcap M) :
    Calls Try.prog 5 #[.slice ao len cap, .slice oo olen ocap, .slice mo mlen mcap] w fun e w' => e = .returned (.bool true) ∧ Below w.heap.size w w' := by
  have HL : Hid (RdT w ao len cap F) := hl
  have HO : Hid (RdI w oo olen ocap G) := ho
  have HM : Hid (RdT w mo mlen mcap M) := hm
  have hom := ho.max
  have hole := ho.le
  unfold maxLen at hom
  clear hl ho hm
  go_enter Try.func5, Try.ntmps5
  go_wp2_with fail
  refine (terms_any ao len cap F _ HL.out).mono ?_
  rintro e w1 ⟨v1, rfl, o1, b1⟩
  have O1 : Hid (OwnT w1 w.heap.size v1 (tsOf F (min len 200))) := o1
  have B1 : Hid (Below w.heap.size w w1) := b1
  clear o1 b1
  go_wp2_with fail
  refine (terms_any mo mlen mcap M _ (HM.out.later B1.out)).mono ?_
  rintro e w2 ⟨v2, rfl, o2, b2⟩
  obtain ⟨ts, hts⟩ : ∃ ts, tsOf F (min len 200) = ts := ⟨_, rfl⟩
  obtain ⟨ms, hms⟩ : ∃ ms, tsOf M (min mlen 200) = ms := ⟨_, rfl⟩
  have OT : Hid (∀ t ∈ ts, OkT t) := by rw [← hts]; exact tsOf_ok F _ (fun j hj => ⟨(HL.out.lt j (by omega)).1, (HL.out.lt j (by omega)).2.1⟩)
  have OM : Hid (∀ t ∈ ms, OkT t) := by rw [← hms]; exact tsOf_ok M _ (fun j hj => ⟨(HM.out.lt j (by omega)).1, (HM.out.lt j (by omega)).2.1⟩)
  have LT : Hid (ts.length ≤ 200) := by have := tsOf_len F (min len 200); rw [hts] at this; unfold Hid; omega
  rw [hts] at O1
  rw [hms] at o2
  obtain ⟨lo, lc, rfl, hrl⟩ := (O1.out.later b2).form (fun t ht => by have := OT.out t ht; exact ⟨this.2.2.1, this.2.2.2.1, this.2.2.2.2.1, this.2.2.2.2.2⟩)
  obtain ⟨no, nc, rfl, hrm⟩ := o2.form (fun t ht => by have := OM.out t ht; exact ⟨this.2.2.1, this.2.2.2.1, this.2.2.2.2.1, this.2.2.2.2.2⟩)
  have O1' : Hid (OwnT w2 w.heap.size (.slice lo ts.length lc) ts) := O1.out.later b2
  have HRL : Hid (RdT w2 lo ts.length lc (fun j => ts[j]?.getD tmD)) := hrl
  have HRM : Hid (RdT w2 no ms.length nc (fun j => ms[j]?.getD tmD)) := hrm
  have B2 : Hid (Below w.heap.size w w2) := B1.out.trans (b2.mono B1.out.size)
  have HO2 : Hid (RdI w2 oo olen ocap G) := HO.out.later B2.out
  have hlm := hrl.max
  have hmm := hrm.max
  have hll := hrl.le
  have hml := hrm.le
  unfold maxLen at hlm hmm
  clear hts hms o2 b2 hrl hrm O1 B1 HL HO HM
  go_wp2_with fail
  refine (new_any _).mono ?_
  rintro e w3 ⟨rfl, a3, b3, s3⟩
  have A3 : Hid (AccO w3 w2.heap.size (some 0)) := a3
  have B3 : Hid (Below w2.heap.size w2 w3) := b3
  have S3 : Hid (w3.heap.size = w2.heap.size + 1) := s3
  clear a3 b3 s3
  go_wp2_with fail
  refine (new_any _).mono ?_
  rintro e w4 ⟨rfl, a4, b4, s4⟩
  have A4 : Hid (AccO w4 w3.heap.size (some 0)) := a4
  have B4 : Hid (Below w3.heap.size w3 w4) := b4
  have S4 : Hid (w4.heap.size = w3.heap.size + 1) := s4
  clear a4 b4 s4
  go_wp2_with fail
  refine (new_any _).mono ?_
  rintro e w5 ⟨rfl, a5, b5, s5⟩
  have Z5 : Hid (OrdS w2 w5 w2.heap.size w3.heap.size w4.heap.size 0 0 0) := ⟨(B3.out.trans (B4.out.mono B3.out.size)).trans (b5.mono (Nat.le_trans B3.out.size B4.out.size)), (A3.out.below B4.out A3.out.block).below b5 (by have := S4.out; have := S3.out; omega), A4.out.below b5 A4.out.block, a5⟩
  have S5 : Hid (w5.heap.size = w4.heap.size + 1) := s5
  clear a5 b5 s5 A3 A4 B3 B4
  go_wp2_with fail
  refine (begun_any _).mono ?_
  rintro e w6 ⟨rfl, b6⟩
  have Z6 : Hid (OrdS w2 w6 w2.heap.size w3.heap.size w4.heap.size 0 0 0) := Z5.out.later b6
  have S6 : Hid (w4.heap.size < w6.heap.size) := by unfold Hid; have := S5.out; have := b6.size; omega
  clear b6 Z5 S5
  obtain ⟨Bx, hBx⟩ : ∃ Bx, w2.heap.size = Bx := ⟨_, rfl⟩
  obtain ⟨By, hBy⟩ : ∃ By, w3.heap.size = By := ⟨_, rfl⟩
  obtain ⟨Bp, hBp⟩ : ∃ Bp, w4.heap.size = Bp := ⟨_, rfl⟩
  have HXY : Hid (w2.heap.size = Bx ∧ By = Bx + 1 ∧ Bp = By + 1 ∧ Bp < w6.heap.size) := ⟨hBx, by rw [← hBx, ← hBy]; exact S3.out, by rw [← hBy, ← hBp]; exact S4.out, by rw [← hBp]; exact S6.out⟩
  go_upto_region 6 with fail
  rw [hBx, hBy, hBp] at Z6
  clear hBx hBy hBp S3 S4 S6
  have O6 : Hid (OwnT w6 w.heap.size (.slice lo ts.length lc) ts) := O1'.out.later Z6.out.bel
  go_cut [10] (fun v wx => Hid (OwnT wx w6.heap.size v ts) ∧ Hid (OrdS w2 wx Bx By Bp 0 0 0))
  case first =>
    rcases O6.out.2 with ⟨hv, h0⟩ | ⟨g, cp, cur, hv, hg, hh, hc, hx, hs, ht⟩
    · have hnil : ts = [] := List.eq_nil_of_length_eq_zero h0
      subst hnil
      cases hv
      obtain ⟨i0, hi, hz0, hz1, hz2⟩ := info_parts Try.infoTerm
      have HN : Hid (OwnT w6 w6.heap.size (.slice none 0 0) []) := OwnT.nil _ _
      go_wp2_with (first | (at_builtin; refine wpList_append_own_none (by rfl) (.tmp 36) (.tmp 37) 55 (by rfl) w6.heap.size 60 i0 3 Try.underlying55 hi (.slice none 0 0) 0 _ (by rfl) HN.out (by rfl) ?_))
      go_meet
      exact ⟨HN, Z6⟩
    · cases hv
      have HNW : Hid (∀ j u, (tmcs ts)[j]? = some u → w6.cell? ((⟨g, 0, none⟩ : Addr).add j) = some u) := by
        intro j u hu
        rw [Addr.add_lit, Nat.zero_add, cell_of_row _ g _ _ _ _ hh]
        rw [← ht, List.getElem?_take] at hu
        split at hu
        · rw [Array.getElem?_toList] at hu; exact hu
        · cases hu
      clear hh hg hc hx hs ht
      go_wp2_with (first | (at_builtin; refine appendTs _ (by rfl) (.tmp 36) (.tmp 37) (by rfl) w6.heap.size (.slice none 0 0) [] ts (by rfl) (OwnT.nil _ _) ⟨g, 0, none⟩ _ (by rfl) HNW.out (by have := LT.out; simp; omega) (Nat.le_refl _) ?_; intro v7 w7 hO7 hg7; have HO7 : Hid (OwnT w7 w6.heap.size v7 ts) := hO7; have Z7 : Hid (OrdS w2 w7 Bx By Bp 0 0 0) := Z6.out.later ⟨hg7.os, hg7.tape, hg7.output, hg7.size, fun k hk => hg7.block k hk (by simp [Value.ownBlock])⟩; clear hO7 hg7))
      go_meet
      exact ⟨HO7, Z7⟩
  case rest =>
  obtain ⟨OL, Z7⟩ := hcut
  clear O6 O1' Z6
  go_wp2_with fail
  go_loopw [11] (fun iv wr => ∃ k : Nat, k ≤ ts.length ∧ iv = .int .i64 k ∧ Hid (OwnT wr w6.heap.size u10 ts) ∧ Hid (OrdS w2 wr Bx By Bp (psum (ts.take k)) 0 0)) (fun iv _ => ts.length - (intOf iv).toNat)
  case atStart => exact ⟨0, by omega, rfl, OL, Z7⟩
  case round =>
    obtain ⟨k, hk, rfl, K1, K2⟩ := hrel
    by_cases hlt : k < ts.length
    · have hd : decide ((k : Int) < (ts.length : Int)) = true := decide_eq_true (by omega)
      have hr := HRL.out.later K2.out.bel
      rcases hr.cells with h0 | ⟨b, off, rfl, hc⟩
      · omega
      · obtain ⟨g0, g1, g2⟩ := hc k hlt
        rw [getT hlt] at g0 g1 g2
        have hok := OT.out ts[k] (List.getElem_mem hlt)
        have hps := psum_take hlt
        have hbd := psum_lt (ts.take (k + 1)) (fun t ht => OT.out t (List.mem_of_mem_take ht))
        have HPR : Hid (prodO (some (psum (ts.take k))) ts[k].a ts[k].b ts[k].n = some (psum (ts.take (k + 1)))) := by
          unfold Hid
          rw [hps]
          refine prodO_ok hok ?_
          rw [← hps]
          have h1 : (ts.take (k + 1)).length ≤ 200 := by have := LT.out; rw [List.length_take]; omega
          have h2 : (ts.take (k + 1)).length * topM ≤ 200 * topM := Nat.mul_le_mul_right _ h1
          omega
        obtain ⟨ta, hta⟩ : ∃ ta, ts[k].a = ta := ⟨_, rfl⟩
        obtain ⟨tb, htb⟩ : ∃ tb, ts[k].b = tb := ⟨_, rfl⟩
        obtain ⟨tn, htn⟩ : ∃ tn, ts[k].n = tn := ⟨_, rfl⟩
        rw [hta, htb, htn] at HPR
        have ha : ta < 18446744073709551616 := by rw [← hta]; exact hok.2.2.1
        have hb : tb < 18446744073709551616 := by rw [← htb]; exact hok.2.2.2.1
        rw [hta] at g0
        rw [htb] at g1
        rw [htn] at g2
        clear hr hc hok hps hbd hta htb htn
        go_wp2_with fail
        refine (into_any Bx _ ta tb tn false ha hb _ K2.out.ax).mono ?_
        rintro e w8 ⟨rfl, s1, s2⟩
        rw [show turnB false ta = ta from rfl, HPR.out] at s1
        have HX := HXY.out
        have K1' : Hid (OwnT w8 w6.heap.size u10 ts) := K1.out.chg s2 (by omega)
        have K2' : Hid (OrdS w2 w8 Bx By Bp (psum (ts.take (k + 1))) 0 0) := K2.out.x s2 s1 (by omega) (by omega) (by omega)
        clear s1 s2 HX g0 g1 g2
        go_wp2_with fail
        go_roundw
        case rel => exact ⟨k + 1, by omega, by go_num, K1', K2'⟩
        case measure => simp [intOf]; omega
    · have hkm : k = ts.length := by omega
      have hd : decide ((k : Int) < (ts.length : Int)) = false := decide_eq_false (by omega)
      have Z8 : Hid (OrdS w2 wr Bx By Bp (psum ts) 0 0) := by
        have := K2.out
        rw [hkm, List.take_length] at this
        exact this
      clear hkm K2 Z7 OL
      go_wp2_with fail
      go_loopw [10, 12] (fun lv iv wr => ∃ (i : Nat) (L : List TmV) (Y P : Int), iv = .int .i64 i ∧ i + L.length = ts.length ∧ Hid (OwnT wr w6.heap.size lv L) ∧ Hid (∀ t ∈ L, OkT t) ∧ Hid (OrdS w2 wr Bx By Bp (psum ts) Y P) ∧ Hid (Y - P + psum L = psum ts ∧ Y.natAbs ≤ 2 * i * topM ∧ P.natAbs ≤ 2 * i * topM)) (fun _ iv _ => 200 - (intOf iv).toNat)
      case atStart => exact ⟨0, ts, 0, 0, rfl, by omega, K1, OT, Z8, by unfold Hid; simp⟩
      case round =>
        obtain ⟨i, L, Y, P, rfl, hiL, K3, K4, K5, K6⟩ := hrel
        have hi200 : i ≤ 200 := by have := LT.out; omega
        by_cases hL : 0 < L.length
        · have hi199 : i < 200 := by have := LT.out; omega
          obtain ⟨g, cp, rfl, hg, hgl, hcp, hcm, hcl⟩ := K3.out.some hL
          have hd : decide ((0 : Int) < (L.length : Int)) = true := decide_eq_true (by omega)
          unfold maxLen at hcm
          have HCL : Hid (∀ j u, (tmcs L)[j]? = some u → wr.cell? ⟨g, j, none⟩ = some u) := hcl
          have HGG : Hid (w6.heap.size ≤ g ∧ g < wr.heap.size) := ⟨hg, hgl⟩
          clear hcl hg hgl
          go_upto_if 59 with fail
          go_cut [13] (fun v wx => ∃ k : Nat, v = .int .i64 (k : Int) ∧ k < L.length ∧ wx = wr)
          case first =>
            by_cases hio : i < olen
            · have hdo : decide ((i : Int) < (olen : Int)) = true := decide_eq_true (by omega)
              have hr := HO2.out.later K5.out.bel
              rcases hr.cells with h0 | ⟨b, off, rfl, hc⟩
              · omega
              · have g0 := hc i hio
                obtain ⟨n40, hn40, hn41⟩ := and40 (G i)
                have hmod : (n40 : Int) % (L.length : Int) = ((n40 % L.length : Nat) : Int) := by simp
                have hkl := Nat.mod_lt n40 hL
                generalize n40 % L.length = kk at hmod hkl
                clear hr hc
                go_wp2_with fail
                go_meet
                exact ⟨kk, by first | rfl | (rw [hmod]), hkl, rfl⟩
            · have hdo : decide ((i : Int) < (olen : Int)) = false := decide_eq_false (by omega)
              go_wp2_with fail
              go_meet
              exact ⟨0, rfl, hL, rfl⟩
          case rest =>
          obtain ⟨k, rfl, hkL, hw⟩ := hcut
          subst hw
          obtain ⟨t0, t1, t2⟩ := tmcs_at L k hkL
          have g0 := HCL.out _ _ t0
          have g1 := HCL.out _ _ t1
          have g2 := HCL.out _ _ t2
          obtain ⟨ta, hta⟩ : ∃ ta, L[k].a = ta := ⟨_, rfl⟩
          obtain ⟨tb, htb⟩ : ∃ tb, L[k].b = tb := ⟨_, rfl⟩
          obtain ⟨tn, htn⟩ : ∃ tn, L[k].n = tn := ⟨_, rfl⟩
          have HTT : Hid (L[k].a = ta ∧ L[k].b = tb ∧ L[k].n = tn) := ⟨hta, htb, htn⟩
          rw [hta] at g0
          rw [htb] at g1
          rw [htn] at g2
          clear t0 t1 t2 hta htb htn
          go_upto_region 18 with fail
          have BT : Hid (Below wc.heap.size wc (wc.alloc (.cells #[.int .u64 (ta : Int), .int .u64 (tb : Int), .int .i64 tn] 60))) := (Below.refl _ wc).alloc (Nat.le_refl _) _
          have NT : Hid _ := heap_alloc_new wc (.cells #[.int .u64 (ta : Int), .int .u64 (tb : Int), .int .i64 tn] 60)
          have CT : Hid (∀ j u, (tmcs L)[j]? = some u → (wc.alloc (.cells #[.int .u64 (ta : Int), .int .u64 (tb : Int), .int .i64 tn] 60)).cell? ⟨g, j, none⟩ = some u) := fun j u hu => by
            rw [BT.out.cell (p := ⟨g, j, none⟩) HGG.out.2]; exact HCL.out j u hu
          generalize wc.alloc (.cells #[.int .u64 (ta : Int), .int .u64 (tb : Int), .int .i64 tn] 60) = wt at BT NT CT ⊢
          have ZT : Hid (OrdS w2 wt Bx By Bp (psum ts) Y P) := K5.out.later BT.out
          have HSZ : Hid (wc.heap.size < wt.heap.size ∧ g < wt.heap.size) := ⟨(Array.getElem?_eq_some_iff.1 NT.out).1, by have := HGG.out.2; have := BT.out.size; omega⟩
          have sA := sliceA g L.length cp k (by omega)
          have sB := sliceB g L.length cp k hkL hcp
          have vk : IntKind.i64.wrap ((k : Int) + 1) = (k : Int) + 1 := by rw [IntKind.wrap_i64]; omega
          have HLL : Hid (L.length ≤ 200 ∧ (L.take k).length = k ∧ (L.drop (k + 1)).length = L.length - (k + 1)) := ⟨by have := LT.out; omega, by rw [List.length_take]; omega, by rw [List.length_drop]⟩
          clear g0 g1 g2 HCL
          go_region_held3 (fun _ => True) (trivial) ((first | (refine stepTs _ (by rfl) _ (.tmp 74) (by rfl) wt.heap.size (.slice none 0 0) [] (L.take k) (by rfl) (OwnT.nil _ _) ⟨g, 0, none⟩ k cp HLL.out.2.1 (by rfl) (news_head CT.out) (by have := HLL.out; simp; omega) (Nat.le_refl _) ?_; intro v8 w8 hO8 hg8; have HO8 : Hid (OwnT w8 wt.heap.size v8 (L.take k)) := hO8; have B8 : Hid (Below wt.heap.size wt w8) := ⟨hg8.os, hg8.tape, hg8.output, hg8.size, fun q hq => hg8.block q hq (by simp [Value.ownBlock])⟩; clear hO8 hg8) | (refine stepTs _ (by rfl) (.tmp 75) (.tmp 79) (by rfl) wt.heap.size _ (L.take k) (L.drop (k + 1)) (by rfl) HO8.out (restA g k cp) (L.length - (k + 1)) (cp - (k + 1)) HLL.out.2.2 (by rfl) (news_rest hcp (fun j u hu => by rw [B8.out.cell (p := ⟨g, j, none⟩) HSZ.out.2]; exact CT.out j u hu)) (by have := HLL.out; omega) B8.out.size ?_; intro v9 w9 hO9 hg9; have HO9 : Hid (OwnT w9 wt.heap.size v9 (dropAt L k)) := hO9; have B9 : Hid (Below wt.heap.size wt w9) := B8.out.grown hg9 B8.out.size (fun q hq => (HO8.out.lt q hq).1); clear hO9 hg9)))
          have O9 : Hid (OwnT w9 w6.heap.size v9 (dropAt L k)) := HO9.out.lower (by have := HGG.out; have := HSZ.out; omega)
          have Z9 : Hid (OrdS w2 w9 Bx By Bp (psum ts) Y P) := ZT.out.later B9.out
          have N9 : Hid (w9.heap[wc.heap.size]? = some (.cells #[.int .u64 (ta : Int), .int .u64 (tb : Int), .int .i64 tn] 60)) := (B9.out.block _ HSZ.out.1).trans NT.out
          have HTB : Hid (w6.heap.size ≤ wc.heap.size) := by unfold Hid; have := HGG.out; omega
          clear HO9 HO8 B8 B9 ZT NT CT BT sA sB vk
          go_upto_if 84 with fail
          go_cut [12] (fun v wx => v = .int .i64 (i : Int) ∧ ∃ Y' P' : Int, Hid (OwnT wx w6.heap.size v9 (dropAt L k)) ∧ Hid (OrdS w2 wx Bx By Bp (psum ts) Y' P') ∧ Hid (wx.heap[wc.heap.size]? = some (.cells #[.int .u64 (ta : Int), .int .u64 (tb : Int), .int .i64 tn] 60)) ∧ Hid (Y' - P' = Y - P ∧ Y'.natAbs ≤ 2 * i * topM + topM ∧ P'.natAbs ≤ 2 * i * topM + topM))
          case first =>
            by_cases him : i < ms.length
            · have hdm : decide ((i : Int) < (ms.length : Int)) = true := decide_eq_true (by omega)
              have hok := OM.out ms[i] (List.getElem_mem him)
              have hpt := prT_lt hok
              have hr := HRM.out.later Z9.out.bel
              rcases hr.cells with h0 | ⟨b, off, hno, hc⟩
              · omega
              · obtain ⟨g0, g1, g2⟩ := hc i him
                rw [getT him] at g0 g1 g2
                have h400 : 2 * i * topM ≤ 400 * topM := Nat.mul_le_mul_right _ (by omega)
                have HP1 : Hid (prodO (some Y) ms[i].a ms[i].b ms[i].n = some (Y + prT ms[i])) := prodO_ok hok (by have := K6.out; omega)
                have HP2 : Hid (prodO (some P) ms[i].a ms[i].b ms[i].n = some (P + prT ms[i])) := prodO_ok hok (by have := K6.out; omega)
                have HK6 : Hid (Y + prT ms[i] - (P + prT ms[i]) = Y - P ∧ (Y + prT ms[i]).natAbs ≤ 2 * i * topM + topM ∧ (P + prT ms[i]).natAbs ≤ 2 * i * topM + topM) := by unfold Hid; have := K6.out; omega
                obtain ⟨ma, hma⟩ : ∃ ma, ms[i].a = ma := ⟨_, rfl⟩
                obtain ⟨mb, hmb⟩ : ∃ mb, ms[i].b = mb := ⟨_, rfl⟩
                obtain ⟨mn, hmn⟩ : ∃ mn, ms[i].n = mn := ⟨_, rfl⟩
                rw [hma, hmb, hmn] at HP1 HP2
                have hal : ma < 18446744073709551616 := by rw [← hma]; exact hok.2.2.1
                have hbl : mb < 18446744073709551616 := by rw [← hmb]; exact hok.2.2.2.1
                rw [hma] at g0
                rw [hmb] at g1
                rw [hmn] at g2
                obtain ⟨pm, hpm⟩ : ∃ pm, prT ms[i] = pm := ⟨_, rfl⟩
                rw [hpm] at HP1 HP2 HK6
                have HBL : Hid (b < Bx) := by
                  have hb0 : b < w2.heap.size := by
                    rcases HRM.out.cells with h0 | ⟨b2, off2, e2, hc2⟩
                    · omega
                    · rw [hno] at e2; cases e2; exact World.block_lt_of_cell? w2 _ (hc2 i him).1
                  unfold Hid; have := HXY.out; omega
                subst hno
                clear hr hc hok hpt hma hmb hmn hpm h400
                go_wp2_with fail
                refine (into_any By _ ma mb mn false hal hbl _ Z9.out.ay).mono ?_
                rintro e wa ⟨rfl, s1, s2⟩
                rw [show turnB false ma = ma from rfl, HP1.out] at s1
                have Za : Hid (OrdS w2 wa Bx By Bp (psum ts) (Y + pm) P) := Z9.out.y s2 s1 (by have := HXY.out; omega) (by have := HXY.out; omega) (by have := HXY.out; omega)
                have Oa : Hid (OwnT wa w6.heap.size v9 (dropAt L k)) := O9.out.chg s2 (by have := HXY.out; omega)
                have Na : Hid (wa.heap[wc.heap.size]? = _) := (s2.other _ (Array.getElem?_eq_some_iff.1 N9.out).1 (by have := HTB.out; have := HXY.out; omega)).trans N9.out
                have q0 : wa.cell? ⟨b, off + i * 3, none⟩ = some (.int .u64 (ma : Int)) := by rw [s2.below.cell (p := ⟨b, off + i * 3, none⟩) (by show b < By; have := HBL.out; have := HXY.out; omega)]; exact g0
                have q1 : wa.cell? ⟨b, off + i * 3 + 1, none⟩ = some (.int .u64 (mb : Int)) := by rw [s2.below.cell (p := ⟨b, off + i * 3 + 1, none⟩) (by show b < By; have := HBL.out; have := HXY.out; omega)]; exact g1
                have q2 : wa.cell? ⟨b, off + i * 3 + 2, none⟩ = some (.int .i64 mn) := by rw [s2.below.cell (p := ⟨b, off + i * 3 + 2, none⟩) (by show b < By; have := HBL.out; have := HXY.out; omega)]; exact g2
                clear s1 s2 g0 g1 g2 Z9 O9 N9
                go_wp2_with fail
                refine (into_any Bp _ ma mb mn false hal hbl _ Za.out.ap).mono ?_
                rintro e wb ⟨rfl, s1, s2⟩
                rw [show turnB false ma = ma from rfl, HP2.out] at s1
                have Zb : Hid (OrdS w2 wb Bx By Bp (psum ts) (Y + pm) (P + pm)) := Za.out.p s2 s1 (by have := HXY.out; omega) (by have := HXY.out; omega) (by have := HXY.out; omega)
                have Ob : Hid (OwnT wb w6.heap.size v9 (dropAt L k)) := Oa.out.chg s2 (by have := HXY.out; omega)
                have Nb : Hid (wb.heap[wc.heap.size]? = some (.cells #[.int .u64 (ta : Int), .int .u64 (tb : Int), .int .i64 tn] 60)) := (s2.other _ (Array.getElem?_eq_some_iff.1 Na.out).1 (by have := HTB.out; have := HXY.out; omega)).trans Na.out
                clear s1 s2 q0 q1 q2 Za Oa Na
                go_wp2_with fail
                go_meet
                exact ⟨rfl, Y + pm, P + pm, Ob, Zb, Nb, HK6⟩
            · have hdm : decide ((i : Int) < (ms.length : Int)) = false := decide_eq_false (by omega)
              go_wp2_with fail
              go_meet
              exact ⟨rfl, Y, P, O9, Z9, N9, by unfold Hid; have := K6.out; omega⟩
          case rest =>
          obtain ⟨rfl, Y', P', OA, ZA, NA, K7⟩ := hcut
          obtain ⟨c0, c1, c2⟩ := three_cells' NA.out
          have hok := K4.out L[k] (List.getElem_mem hkL)
          have hpt := prT_lt hok
          have hsum := psum_dropAt L k hkL
          have hdl := dropAt_len L k hkL
          have h400 : 2 * i * topM ≤ 400 * topM := Nat.mul_le_mul_right _ (by omega)
          have hmul : 2 * (i + 1) * topM = 2 * i * topM + topM + topM := by rw [Nat.mul_add, Nat.add_mul]; omega
          have HP1 : Hid (prodO (some Y') L[k].a L[k].b L[k].n = some (Y' + prT L[k])) := prodO_ok hok (by have := K7.out; omega)
          have HP2 : Hid (prodO (some P') (fopp L[k].a) L[k].b L[k].n = some (P' - prT L[k])) := prodO_no hok (by have := K7.out; omega)
          have KY : Hid (Y' + prT L[k] - P' + psum (dropAt L k) = psum ts ∧ (Y' + prT L[k]).natAbs ≤ 2 * (i + 1) * topM ∧ P'.natAbs ≤ 2 * (i + 1) * topM) := by unfold Hid; rw [hmul]; have := K6.out; have := K7.out; omega
          have KP : Hid (Y' - (P' - prT L[k]) + psum (dropAt L k) = psum ts ∧ Y'.natAbs ≤ 2 * (i + 1) * topM ∧ (P' - prT L[k]).natAbs ≤ 2 * (i + 1) * topM) := by unfold Hid; rw [hmul]; have := K6.out; have := K7.out; omega
          have hal : ta < 18446744073709551616 := by rw [← HTT.out.1]; exact hok.2.2.1
          have hbl : tb < 18446744073709551616 := by rw [← HTT.out.2.1]; exact hok.2.2.2.1
          rw [HTT.out.1, HTT.out.2.1, HTT.out.2.2] at HP1 HP2
          generalize prT L[k] = pt at HP1 HP2 KY KP hpt hsum
          have HMEM : Hid (∀ t ∈ dropAt L k, OkT t) := fun t ht => K4.out t (dropAt_mem ht)
          have HIL : Hid (i + 1 + (dropAt L k).length = ts.length) := by unfold Hid; omega
          clear hok hpt hsum hdl h400 hmul
          by_cases h3 : i % 3 = 1
          · have hi3 : (i : Int) % 3 = 1 := by omega
            clear h3
            go_wp2_with fail
            refine (into_any Bp _ ta tb tn true hal hbl _ ZA.out.ap).mono ?_
            rintro e wd ⟨rfl, s1, s2⟩
            rw [show turnB true ta = fopp ta from rfl, HP2.out] at s1
            have Zd : Hid (OrdS w2 wd Bx By Bp (psum ts) Y' (P' - pt)) := ZA.out.p s2 s1 (by have := HXY.out; omega) (by have := HXY.out; omega) (by have := HXY.out; omega)
            have Od : Hid (OwnT wd w6.heap.size v9 (dropAt L k)) := OA.out.chg s2 (by have := HXY.out; omega)
            clear s1 s2 c0 c1 c2
            go_wp2_with fail
            go_roundw
            case rel => exact ⟨i + 1, dropAt L k, Y', P' - pt, by go_num, HIL.out, Od, HMEM, Zd, KP⟩
            case measure => simp [intOf]; omega
          · have hi3 : ((i : Int) % 3 == 1) = false := by simp; omega
            clear h3
            go_wp2_with fail
            refine (into_any By _ ta tb tn false hal hbl _ ZA.out.ay).mono ?_
            rintro e wd ⟨rfl, s1, s2⟩
            rw [show turnB false ta = ta from rfl, HP1.out] at s1
            have Zd : Hid (OrdS w2 wd Bx By Bp (psum ts) (Y' + pt) P') := ZA.out.y s2 s1 (by have := HXY.out; omega) (by have := HXY.out; omega) (by have := HXY.out; omega)
            have Od : Hid (OwnT wd w6.heap.size v9 (dropAt L k)) := OA.out.chg s2 (by have := HXY.out; omega)
            clear s1 s2 c0 c1 c2
            go_wp2_with fail
            go_roundw
            case rel => exact ⟨i + 1, dropAt L k, Y' + pt, P', by go_num, HIL.out, Od, HMEM, Zd, KY⟩
            case measure => simp [intOf]; omega
        · have hL0 : L = [] := List.eq_nil_of_length_eq_zero (by omega)
          subst hL0
          obtain ⟨qo, qc, rfl, _⟩ := K3.out.form (fun t ht => by cases ht)
          have HJ : Hid (joinO (some Y) (some P) true = some (psum ts)) := by
            unfold Hid
            have h1 := K6.out.1
            have h2 : psum [] = 0 := rfl
            rw [h2, Int.add_zero] at h1
            have h3 := psum_lt ts OT.out
            have h4 : ts.length * topM ≤ 200 * topM := Nat.mul_le_mul_right _ LT.out
            show holdZ (Y + (if true = true then -P else P)) = _
            rw [if_pos rfl, ← Int.sub_eq_add_neg, h1]
            exact hold_small (by omega)
          have hdl : decide ((0 : Int) < (([] : List TmV).length : Int)) = false := by decide
          go_wp2_with fail
          refine (accJoin_any By Bp (some Y) (some P) true _ K5.out.ay K5.out.ap).mono ?_
          rintro e wd ⟨rfl, s1, s2⟩
          rw [HJ.out] at s1
          have Zd : Hid (OrdS w2 wd Bx By Bp (psum ts) (psum ts) P) := K5.out.y s2 s1 (by have := HXY.out; omega) (by have := HXY.out; omega) (by have := HXY.out; omega)
          clear s1 s2
          go_wp2_with fail
          refine (twins_any Bx By (psum ts) _ Zd.out.ax Zd.out.ay).mono ?_
          rintro e we ⟨rfl, be⟩
          have BE : Hid (Below w.heap.size w we) := (B2.out.trans (Zd.out.bel.mono B2.out.size)).trans (be.mono (Nat.le_trans B2.out.size Zd.out.bel.size))
          clear be
          go_wp2_with fail
          go_ret
          exact ⟨rfl, BE.out⟩
end Go.Proofs.Ytbeaggmiefpgoaa
