import Derived.Test.YtfldgjkpkmnkbabDoorTurned
import Derived.Test.YtfldgjkpkmnkbabDoorOwnI
import Derived.Test.YtfldgjkpkmnkbabDoorLPoints
import Derived.Test.YtfldgjkpkmnkbabDoorLBack
import Derived.Laws.OwnMore
import Derived.Deep.DeepCutAuto
namespace Go.Proofs.YtfldgjkpkmnkbabDoor
open Go.RowKit
set_option linter.unusedVariables false

theorem OwnI.nats {w : World} {base : Nat} {v : Value} {ks : List Nat} (h : OwnI w base v (ks.map (Int.ofNat ·))) : ∃ a c, v = .slice a ks.length c ∧ (ks.length = 0 ∨ ∃ g, a = some ⟨g, 0, none⟩ ∧ ∀ j, j < ks.length → w.cell? ⟨g, j, none⟩ = some (.int .i64 ((ks[j]?.getD 0 : Nat) : Int))) := by
  rcases h.rd with ⟨h0, rfl⟩ | ⟨g, c, rfl, hc⟩
  · have : ks = [] := by simpa using h0
    subst this
    exact ⟨none, 0, rfl, .inl rfl⟩
  · rw [List.length_map] at hc ⊢
    refine ⟨_, _, rfl, .inr ⟨g, rfl, fun j hj => ?_⟩⟩
    rw [hc j hj, List.getElem?_map, List.getElem?_eq_getElem hj]
    rfl
theorem mem_snoc (ks : List Nat) (j t : Nat) (hj : j < ks.length) : t ∈ ks.take (j + 1) ↔ t ∈ ks.take j ∨ ks[j]?.getD 0 = t := by
  rw [List.take_succ_eq_append_getElem hj, List.mem_append, List.mem_singleton, List.getElem?_eq_getElem hj]
  exact or_congr Iff.rfl eq_comm

theorem i64_and1 (n : Int) : bits .and .i64 n 1 = n % 2 := by
  have h3 : (BitVec.ofInt 64 1).toNat = 2 ^ 1 - 1 := by decide
  have key : (BitVec.ofInt 64 n &&& BitVec.ofInt 64 1).toNat = (n % ((2 ^ 64 : Nat) : Int)).toNat % 2 ^ 1 := by
    rw [BitVec.toNat_and, BitVec.toNat_ofInt, h3, Nat.and_two_pow_sub_one_eq_mod]
  show IntKind.i64.wrap ((BitVec.ofInt 64 n &&& BitVec.ofInt 64 1).toNat : Nat) = n % 2
  rw [key, IntKind.wrap_i64]
  omega
theorem turn_bit (V M : Nat) (hV : V < 256) (hM : M < 8) : bits .xor .u8 (V : Int) ((2 : Int) ^ M % 256) = ((V ^^^ 2 ^ M : Nat) : Int) := by
  have h1 : 2 ^ M ≤ 2 ^ 7 := Nat.pow_le_pow_right (by decide) (by omega)
  have e : ((2 : Int) ^ M % 256) = ((2 ^ M : Nat) : Int) := by
    have h2 : ((2 : Int) ^ M) = ((2 ^ M : Nat) : Int) := by simp
    rw [h2]
    generalize (2 : Nat) ^ M = P at h1
    omega
  rw [e, u8_xor_nat V (2 ^ M) hV (by omega)]
/-- The row of bytes behind one more turned bit. -/
theorem turned_row (F bs : List Int) (ks : List Nat) (t V : Nat) (ht : t < 8 * F.length) (hV : (flips F ks)[t / 8]?.getD 0 = (V : Int)) : (flips F ks ++ bs).set (t / 8) ((V ^^^ 2 ^ (t % 8) : Nat) : Int) = flips F (ks ++ [t]) ++ bs := by
  rw [List.set_append_left _ _ (by rw [flips_len]; omega), flips_snoc, flip_set _ t (by rw [flips_len]; exact ht), hV, Int.toNat_natCast]

set_option maxRecDepth 100000 in
set_option maxHeartbeats 16000000 in
theorem wireTurned_core (ao a1 ai ab a2 : Option Addr) (len cap l1 c1 li ci lb cb l2 c2 : Nat) (xs is bs : List Int) (fr : Int) (pt : Nat) (w : World) (hr : Rd w a1 l1 c1 xs) (hri : RdI w ai li ci is) (hrb : Rd w a2 l2 c2 bs) (hl : len ≤ 9223372036854775807) (hl1 : l1 ≤ 20000) (hlb : lb ≤ 9223372036854775807) (hl2 : l2 ≤ 100) (hf0 : -9223372036854775808 ≤ fr) (hf1 : fr ≤ 9223372036854775807)
    (h1 : (decide ((20000 : Int) < (len : Int)) = true ∧ ∀ w, (Instr.slice 23 (.slice ao len cap) none (some (.int .i64 20000)) none).run Tryd.prog w = .ok (.slice a1 l1 c1) w) ∨ (decide ((20000 : Int) < (len : Int)) = false ∧ a1 = ao ∧ l1 = len ∧ c1 = cap))
    (h2 : (decide ((100 : Int) < (lb : Int)) = true ∧ ∀ w, (Instr.slice 23 (.slice ab lb cb) none (some (.int .i64 100)) none).run Tryd.prog w = .ok (.slice a2 l2 c2) w) ∨ (decide ((100 : Int) < (lb : Int)) = false ∧ a2 = ab ∧ l2 = lb ∧ c2 = cb)) :
    Calls Tryd.prog 5 #[.slice ao len cap, .slice ai li ci, .int .i64 fr, .int .u32 pt, .slice ab lb cb] w fun e w' => e = .returned (.bool true) ∧ Below w.heap.size w w' := by
  have hcl := hri.cells
  have HBD : Hid _ := hri.bnd
  have HLI : Hid _ := hri.length
  have hlim : li ≤ 9223372036854775807 := by have := hri.le; have := hri.max; omega
  have HR : Hid _ := hr
  have HRB : Hid _ := hrb
  clear hr hri hrb
  go_enter Tryd.func5, Tryd.ntmps5
  go_upto_if 29 with fail
  go_cut [0] (fun s0 wx => s0 = .slice a1 l1 c1 ∧ w = wx)
  case first =>
    rcases h1 with ⟨h1, h1'⟩ | ⟨h1, rfl, rfl, rfl⟩
    all_goals
      rw [h1]
      go_wp2_with fail
      go_meet
      exact ⟨rfl, rfl⟩
  case rest =>
  obtain ⟨rfl, rfl⟩ := hcut
  clear h1
  go_upto_if 34 with fail
  go_cut [4] (fun s4 wx => s4 = .slice a2 l2 c2 ∧ w = wx)
  case first =>
    rcases h2 with ⟨h2, h2'⟩ | ⟨h2, rfl, rfl, rfl⟩
    all_goals
      rw [h2]
      go_wp2_with fail
      go_meet
      exact ⟨rfl, rfl⟩
  case rest =>
  obtain ⟨rfl, rfl⟩ := hcut
  clear h2
  all_goals
    go_wp2_with fail
    refine (frame_small _ _ _ xs _ HR.out (by omega)).mono ?_
    rintro e w2 ⟨v2, rfl, hO2, hb2⟩
    obtain ⟨ax, cx, rfl, hrx⟩ := hO2.rd (frame_byt HR.out.byt)
    have hLX : (frameB xs).length = l1 + 12 := by rw [frame_len, HR.out.length]
    rw [hLX] at hrx ⊢
    have HB2 : Hid (Below w.heap.size w w2) := hb2
    have HRX : Hid (Rd w2 ax (l1 + 12) cx (frameB xs)) := hrx
    clear hO2 hb2 hrx
    go_wp2_with fail
    refine (told_any _).mono ?_
    rintro e w3 ⟨rfl, hb3⟩
    have HB3 : Hid (Below w.heap.size w w3) := below_trans HB2.out hb3
    have HRX3 : Hid (Rd w3 ax (l1 + 12) cx (frameB xs)) := HRX.out.later hb3
    have HS3 : Hid (w.heap.size ≤ w3.heap.size) := HB3.out.size
    clear HRX hb3 HB2
    have HXB : Hid (Byt xs) := HR.out.byt
    have HFB : Hid (Byt (frameB xs)) := frame_byt HR.out.byt
    have HBB : Hid (Byt bs) := HRB.out.byt
    have HLX : Hid ((frameB xs).length = l1 + 12) := hLX
    have HBL : Hid (bs.length = l2) := HRB.out.length
    clear hLX
    go_wp2_with (at_builtin; (first
      | (refine append_rd _ rfl _ _ rfl w.heap.size _ (frameB xs) (by rfl) hO4 _ _ _ bs (by rfl) (HRB.out.later (HB3.out.trans hb4)) (by rw [HLX.out]; omega) (HB3.out.trans hb4).size ?_; intro v5 w5 hO5 hb5; have HB5 : Hid (Below w.heap.size w w5) := (HB3.out.trans hb4).trans hb5; obtain ⟨Gy, Cy, rfl, hGy⟩ := hO5.form (by intro h; have h' := congrArg List.length h; rw [List.length_append, HLX.out] at h'; simp at h'); have hLY : (frameB xs ++ bs).length = l1 + 12 + l2 := (by rw [List.length_append, HLX.out, HBL.out]); rw [hLY] at hO5 ⊢; have HO5 : Hid (Own w5 w.heap.size (.slice (some ⟨Gy, 0, none⟩) (l1 + 12 + l2) Cy) (frameB xs ++ bs)) := hO5; clear hO4 hb4 hO5 hb5 hLY)
      | (refine append_rd _ rfl _ _ rfl w.heap.size _ [] (by rfl) (Own.nil _ _) _ _ _ (frameB xs) (by rfl) HRX3.out (by simp; omega) HS3.out ?_; intro v4 w4 hO4 hb4; rw [List.nil_append] at hO4)))
    go_loopg [14, 15, 16] li (fun g n seen i wx => ∃ (ki : Nat) (ks : List Nat), i = .int .i64 ki ∧ ki ≤ li ∧ n = .int .i64 ks.length ∧ ks.length ≤ 3 ∧ OwnI wx w.heap.size seen (ks.map (Int.ofNat ·)) ∧ Hid (ks.Nodup) ∧ Hid (∀ k ∈ ks, k < 8 * (l1 + 12)) ∧ Own wx w.heap.size (.slice (some ⟨Gy, 0, none⟩) (l1 + 12 + l2) Cy) (flips (frameB xs) ks ++ bs) ∧ Below w.heap.size w wx ∧ li ≤ ki + g)
    case atStart => exact ⟨0, [], rfl, by omega, rfl, by simp, OwnI.nil _ _, List.nodup_nil, (fun k hk => by cases hk), HO5.out, HB5.out, by omega⟩
    case round =>
      obtain ⟨ki, ks, rfl, hki, rfl, hkl, hOI, HND, HKS, hOY, hbel, hfu⟩ := hrel
      have HOI : Hid _ := hOI
      have HOY : Hid _ := hOY
      have HBEL : Hid (Below w.heap.size w wr) := hbel
      clear HO5 HB5 HRX3 HB3 HS3 hOI hOY hbel
      by_cases hin : ki < li ∧ ks.length < 3
      · obtain ⟨hi1, hi2⟩ := hin
        obtain ⟨fu, rfl⟩ : ∃ g, gk = g + 1 := ⟨gk - 1, by omega⟩
        rcases hcl with h0 | ⟨b, off, rfl, hc⟩
        · omega
        have gc := (HBEL.out.cell (World.block_lt_of_cell? w _ (hc ki hi1))).trans (hc ki hi1)
        have hxb : -9223372036854775808 ≤ is[ki]?.getD 0 ∧ is[ki]?.getD 0 ≤ 9223372036854775807 := by
          have hk' : ki < is.length := by rw [HLI.out]; exact hi1
          rw [List.getElem?_eq_getElem hk']
          exact HBD.out _ (List.getElem_mem hk')
        clear hc
        generalize is[ki]?.getD 0 = X at *
        have d1 : decide ((ki : Int) < (li : Int)) = true := decide_eq_true (by omega)
        have d2 : decide ((ks.length : Int) < 3) = true := decide_eq_true (by omega)
        go_wp2_with fail
        have hsp := spot_any X (8 * (l1 + 12)) (by omega) (by omega) hxb.1 hxb.2 wr
        rw [show ((8 * (l1 + 12) : Nat) : Int) = 8 * ((l1 : Int) + 12) from by omega] at hsp
        refine hsp.mono ?_
        clear hsp
        rintro e w6 ⟨rfl, rfl⟩
        obtain ⟨t, ht, ht'⟩ : ∃ t : Nat, X % (8 * ((l1 : Int) + 12)) = (t : Int) ∧ t < 8 * (l1 + 12) := ⟨(X % (8 * ((l1 : Int) + 12))).toNat, by have := Int.emod_nonneg X (show 8 * ((l1 : Int) + 12) ≠ 0 by omega); omega, by have := Int.emod_lt_of_pos X (show (0 : Int) < 8 * ((l1 : Int) + 12) by omega); omega⟩
        rw [ht]
        clear ht hxb gc
        obtain ⟨aI, cI, rfl, hcI⟩ := OwnI.nats HOI.out
        go_wp2_with fail
        go_loopg [18, 19] ks.length (fun g kn j wx => ∃ jj : Nat, jj ≤ ks.length ∧ j = .int .i64 jj ∧ kn = .bool (decide (t ∈ ks.take jj)) ∧ wx = w6 ∧ ks.length ≤ jj + g)
        case atStart => exact ⟨0, by omega, rfl, by simp, rfl, by omega⟩
        case round =>
          obtain ⟨jj, hjj, rfl, rfl, rfl, hfj⟩ := hrel
          by_cases hj : jj < ks.length
          · obtain ⟨fj, rfl⟩ : ∃ g, gk = g + 1 := ⟨gk - 1, by omega⟩
            rcases hcI with h0 | ⟨gI, rfl, hcI⟩
            · omega
            have gj := hcI jj hj
            have HM : Hid _ := mem_snoc ks jj t hj
            clear hcI
            generalize ks[jj]?.getD 0 = kv at *
            by_cases hkn : t ∈ ks.take jj
            · have H1 : Hid (decide (t ∈ ks.take (jj + 1)) = true) := decide_eq_true (HM.out.2 (.inl hkn))
              rw [decide_eq_true hkn]
              clear hkn HM
              go_wp2
              go_roundg fj
              case measure => omega
              case rel => exact ⟨jj + 1, by omega, by go_num, by rw [H1.out], rfl, by omega⟩
            · rw [decide_eq_false hkn]
              by_cases hke : kv = t
              · have H1 : Hid (decide (t ∈ ks.take (jj + 1)) = true) := decide_eq_true (HM.out.2 (.inr hke))
                subst hke
                clear hkn HM
                go_wp2
                go_roundg fj
                case measure => omega
                case rel => exact ⟨jj + 1, by omega, by go_num, by rw [H1.out], rfl, by omega⟩
              · have H1 : Hid (decide (t ∈ ks.take (jj + 1)) = false) := decide_eq_false (fun hm => (HM.out.1 hm).elim hkn hke)
                have hkb : (((kv : Nat) : Int) == ((t : Nat) : Int)) = false := by simp; omega
                clear hkn HM
                go_wp2
                go_roundg fj
                case measure => omega
                case rel => exact ⟨jj + 1, by omega, by go_num, by rw [H1.out], rfl, by omega⟩
          · obtain rfl : jj = ks.length := by omega
            rw [List.take_length]
            by_cases hmem : t ∈ ks
            · rw [decide_eq_true hmem]
              go_wp2
              go_roundg fu
              case measure => omega
              case rel => exact ⟨ki + 1, ks, by go_num, by omega, rfl, hkl, HOI.out, HND.out, HKS.out, HOY.out, HBEL.out, by omega⟩
            · rw [decide_eq_false hmem]
              have HLK : Hid ((flips (frameB xs) ks).length = l1 + 12) := by unfold Hid; rw [flips_len]; exact HLX.out
              have HFK : Hid (Byt (flips (frameB xs) ks)) := flips_byt ks _ HFB.out
              have HND' : Hid ((ks ++ [t]).Nodup) := by
                unfold Hid
                rw [List.nodup_append]
                exact ⟨HND.out, by simp, fun a ha b hb => by simp at hb; subst hb; intro e; subst e; exact hmem ha⟩
              have HKS' : Hid (∀ k ∈ ks ++ [t], k < 8 * (l1 + 12)) := by
                intro k hk
                rcases List.mem_append.1 hk with hk | hk
                · exact HKS.out k hk
                · simp at hk; subst hk; exact ht'
              have HTR : Hid (∀ V : Nat, (flips (frameB xs) ks)[t / 8]?.getD 0 = (V : Int) → (flips (frameB xs) ks ++ bs).set (t / 8) ((V ^^^ 2 ^ (t % 8) : Nat) : Int) = flips (frameB xs) (ks ++ [t]) ++ bs) := fun V hV => turned_row (frameB xs) bs ks t V (by rw [HLX.out]; omega) hV
              clear hmem
              obtain ⟨Q, hQ⟩ : ∃ Q, t / 8 = Q := ⟨_, rfl⟩
              obtain ⟨M, hM⟩ : ∃ M, t % 8 = M := ⟨_, rfl⟩
              have hQl : Q < l1 + 12 := by omega
              have hM8 : M < 8 := by omega
              obtain ⟨V, hV⟩ : ∃ V : Nat, (flips (frameB xs) ks)[Q]?.getD 0 = (V : Int) ∧ V < 256 := by
                have hq : Q < (flips (frameB xs) ks).length := by rw [HLK.out]; exact hQl
                have := HFK.out _ (List.getElem_mem hq)
                rw [List.getElem?_eq_getElem hq]
                exact ⟨((flips (frameB xs) ks)[Q]).toNat, by simp; omega, by omega⟩
              go_wp2_with (at_builtin; refine appendI wr rfl _ _ rfl w.heap.size _ (ks.map (Int.ofNat ·)) (by rfl) HOI.out (t : Int) (by rfl) (by rw [List.length_map]; omega) HBEL.out.size ?_; intro v7 w7 hOI7 hk7 hb7)
              have hq1 : Int.tdiv (t : Int) 8 = (Q : Int) := by rw [Int.tdiv_eq_ediv_of_nonneg (by omega)]; omega
              have hm1 : Int.tmod (t : Int) 8 = (M : Int) := by rw [Int.tmod_eq_emod_of_nonneg (by omega)]; omega
              have hq2 : (t : Int) / 8 = (Q : Int) := by omega
              have hm2 : (t : Int) % 8 = (M : Int) := by omega
              have hOY7 := hk7 _ _ HOY.out
              have HLY : Hid ((flips (frameB xs) ks ++ bs).length = l1 + 12 + l2) := by unfold Hid; rw [List.length_append, HLK.out, HBL.out]
              have hfz := Own.frozen HLY.out hOY7
              have hcl7 : w7.cell? ⟨Gy, Q, none⟩ = some (.int .u8 (V : Int)) := by
                obtain ⟨ao', cap', he, hr'⟩ := hOY7.rd (HFK.out.append HBB.out)
                simp only [Value.slice.injEq] at he
                obtain ⟨rfl, -, rfl⟩ := he
                rcases hr'.cells with h0 | ⟨b', off', he', hc'⟩
                · rw [HLY.out] at h0; omega
                · simp only [Option.some.injEq, Addr.mk.injEq] at he'
                  obtain ⟨rfl, rfl, -⟩ := he'
                  have := hc' Q (by rw [HLY.out]; omega)
                  rw [Nat.zero_add, List.getElem?_append_left (by rw [HLK.out]; exact hQl), hV.1] at this
                  exact this
              have HOY7 : Hid (Own w7 w.heap.size (.slice (some ⟨Gy, 0, none⟩) (l1 + 12 + l2) Cy) (flips (frameB xs) ks ++ bs)) := hOY7
              have HOI7 : Hid _ := hOI7
              have HB7 : Hid (Below w.heap.size w w7) := HBEL.out.trans hb7
              clear hOY7 hOI7 hk7 hb7
              go_region
              rw [turn_bit V M hV.2 hM8]
              have hst := Own.set HLY.out HOY7.out Q ((V ^^^ 2 ^ M : Nat) : Int)
              have HST : Hid (Own (w7.setCell ⟨Gy, Q, none⟩ (.int .u8 ((V ^^^ 2 ^ M : Nat) : Int))) w.heap.size (.slice (some ⟨Gy, 0, none⟩) (l1 + 12 + l2) Cy) (flips (frameB xs) (ks ++ [t]) ++ bs)) := by
                have h := hst.1
                have e := HTR.out V (by rw [hQ]; exact hV.1)
                rw [hQ, hM] at e
                rw [e] at h
                exact h
              have HSI : Hid (OwnI (w7.setCell ⟨Gy, Q, none⟩ (.int .u8 ((V ^^^ 2 ^ M : Nat) : Int))) w.heap.size v7 ((ks ++ [t]).map (Int.ofNat ·))) := by
                have h := hst.2 _ _ HOI7.out
                rw [List.map_append]
                exact h
              have HBX : Hid (Below w.heap.size w (w7.setCell ⟨Gy, Q, none⟩ (.int .u8 ((V ^^^ 2 ^ M : Nat) : Int)))) := HB7.out.setCell hGy _
              clear hst hfz hcl7 hq1 hq2 hm1 hm2 HTR
              generalize w7.setCell ⟨Gy, Q, none⟩ (.int .u8 ((V ^^^ 2 ^ M : Nat) : Int)) = w8 at *
              go_wp2
              go_roundg fu
              case measure => omega
              case rel => exact ⟨ki + 1, ks ++ [t], by go_num, by omega, by rw [List.length_append]; go_num, by rw [List.length_append]; simp; omega, HSI.out.later (Below.refl _ _).drew, HND'.out, HKS'.out, HST.out.later (Below.refl _ _).drew, HBX.out.drew, by omega⟩
      · obtain ⟨aI, cI, rfl, hcI⟩ := OwnI.nats HOI.out
        have hand := i64_and1 fr
        by_cases hne : ks = []
        · subst hne
          have hi1 : ¬ ki < li := by intro h; exact hin ⟨h, by simp⟩
          clear hcI HOI HND HKS hin hkl
          rcases (show fr % 2 = 0 ∨ fr % 2 = 1 by omega) with hpar | hpar <;> rw [hpar] at hand
          · go_wp2_with fail
            refine (spot_any (fr / 2) 64 (by omega) (by omega) (by omega) (by omega) _).mono ?_
            rintro e w9 ⟨rfl, rfl⟩
            obtain ⟨T, hT, hT'⟩ : ∃ T : Nat, fr / 2 % ((64 : Nat) : Int) = (T : Int) ∧ T < 64 := ⟨(fr / 2 % 64).toNat, by omega, by omega⟩
            rw [hT]
            clear hT
            go_wp2_with fail
            go_loopg [14, 23] 32 (fun g n i wx => ∃ (ii : Nat) (js : List Nat), i = .int .i64 ii ∧ ii ≤ 32 ∧ n = .int .i64 js.length ∧ js.length ≤ ii ∧ Hid (js.Nodup) ∧ Hid (∀ j ∈ js, j < ii) ∧ Hid (∀ j ∈ js, T + j < 64) ∧ Own wx w.heap.size (.slice (some ⟨Gy, 0, none⟩) (l1 + 12 + l2) Cy) (flips (frameB xs) (js.map (T + ·)) ++ bs) ∧ Below w.heap.size w wx ∧ 32 ≤ ii + g)
            case atStart => exact ⟨0, [], rfl, by omega, rfl, by simp, List.nodup_nil, (fun j hj => by cases hj), (fun j hj => by cases hj), HOY.out, HBEL.out, by omega⟩
            case round =>
              obtain ⟨ii, js, rfl, hii, rfl, hjl, HJN, HJI, HJH, hOJ, hbJ, hfj⟩ := hrel
              have HOJ : Hid _ := hOJ
              have HBJ : Hid (Below w.heap.size w wr) := hbJ
              clear hOJ hbJ HBEL HOY
              by_cases hlt : ii < 32
              · obtain ⟨fj, rfl⟩ : ∃ g, gk = g + 1 := ⟨gk - 1, by omega⟩
                have HJI' : Hid (∀ j ∈ js, j < ii + 1) := fun j hj => by have := HJI.out j hj; omega
                by_cases hbit : bits .and .u32 ((pt : Int) / 2 ^ ii) 1 = 1
                · by_cases hbd : T + ii < 64
                  · obtain ⟨t, ht⟩ : ∃ t, T + ii = t := ⟨_, rfl⟩
                    have htl : t < 8 * (l1 + 12) := by omega
                    have HLK : Hid ((flips (frameB xs) (js.map (T + ·))).length = l1 + 12) := by unfold Hid; rw [flips_len]; exact HLX.out
                    have HFK : Hid (Byt (flips (frameB xs) (js.map (T + ·)))) := flips_byt _ _ HFB.out
                    have HLY : Hid ((flips (frameB xs) (js.map (T + ·)) ++ bs).length = l1 + 12 + l2) := by unfold Hid; rw [List.length_append, HLK.out, HBL.out]
                    have HND' : Hid ((js ++ [ii]).Nodup) := by
                      unfold Hid
                      rw [List.nodup_append]
                      exact ⟨HJN.out, by simp, fun a ha b hb => by simp at hb; subst hb; have := HJI.out a ha; omega⟩
                    have HI' : Hid (∀ j ∈ js ++ [ii], j < ii + 1) := by
                      intro j hj
                      rcases List.mem_append.1 hj with hj | hj
                      · exact HJI'.out j hj
                      · simp at hj; omega
                    have HH' : Hid (∀ j ∈ js ++ [ii], T + j < 64) := by
                      intro j hj
                      rcases List.mem_append.1 hj with hj | hj
                      · exact HJH.out j hj
                      · simp at hj; subst hj; exact hbd
                    have HTR : Hid (∀ V : Nat, (flips (frameB xs) (js.map (T + ·)))[t / 8]?.getD 0 = (V : Int) → (flips (frameB xs) (js.map (T + ·)) ++ bs).set (t / 8) ((V ^^^ 2 ^ (t % 8) : Nat) : Int) = flips (frameB xs) ((js ++ [ii]).map (T + ·)) ++ bs) := by
                      intro V hV
                      have := turned_row (frameB xs) bs (js.map (T + ·)) t V (by rw [HLX.out]; omega) hV
                      rw [this, List.map_append]
                      simp only [List.map_cons, List.map_nil, ht]
                    obtain ⟨Q, hQ⟩ : ∃ Q, t / 8 = Q := ⟨_, rfl⟩
                    obtain ⟨M, hM⟩ : ∃ M, t % 8 = M := ⟨_, rfl⟩
                    have hQl : Q < l1 + 12 := by omega
                    have hM8 : M < 8 := by omega
                    obtain ⟨V, hV⟩ : ∃ V : Nat, (flips (frameB xs) (js.map (T + ·)))[Q]?.getD 0 = (V : Int) ∧ V < 256 := by
                      have hq : Q < (flips (frameB xs) (js.map (T + ·))).length := by rw [HLK.out]; exact hQl
                      have := HFK.out _ (List.getElem_mem hq)
                      rw [List.getElem?_eq_getElem hq]
                      exact ⟨((flips (frameB xs) (js.map (T + ·)))[Q]).toNat, by simp; omega, by omega⟩
                    have hq1 : Int.tdiv ((T : Int) + (ii : Int)) 8 = (Q : Int) := by rw [Int.tdiv_eq_ediv_of_nonneg (by omega)]; omega
                    have hm1 : Int.tmod ((T : Int) + (ii : Int)) 8 = (M : Int) := by rw [Int.tmod_eq_emod_of_nonneg (by omega)]; omega
                    have hq2 : ((T : Int) + (ii : Int)) / 8 = (Q : Int) := by omega
                    have hm2 : ((T : Int) + (ii : Int)) % 8 = (M : Int) := by omega
                    have hw2 : IntKind.i64.wrap ((T : Int) + (ii : Int)) = ((T : Int) + (ii : Int)) := by rw [IntKind.wrap_i64]; omega
                    have hfz := Own.frozen HLY.out HOJ.out
                    have hcl7 : wr.cell? ⟨Gy, Q, none⟩ = some (.int .u8 (V : Int)) := by
                      obtain ⟨ao', cap', he, hr'⟩ := Own.rd HOJ.out (HFK.out.append HBB.out)
                      simp only [Value.slice.injEq] at he
                      obtain ⟨rfl, -, rfl⟩ := he
                      rcases hr'.cells with h0 | ⟨b', off', he', hc'⟩
                      · rw [HLY.out] at h0; omega
                      · simp only [Option.some.injEq, Addr.mk.injEq] at he'
                        obtain ⟨rfl, rfl, -⟩ := he'
                        have := hc' Q (by rw [HLY.out]; omega)
                        rw [Nat.zero_add, List.getElem?_append_left (by rw [HLK.out]; exact hQl), hV.1] at this
                        exact this
                    go_wp2_with fail
                    go_region
                    rw [turn_bit V M hV.2 hM8]
                    have hst := Own.set HLY.out HOJ.out Q ((V ^^^ 2 ^ M : Nat) : Int)
                    have HST : Hid (Own (wr.setCell ⟨Gy, Q, none⟩ (.int .u8 ((V ^^^ 2 ^ M : Nat) : Int))) w.heap.size (.slice (some ⟨Gy, 0, none⟩) (l1 + 12 + l2) Cy) (flips (frameB xs) ((js ++ [ii]).map (T + ·)) ++ bs)) := by
                      have h := hst.1
                      have e := HTR.out V (by rw [hQ]; exact hV.1)
                      rw [hQ, hM] at e
                      rw [e] at h
                      exact h
                    have HBX : Hid (Below w.heap.size w (wr.setCell ⟨Gy, Q, none⟩ (.int .u8 ((V ^^^ 2 ^ M : Nat) : Int)))) := HBJ.out.setCell hGy _
                    clear hst hfz hcl7 hq1 hq2 hm1 hm2 hw2 HTR HOJ HBJ
                    generalize wr.setCell ⟨Gy, Q, none⟩ (.int .u8 ((V ^^^ 2 ^ M : Nat) : Int)) = w8 at *
                    go_wp2
                    go_roundg fj
                    case measure => omega
                    case rel => exact ⟨ii + 1, js ++ [ii], by go_num, by omega, by rw [List.length_append]; go_num, by rw [List.length_append]; simp; omega, HND'.out, HI'.out, HH'.out, Own.later HST.out (Below.refl _ _).drew, HBX.out.drew, by omega⟩
                  · go_wp2
                    go_roundg fj
                    case measure => omega
                    case rel => exact ⟨ii + 1, js, by go_num, by omega, rfl, by omega, HJN.out, HJI'.out, HJH.out, HOJ.out, HBJ.out, by omega⟩
                · have hbit' : (bits .and .u32 ((pt : Int) / 2 ^ ii) 1 == 1) = false := by simpa using hbit
                  go_wp2
                  go_roundg fj
                  case measure => omega
                  case rel => exact ⟨ii + 1, js, by go_num, by omega, rfl, by omega, HJN.out, HJI'.out, HJH.out, HOJ.out, HBJ.out, by omega⟩
              · have HRY : Hid (Rd wr (some ⟨Gy, 0, none⟩) (l1 + 12 + l2) Cy (flips (frameB xs) (js.map (T + ·)) ++ bs)) := by
                  obtain ⟨ao', cap', he, hr'⟩ := Own.rd HOJ.out ((flips_byt _ _ HFB.out).append HBB.out)
                  have hLY : (flips (frameB xs) (js.map (T + ·)) ++ bs).length = l1 + 12 + l2 := by rw [List.length_append, flips_len, HLX.out, HBL.out]
                  rw [hLY] at he hr'
                  simp only [Value.slice.injEq] at he
                  obtain ⟨rfl, -, rfl⟩ := he
                  exact hr'
                by_cases hjs : js = []
                · subst hjs
                  have H0 : Hid (rdR (flips (frameB xs) (([] : List Nat).map (T + ·)) ++ bs) 0 = (xs, (l1 : Int) + 12, 0)) := by
                    have h := rdR_frame [] xs bs (by rw [HR.out.length]; omega)
                    simp only [List.nil_append, List.length_nil, Int.natCast_zero, Int.zero_add, HR.out.length] at h
                    exact h
                  clear HOJ HJN HJI HJH hjl
                  go_wp2_with fail
                  refine (readFrame_any _ _ _ _ 0 _ HRY.out).mono ?_
                  rintro e w10 ⟨v10, rfl, hO10, hb10⟩
                  rw [H0.out] at hO10 ⊢
                  obtain ⟨a10, l10, c10, rfl, hr10⟩ := hO10.rd' HXB.out
                  have HB10 : Hid (Below w.heap.size w w10) := below_trans HBJ.out hb10
                  have HR10 : Hid (Rd w10 a10 l10 c10 xs) := hr10
                  clear hO10 hr10 hb10 HRY
                  go_wp2_with fail
                  refine (same_any _ _ _ _ _ _ _ _ _ HR10.out (HR.out.later HB10.out)).mono ?_
                  rintro e w11 ⟨rfl, hb11⟩
                  rw [show decide (xs = xs) = true from decide_eq_true rfl]
                  go_wp2
                  go_ret
                  exact ⟨rfl, below_trans HB10.out hb11⟩
                · have hjp : 0 < js.length := List.length_pos_iff.2 hjs
                  have hjb : ((js.length : Int) == 0) = false := by simp; omega
                  have H16 : Hid (rdR (flips (frameB xs) (js.map (T + ·)) ++ bs) 0 = ([], 0, 16)) := burst_head xs bs T js HJN.out (fun j hj => Nat.lt_of_lt_of_le (HJI.out j hj) hii) HJH.out hjs
                  clear HOJ HJN HJI HJH hjs
                  go_wp2_with fail
                  refine (readFrame_any _ _ _ _ 0 _ HRY.out).mono ?_
                  rintro e w10 ⟨v10, rfl, hO10, hb10⟩
                  rw [H16.out] at hO10 ⊢
                  obtain ⟨a10, l10, c10, rfl, hr10⟩ := hO10.rd' Byt.nil
                  obtain rfl : 0 = l10 := hr10.length
                  have HB10 : Hid (Below w.heap.size w w10) := below_trans HBJ.out hb10
                  clear hO10 hr10 hb10 HRY
                  go_wp2
                  go_ret
                  exact ⟨rfl, HB10.out⟩
          · go_wp2_with fail
            have hsp := spot_any (fr / 2) (8 * (l1 + 4)) (by omega) (by omega) (by omega) (by omega) wr
            rw [show ((8 * (l1 + 4) : Nat) : Int) = 8 * ((l1 : Int) + 12) - 64 from by omega] at hsp
            refine hsp.mono ?_
            clear hsp
            rintro e w9 ⟨rfl, rfl⟩
            obtain ⟨T, hT, hT'⟩ : ∃ T : Nat, fr / 2 % (8 * ((l1 : Int) + 12) - 64) = (T : Int) ∧ T < 8 * (l1 + 4) := ⟨(fr / 2 % (8 * ((l1 : Int) + 12) - 64)).toNat, by have := Int.emod_nonneg (fr / 2) (show 8 * ((l1 : Int) + 12) - 64 ≠ 0 by omega); omega, by have := Int.emod_lt_of_pos (fr / 2) (show (0 : Int) < 8 * ((l1 : Int) + 12) - 64 by omega); omega⟩
            rw [hT]
            clear hT
            go_wp2_with fail
            go_loopg [14, 23] 32 (fun g n i wx => ∃ (ii : Nat) (js : List Nat), i = .int .i64 ii ∧ ii ≤ 32 ∧ n = .int .i64 js.length ∧ js.length ≤ ii ∧ Hid (js.Nodup) ∧ Hid (∀ j ∈ js, j < ii) ∧ Hid (∀ j ∈ js, (64 + T) + j < 8 * (l1 + 12)) ∧ Own wx w.heap.size (.slice (some ⟨Gy, 0, none⟩) (l1 + 12 + l2) Cy) (flips (frameB xs) (js.map ((64 + T) + ·)) ++ bs) ∧ Below w.heap.size w wx ∧ 32 ≤ ii + g)
            case atStart => exact ⟨0, [], rfl, by omega, rfl, by simp, List.nodup_nil, (fun j hj => by cases hj), (fun j hj => by cases hj), HOY.out, HBEL.out, by omega⟩
            case round =>
              obtain ⟨ii, js, rfl, hii, rfl, hjl, HJN, HJI, HJH, hOJ, hbJ, hfj⟩ := hrel
              have HOJ : Hid _ := hOJ
              have HBJ : Hid (Below w.heap.size w wr) := hbJ
              clear hOJ hbJ HBEL HOY
              by_cases hlt : ii < 32
              · obtain ⟨fj, rfl⟩ : ∃ g, gk = g + 1 := ⟨gk - 1, by omega⟩
                have HJI' : Hid (∀ j ∈ js, j < ii + 1) := fun j hj => by have := HJI.out j hj; omega
                by_cases hbit : bits .and .u32 ((pt : Int) / 2 ^ ii) 1 = 1
                · by_cases hbd : (64 + T) + ii < 8 * (l1 + 12)
                  · obtain ⟨t, ht⟩ : ∃ t, (64 + T) + ii = t := ⟨_, rfl⟩
                    have htl : t < 8 * (l1 + 12) := by omega
                    have HLK : Hid ((flips (frameB xs) (js.map ((64 + T) + ·))).length = l1 + 12) := by unfold Hid; rw [flips_len]; exact HLX.out
                    have HFK : Hid (Byt (flips (frameB xs) (js.map ((64 + T) + ·)))) := flips_byt _ _ HFB.out
                    have HLY : Hid ((flips (frameB xs) (js.map ((64 + T) + ·)) ++ bs).length = l1 + 12 + l2) := by unfold Hid; rw [List.length_append, HLK.out, HBL.out]
                    have HND' : Hid ((js ++ [ii]).Nodup) := by
                      unfold Hid
                      rw [List.nodup_append]
                      exact ⟨HJN.out, by simp, fun a ha b hb => by simp at hb; subst hb; have := HJI.out a ha; omega⟩
                    have HI' : Hid (∀ j ∈ js ++ [ii], j < ii + 1) := by
                      intro j hj
                      rcases List.mem_append.1 hj with hj | hj
                      · exact HJI'.out j hj
                      · simp at hj; omega
                    have HH' : Hid (∀ j ∈ js ++ [ii], (64 + T) + j < 8 * (l1 + 12)) := by
                      intro j hj
                      rcases List.mem_append.1 hj with hj | hj
                      · exact HJH.out j hj
                      · simp at hj; subst hj; exact hbd
                    have HTR : Hid (∀ V : Nat, (flips (frameB xs) (js.map ((64 + T) + ·)))[t / 8]?.getD 0 = (V : Int) → (flips (frameB xs) (js.map ((64 + T) + ·)) ++ bs).set (t / 8) ((V ^^^ 2 ^ (t % 8) : Nat) : Int) = flips (frameB xs) ((js ++ [ii]).map ((64 + T) + ·)) ++ bs) := by
                      intro V hV
                      have := turned_row (frameB xs) bs (js.map ((64 + T) + ·)) t V (by rw [HLX.out]; omega) hV
                      rw [this, List.map_append]
                      simp only [List.map_cons, List.map_nil, ht]
                    obtain ⟨Q, hQ⟩ : ∃ Q, t / 8 = Q := ⟨_, rfl⟩
                    obtain ⟨M, hM⟩ : ∃ M, t % 8 = M := ⟨_, rfl⟩
                    have hQl : Q < l1 + 12 := by omega
                    have hM8 : M < 8 := by omega
                    obtain ⟨V, hV⟩ : ∃ V : Nat, (flips (frameB xs) (js.map ((64 + T) + ·)))[Q]?.getD 0 = (V : Int) ∧ V < 256 := by
                      have hq : Q < (flips (frameB xs) (js.map ((64 + T) + ·))).length := by rw [HLK.out]; exact hQl
                      have := HFK.out _ (List.getElem_mem hq)
                      rw [List.getElem?_eq_getElem hq]
                      exact ⟨((flips (frameB xs) (js.map ((64 + T) + ·)))[Q]).toNat, by simp; omega, by omega⟩
                    have hq1 : Int.tdiv (64 + (T : Int) + (ii : Int)) 8 = (Q : Int) := by rw [Int.tdiv_eq_ediv_of_nonneg (by omega)]; omega
                    have hm1 : Int.tmod (64 + (T : Int) + (ii : Int)) 8 = (M : Int) := by rw [Int.tmod_eq_emod_of_nonneg (by omega)]; omega
                    have hq2 : (64 + (T : Int) + (ii : Int)) / 8 = (Q : Int) := by omega
                    have hm2 : (64 + (T : Int) + (ii : Int)) % 8 = (M : Int) := by omega
                    have hw2 : IntKind.i64.wrap (64 + (T : Int) + (ii : Int)) = (64 + (T : Int) + (ii : Int)) := by rw [IntKind.wrap_i64]; omega
                    have hfz := Own.frozen HLY.out HOJ.out
                    have hcl7 : wr.cell? ⟨Gy, Q, none⟩ = some (.int .u8 (V : Int)) := by
                      obtain ⟨ao', cap', he, hr'⟩ := Own.rd HOJ.out (HFK.out.append HBB.out)
                      simp only [Value.slice.injEq] at he
                      obtain ⟨rfl, -, rfl⟩ := he
                      rcases hr'.cells with h0 | ⟨b', off', he', hc'⟩
                      · rw [HLY.out] at h0; omega
                      · simp only [Option.some.injEq, Addr.mk.injEq] at he'
                        obtain ⟨rfl, rfl, -⟩ := he'
                        have := hc' Q (by rw [HLY.out]; omega)
                        rw [Nat.zero_add, List.getElem?_append_left (by rw [HLK.out]; exact hQl), hV.1] at this
                        exact this
                    go_wp2_with fail
                    go_region
                    rw [turn_bit V M hV.2 hM8]
                    have hst := Own.set HLY.out HOJ.out Q ((V ^^^ 2 ^ M : Nat) : Int)
                    have HST : Hid (Own (wr.setCell ⟨Gy, Q, none⟩ (.int .u8 ((V ^^^ 2 ^ M : Nat) : Int))) w.heap.size (.slice (some ⟨Gy, 0, none⟩) (l1 + 12 + l2) Cy) (flips (frameB xs) ((js ++ [ii]).map ((64 + T) + ·)) ++ bs)) := by
                      have h := hst.1
                      have e := HTR.out V (by rw [hQ]; exact hV.1)
                      rw [hQ, hM] at e
                      rw [e] at h
                      exact h
                    have HBX : Hid (Below w.heap.size w (wr.setCell ⟨Gy, Q, none⟩ (.int .u8 ((V ^^^ 2 ^ M : Nat) : Int)))) := HBJ.out.setCell hGy _
                    clear hst hfz hcl7 hq1 hq2 hm1 hm2 hw2 HTR HOJ HBJ
                    generalize wr.setCell ⟨Gy, Q, none⟩ (.int .u8 ((V ^^^ 2 ^ M : Nat) : Int)) = w8 at *
                    go_wp2
                    go_roundg fj
                    case measure => omega
                    case rel => exact ⟨ii + 1, js ++ [ii], by go_num, by omega, by rw [List.length_append]; go_num, by rw [List.length_append]; simp; omega, HND'.out, HI'.out, HH'.out, Own.later HST.out (Below.refl _ _).drew, HBX.out.drew, by omega⟩
                  · go_wp2
                    go_roundg fj
                    case measure => omega
                    case rel => exact ⟨ii + 1, js, by go_num, by omega, rfl, by omega, HJN.out, HJI'.out, HJH.out, HOJ.out, HBJ.out, by omega⟩
                · have hbit' : (bits .and .u32 ((pt : Int) / 2 ^ ii) 1 == 1) = false := by simpa using hbit
                  go_wp2
                  go_roundg fj
                  case measure => omega
                  case rel => exact ⟨ii + 1, js, by go_num, by omega, rfl, by omega, HJN.out, HJI'.out, HJH.out, HOJ.out, HBJ.out, by omega⟩
              · have HRY : Hid (Rd wr (some ⟨Gy, 0, none⟩) (l1 + 12 + l2) Cy (flips (frameB xs) (js.map ((64 + T) + ·)) ++ bs)) := by
                  obtain ⟨ao', cap', he, hr'⟩ := Own.rd HOJ.out ((flips_byt _ _ HFB.out).append HBB.out)
                  have hLY : (flips (frameB xs) (js.map ((64 + T) + ·)) ++ bs).length = l1 + 12 + l2 := by rw [List.length_append, flips_len, HLX.out, HBL.out]
                  rw [hLY] at he hr'
                  simp only [Value.slice.injEq] at he
                  obtain ⟨rfl, -, rfl⟩ := he
                  exact hr'
                by_cases hjs : js = []
                · subst hjs
                  have H0 : Hid (rdR (flips (frameB xs) (([] : List Nat).map ((64 + T) + ·)) ++ bs) 0 = (xs, (l1 : Int) + 12, 0)) := by
                    have h := rdR_frame [] xs bs (by rw [HR.out.length]; omega)
                    simp only [List.nil_append, List.length_nil, Int.natCast_zero, Int.zero_add, HR.out.length] at h
                    exact h
                  clear HOJ HJN HJI HJH hjl
                  go_wp2_with fail
                  refine (readFrame_any _ _ _ _ 0 _ HRY.out).mono ?_
                  rintro e w10 ⟨v10, rfl, hO10, hb10⟩
                  rw [H0.out] at hO10 ⊢
                  obtain ⟨a10, l10, c10, rfl, hr10⟩ := hO10.rd' HXB.out
                  have HB10 : Hid (Below w.heap.size w w10) := below_trans HBJ.out hb10
                  have HR10 : Hid (Rd w10 a10 l10 c10 xs) := hr10
                  clear hO10 hr10 hb10 HRY
                  go_wp2_with fail
                  refine (same_any _ _ _ _ _ _ _ _ _ HR10.out (HR.out.later HB10.out)).mono ?_
                  rintro e w11 ⟨rfl, hb11⟩
                  rw [show decide (xs = xs) = true from decide_eq_true rfl]
                  go_wp2
                  go_ret
                  exact ⟨rfl, below_trans HB10.out hb11⟩
                · have hjp : 0 < js.length := List.length_pos_iff.2 hjs
                  have hjb : ((js.length : Int) == 0) = false := by simp; omega
                  have H16 : Hid (rdR (flips (frameB xs) (js.map ((64 + T) + ·)) ++ bs) 0 = ([], 0, 16)) := burst_tail xs bs HXB.out (by rw [HR.out.length]; exact hl1) (64 + T) (by omega) js HJN.out (fun j hj => Nat.lt_of_lt_of_le (HJI.out j hj) hii) (fun j hj => by rw [HLX.out]; exact HJH.out j hj) hjs
                  clear HOJ HJN HJI HJH hjs
                  go_wp2_with fail
                  refine (readFrame_any _ _ _ _ 0 _ HRY.out).mono ?_
                  rintro e w10 ⟨v10, rfl, hO10, hb10⟩
                  rw [H16.out] at hO10 ⊢
                  obtain ⟨a10, l10, c10, rfl, hr10⟩ := hO10.rd' Byt.nil
                  obtain rfl : 0 = l10 := hr10.length
                  have HB10 : Hid (Below w.heap.size w w10) := below_trans HBJ.out hb10
                  clear hO10 hr10 hb10 HRY
                  go_wp2
                  go_ret
                  exact ⟨rfl, HB10.out⟩
        · have HNE : Hid (ks ≠ []) := hne
          have hkp : 0 < ks.length := List.length_pos_iff.2 hne
          have hkb : ((ks.length : Int) == 0) = false := by simp; omega
          have hpick : ¬ ki < li ∨ (ki < li ∧ ¬ ks.length < 3) := by omega
          have H16 : Hid (rdR (flips (frameB xs) ks ++ bs) 0 = ([], 0, 16)) := three_told xs bs HXB.out (by rw [HR.out.length]; exact hl1) ks HND.out (fun k hk => by rw [HLX.out]; exact HKS.out k hk) hne hkl
          have HRY : Hid (Rd wr (some ⟨Gy, 0, none⟩) (l1 + 12 + l2) Cy (flips (frameB xs) ks ++ bs)) := by
            obtain ⟨ao', cap', he, hr'⟩ := Own.rd HOY.out ((flips_byt ks _ HFB.out).append HBB.out)
            have hLY : (flips (frameB xs) ks ++ bs).length = l1 + 12 + l2 := by rw [List.length_append, flips_len, HLX.out, HBL.out]
            rw [hLY] at he hr'
            simp only [Value.slice.injEq] at he
            obtain ⟨rfl, -, rfl⟩ := he
            exact hr'
          clear hne hin hcI HOY HOI HND HKS
          rcases (show fr % 2 = 0 ∨ fr % 2 = 1 by omega) with hpar | hpar <;> rw [hpar] at hand
          · rcases hpick with hi1 | ⟨hi1, hi3⟩
            all_goals
              go_wp2_with fail
              refine (spot_any (fr / 2) 64 (by omega) (by omega) (by omega) (by omega) _).mono ?_
              rintro e w9 ⟨rfl, rfl⟩
              obtain ⟨T, hT, hT'⟩ : ∃ T : Nat, fr / 2 % ((64 : Nat) : Int) = (T : Int) ∧ T < 64 := ⟨(fr / 2 % 64).toNat, by omega, by omega⟩
              rw [hT]
              clear hT
              go_wp2_with fail
              go_loopg [14, 23] 0 (fun g n i wx => n = .int .i64 ks.length ∧ i = .int .i64 0 ∧ wx = w9)
              case atStart => exact ⟨rfl, rfl, rfl⟩
              case round =>
                obtain ⟨rfl, rfl, rfl⟩ := hrel
                go_wp2_with fail
                refine (readFrame_any _ _ _ (flips (frameB xs) ks ++ bs) 0 _ HRY.out).mono ?_
                rintro e w10 ⟨v10, rfl, hO10, hb10⟩
                rw [H16.out] at hO10 ⊢
                obtain ⟨a10, l10, c10, rfl, hr10⟩ := hO10.rd' Byt.nil
                obtain rfl : 0 = l10 := hr10.length
                have HB10 : Hid (Below w.heap.size w w10) := below_trans HBEL.out hb10
                clear hO10 hr10 hb10
                go_wp2
                go_ret
                exact ⟨rfl, HB10.out⟩
          · rcases hpick with hi1 | ⟨hi1, hi3⟩
            all_goals
              go_wp2_with fail
              have hsp := spot_any (fr / 2) (8 * (l1 + 4)) (by omega) (by omega) (by omega) (by omega) wr
              rw [show ((8 * (l1 + 4) : Nat) : Int) = 8 * ((l1 : Int) + 12) - 64 from by omega] at hsp
              refine hsp.mono ?_
              clear hsp
              rintro e w9 ⟨rfl, rfl⟩
              obtain ⟨T, hT, hT'⟩ : ∃ T : Nat, fr / 2 % (8 * ((l1 : Int) + 12) - 64) = (T : Int) ∧ T < 8 * (l1 + 4) := ⟨(fr / 2 % (8 * ((l1 : Int) + 12) - 64)).toNat, by have := Int.emod_nonneg (fr / 2) (show 8 * ((l1 : Int) + 12) - 64 ≠ 0 by omega); omega, by have := Int.emod_lt_of_pos (fr / 2) (show (0 : Int) < 8 * ((l1 : Int) + 12) - 64 by omega); omega⟩
              rw [hT]
              clear hT
              go_wp2_with fail
              go_loopg [14, 23] 0 (fun g n i wx => n = .int .i64 ks.length ∧ i = .int .i64 0 ∧ wx = w9)
              case atStart => exact ⟨rfl, rfl, rfl⟩
              case round =>
                obtain ⟨rfl, rfl, rfl⟩ := hrel
                go_wp2_with fail
                refine (readFrame_any _ _ _ (flips (frameB xs) ks ++ bs) 0 _ HRY.out).mono ?_
                rintro e w10 ⟨v10, rfl, hO10, hb10⟩
                rw [H16.out] at hO10 ⊢
                obtain ⟨a10, l10, c10, rfl, hr10⟩ := hO10.rd' Byt.nil
                obtain rfl : 0 = l10 := hr10.length
                have HB10 : Hid (Below w.heap.size w w10) := below_trans HBEL.out hb10
                clear hO10 hr10 hb10
                go_wp2
                go_ret
                exact ⟨rfl, HB10.out⟩
theorem cut_case {w : World} {a : Option Addr} {l c : Nat} {xs : List Int} (hr : Rd w a l c xs) (k : Nat) : ∃ (a' : Option Addr) (l' c' : Nat) (xs' : List Int), Rd w a' l' c' xs' ∧ l' ≤ k ∧ ((decide ((k : Int) < (l : Int)) = true ∧ ∀ w, (Instr.slice 23 (.slice a l c) none (some (.int .i64 k)) none).run Tryd.prog w = .ok (.slice a' l' c') w) ∨ (decide ((k : Int) < (l : Int)) = false ∧ a' = a ∧ l' = l ∧ c' = c)) := by
  obtain ⟨a', l', c', xs', h1, h2, h3⟩ := cut_if hr k
  refine ⟨a', l', c', xs', h1, h2, ?_⟩
  rcases h3 with ⟨h3, h4⟩ | ⟨h3, h4⟩
  · exact .inl ⟨decide_eq_true (by omega), h4⟩
  · exact .inr ⟨decide_eq_false (by omega), h4⟩
theorem wireTurned_any (ao ai ab : Option Addr) (len cap li ci lb cb : Nat) (xs is bs : List Int) (fr : Int) (pt : Nat) (w : World) (hr : Rd w ao len cap xs) (hri : RdI w ai li ci is) (hrb : Rd w ab lb cb bs) (hf0 : -9223372036854775808 ≤ fr) (hf1 : fr ≤ 9223372036854775807) :
    Calls Tryd.prog 5 #[.slice ao len cap, .slice ai li ci, .int .i64 fr, .int .u32 pt, .slice ab lb cb] w fun e w' => e = .returned (.bool true) ∧ Below w.heap.size w w' := by
  obtain ⟨a1, l1, c1, xs1, g1, k1, q1⟩ := cut_case hr 20000
  obtain ⟨a2, l2, c2, xs2, g2, k2, q2⟩ := cut_case hrb 100
  have m1 := hr.le
  have m2 := hrb.le
  have n1 := hr.max
  have n2 := hrb.max
  exact wireTurned_core ao a1 ai ab a2 len cap l1 c1 li ci lb cb l2 c2 xs1 is xs2 fr pt w g1 hri g2 (by omega) k1 (by omega) k2 hf0 hf1 q1 q2
end Go.Proofs.YtfldgjkpkmnkbabDoor
