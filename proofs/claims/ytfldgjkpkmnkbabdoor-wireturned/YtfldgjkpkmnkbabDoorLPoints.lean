import Derived.Test.YtfldgjkpkmnkbabDoorPoints
import Derived.Test.YtfldgjkpkmnkbabDoorTold
import Derived.Test.YtfldgjkpkmnkbabDoorThings2
namespace Go.Proofs.YtfldgjkpkmnkbabDoor
open Go.RowKit
set_option linter.unusedVariables false

/-- A slice of ints: what is read of it. -/
structure RdI (w : World) (ao : Option Addr) (len cap : Nat) (xs : List Int) : Prop where
  length : xs.length = len
  le : len ≤ cap
  max : cap ≤ 9223372036854775807
  bnd : ∀ x ∈ xs, -9223372036854775808 ≤ x ∧ x ≤ 9223372036854775807
  cells : len = 0 ∨ ∃ b off, ao = some ⟨b, off, none⟩ ∧ ∀ j, j < len → w.cell? ⟨b, off + j, none⟩ = some (.int .i64 (xs[j]?.getD 0))

set_option maxRecDepth 100000 in
set_option maxHeartbeats 4000000 in
theorem wirePoints_core (ao a1 : Option Addr) (len cap l1 c1 : Nat) (xs : List Int) (p by' kd : Int) (w : World) (hr : RdI w a1 l1 c1 xs) (hT : U8 w) (hl : len ≤ 9223372036854775807) (hl1 : l1 ≤ 200)
    (hp0 : -9223372036854775808 ≤ p) (hp1 : p ≤ 9223372036854775807)
    (h1 : (200 < len ∧ ∀ w, (Instr.slice 37 (.slice ao len cap) none (some (.int .i64 200)) none).run Tryd.prog w = .ok (.slice a1 l1 c1) w) ∨ (len ≤ 200 ∧ a1 = ao ∧ l1 = len ∧ c1 = cap)) :
    Calls Tryd.prog 7 #[.slice ao len cap, .int .i64 p, .int .i64 by', .int .i64 kd] w fun e w' => e = .returned (.bool true) ∧ Below w.heap.size w w' := by
  have hcl := hr.cells
  have HL : Hid _ := hr.length
  have HBD : Hid _ := hr.bnd
  have HT : Hid (U8 w) := hT
  clear hr hT
  rcases h1 with ⟨h1, h1'⟩ | ⟨h1, rfl, rfl, rfl⟩
  have hdec : decide ((200 : Int) < (len : Int)) = true := decide_eq_true (by omega)
  rotate_left
  have hdec : decide ((200 : Int) < (l1 : Int)) = false := decide_eq_false (by omega)
  rotate_left
  all_goals
    go_enter Tryd.func7, Tryd.ntmps7
    go_wp2_with fail
    go_loopg [9, 10, 11] l1 (fun g b n i wx => ∃ k : Nat, k ≤ l1 ∧ i = .int .i64 k ∧ n = .int .i64 (ptsN (xs.take k)) ∧ Own wx w.heap.size b (ptsB (xs.take k)) ∧ Below w.heap.size w wx ∧ l1 ≤ k + g)
    case atStart => exact ⟨0, by omega, rfl, rfl, Own.nil _ _, Below.refl _ _, by omega⟩
    case round =>
      obtain ⟨k, hk, rfl, rfl, hO, hbel, hfu⟩ := hrel
      have hsz := hbel.size
      have hn2 : ptsN (xs.take k) ≤ 200 := by have := ptsN_len (xs.take k); rw [List.length_take] at this; omega
      have Hlen : Hid ((ptsB (xs.take k)).length ≤ 800) := by unfold Hid; have := ptsB_len (xs.take k); rw [List.length_take] at this; omega
      by_cases hlt : k < l1
      · rcases hcl with h0 | ⟨b, off, rfl, hc⟩
        · omega
        obtain ⟨fu, rfl⟩ : ∃ g, gk = g + 1 := ⟨gk - 1, by omega⟩
        have g := (hbel.cell (World.block_lt_of_cell? w _ (hc k hlt))).trans (hc k hlt)
        have hxb : -9223372036854775808 ≤ xs[k]?.getD 0 ∧ xs[k]?.getD 0 ≤ 9223372036854775807 := by
          have hk' : k < xs.length := by rw [HL.out]; exact hlt
          rw [List.getElem?_eq_getElem hk']
          exact HBD.out _ (List.getElem_mem hk')
        obtain ⟨hs1, hs2⟩ := pts_snoc xs k (by rw [HL.out]; exact hlt)
        have HS1 : Hid _ := hs1
        have HS2 : Hid _ := hs2
        clear hc hs1 hs2
        generalize xs[k]?.getD 0 = x at *
        generalize hB : ptsB (xs.take k) = B at *
        generalize hN : ptsN (xs.take k) = N at *
        have HO : Hid _ := hO
        have HBEL : Hid (Below w.heap.size w wr) := hbel
        clear hO hbel
        go_wp2_with fail
        refine (refPoint_any x hxb.1 hxb.2 _).mono ?_
        rintro e w2 ⟨v, rfl, hO2, hb2⟩
        obtain ⟨af, cf, rfl, hrf⟩ := hO2.rd (ptB_byt x)
        have hlf := ptB_len x
        have HB2 : Hid (Below w.heap.size w w2) := below_trans HBEL.out hb2
        have HO2 : Hid (Own w2 w.heap.size u9 B) := Own.later HO.out hb2
        have HRF : Hid _ := hrf
        generalize hlfe : (ptB x).length = lf at *
        have HLF : Hid _ := hlfe
        clear hO2 hrf hb2 hlfe
        have hs3 := HB2.out.size
        by_cases hz : lf = 0
        · subst hz
          go_wp2_with (at_builtin; refine append_rd _ rfl _ _ rfl w.heap.size _ B (by rfl) HO2.out _ _ _ (ptB x) (by rfl) HRF.out (by have := Hlen.out; omega) hs3 ?_; intro v3 w3 hO3 hb3)
          go_roundg fu
          case rel => exact ⟨k + 1, by omega, by go_num, by rw [HS2.out]; simp, by rw [HS1.out]; exact hO3, HB2.out.trans hb3, by omega⟩
          case measure => omega
        · have hzp : 0 < lf := by omega
          go_wp2_with (at_builtin; refine append_rd _ rfl _ _ rfl w.heap.size _ B (by rfl) HO2.out _ _ _ (ptB x) (by rfl) HRF.out (by have := Hlen.out; omega) hs3 ?_; intro v3 w3 hO3 hb3)
          go_roundg fu
          case rel => exact ⟨k + 1, by omega, by go_num, by rw [HS2.out, if_neg hz]; go_num, by rw [HS1.out]; exact hO3, HB2.out.trans hb3, by omega⟩
          case measure => omega
      · obtain rfl : k = l1 := by omega
        have htk : xs.take k = xs := List.take_of_length_le (by rw [HL.out]; omega)
        rw [htk] at hO hn2 Hlen ⊢
        obtain ⟨ab, cb, rfl, hrb⟩ := hO.rd (ptsB_byt xs)
        have hconv := str_of hrb
        have HRB : Hid _ := hrb
        have HBEL : Hid (Below w.heap.size w wr) := hbel
        have HTW : Hid (U8 wr) := HT.out.later hbel
        have hRN := rn_pts xs
        have hszb : (strB (ptsB xs)).size ≤ 9223372036854775807 := by rw [strB_size]; have := Hlen.out; omega
        have HSZ : Hid _ := hszb
        clear hrb hbel hO hszb
        generalize ptsN xs = N at *
        go_wp2_with fail
        refine (runes_any _ _ HTW.out HSZ.out).mono ?_
        rintro e w2 ⟨rfl, hb2⟩
        rw [hRN]
        unfold rnV
        clear hRN hconv
        have HB2 : Hid (Below w.heap.size w w2) := below_trans HBEL.out hb2
        have HRB2 : Hid _ := HRB.out.later hb2
        clear hb2
        generalize hLB : (ptsB xs).length = lb at *
        go_wp2_with fail
        refine (told_any _).mono ?_
        rintro e w3 ⟨rfl, hb3⟩
        have HB3 : Hid (Below w.heap.size w w3) := below_trans HB2.out hb3
        have HRB3 : Hid _ := HRB2.out.later hb3
        clear hb3
        by_cases hz : lb = 0
        · subst hz
          go_wp2
          go_ret
          exact ⟨rfl, HB3.out⟩
        · have hz' : ((lb : Int) == 0) = false := by simp; omega
          have hlb := Hlen.out
          go_wp2_with fail
          refine (spot_any p lb (by omega) (by omega) hp0 hp1 _).mono ?_
          rintro e w4 ⟨rfl, rfl⟩
          obtain ⟨t, ht, ht'⟩ : ∃ t : Nat, p % (lb : Int) = (t : Int) ∧ t < lb := ⟨(p % (lb : Int)).toNat, by have := Int.emod_nonneg p (show (lb : Int) ≠ 0 by omega); omega, by have := Int.emod_lt_of_pos p (show (0 : Int) < (lb : Int) by omega); omega⟩
          rw [ht]
          obtain ⟨aT, lT, cT, hcutT, hrT⟩ := cut_to HRB3.out t (by omega)
          have HrT : Hid (Rd w4 aT lT cT ((ptsB xs).take t)) := hrT
          have hlT : lT ≤ 800 := by have := hrT.length; rw [List.length_take] at this; omega
          have hlt0 : ((ptsB xs).take t).length ≤ 800 := by rw [List.length_take]; omega
          clear hrT ht
          by_cases k0 : (kd.tmod 3 == 0) = true
          · -- a byte in another's place
            obtain ⟨aS, lS, cS, hcutS, hrS⟩ := cut_from HRB3.out (t + 1) (by omega)
            have HrS : Hid (Rd w4 aS lS cS ((ptsB xs).drop (t + 1))) := hrS
            have hlS : lS ≤ 800 := by have := hrS.length; rw [List.length_drop] at this; omega
            clear hrS
            rw [show ((t + 1 : Nat) : Int) = (t : Int) + 1 from by omega] at hcutS
            have HBY : Hid (Byt ((ptsB xs).take t ++ [by' % 256] ++ (ptsB xs).drop (t + 1))) := (((ptsB_byt xs).take t).append (Byt.cons (by omega) (by omega) Byt.nil)).append ((ptsB_byt xs).drop (t + 1))
            go_wp2_with (at_builtin; (first
              | (refine append_rd _ rfl _ _ rfl w4.heap.size _ ((ptsB xs).take t ++ [by' % 256]) (by rfl) HO6.out _ _ _ ((ptsB xs).drop (t + 1)) (by rfl) (HrS.out.later HBB6.out) (by simp only [List.length_append, List.length_cons, List.length_nil]; omega) HBB6.out.size ?_; intro v7 w7 hO7 hb7; obtain ⟨a7, l7, c7, rfl, hr7⟩ := hO7.rd' (HBY.out); have HB7 : Hid (Below w.heap.size w w7) := below_trans HB3.out (HBB6.out.trans hb7); have hl7 : (((ptsB xs).take t ++ [by' % 256] ++ (ptsB xs).drop (t + 1))).length ≤ 2000 := (by simp only [List.length_append, List.length_take, List.length_drop, List.length_cons, List.length_nil]; omega); clear hO7; generalize ((ptsB xs).take t ++ [by' % 256] ++ (ptsB xs).drop (t + 1)) = cs at *; have hconv := str_of hr7; have HR7 : Hid (Rd w7 a7 l7 c7 cs) := hr7; clear hr7)
              | (refine append_rd _ rfl _ _ rfl w4.heap.size _ ((ptsB xs).take t) (by rfl) (Own.alloc HO5.out _) _ _ _ [by' % 256] (by rfl) (Rd.fresh1 w5 (by' % 256) (by omega) (by omega)) (by omega) ((hb5.alloc hb5.size _).size) ?_; intro v6 w6 hO6 hb6; have HO6 : Hid (Own w6 w4.heap.size v6 ((ptsB xs).take t ++ [by' % 256])) := hO6; have HBB6 : Hid (Below w4.heap.size w4 w6) := (hb5.alloc hb5.size _).trans hb6; clear hO6 hb6)
              | (refine append_rd _ rfl _ _ rfl w4.heap.size _ [] (by rfl) (Own.nil _ _) _ _ _ ((ptsB xs).take t) (by rfl) HrT.out (by simp; omega) (Nat.le_refl _) ?_; intro v5 w5 hO5 hb5; rw [List.nil_append] at hO5; have HO5 : Hid (Own w5 w4.heap.size v5 ((ptsB xs).take t)) := hO5; clear hO5)))
            refine (row_any _ _ (by rw [strB_size]; omega)).mono ?_
            rintro e w8 ⟨rfl, hb8⟩
            have hconv8 := str_of (HR7.out.later hb8)
            have HB8 : Hid (Below w.heap.size w w8) := below_trans HB7.out hb8
            have HT8 : Hid (U8 w8) := HT.out.later HB8.out
            clear hconv hb8
            obtain ⟨r, hrn⟩ : ∃ r, rn (strB cs) = r := ⟨_, rfl⟩
            rw [hrn]
            have HRN : Hid _ := hrn
            clear hrn
            rcases r with _ | r
            all_goals
              unfold rnV
              go_wp2_with fail
              refine (runes_any _ _ HT8.out (by rw [strB_size]; omega)).mono ?_
              rintro e w9 ⟨rfl, hb9⟩
              rw [HRN.out]
              unfold rnV
              go_wp2
              go_ret
              exact ⟨rfl, below_trans HB8.out hb9⟩
          · have k0' : (kd.tmod 3 == 0) = false := by simpa using k0
            by_cases k1 : (kd.tmod 3 == 1) = true
            · -- a byte left out
              obtain ⟨aS, lS, cS, hcutS, hrS⟩ := cut_from HRB3.out (t + 1) (by omega)
              have HrS : Hid (Rd w4 aS lS cS ((ptsB xs).drop (t + 1))) := hrS
              have hlS : lS ≤ 800 := by have := hrS.length; rw [List.length_drop] at this; omega
              clear hrS
              rw [show ((t + 1 : Nat) : Int) = (t : Int) + 1 from by omega] at hcutS
              have HBY : Hid (Byt ((ptsB xs).take t ++ (ptsB xs).drop (t + 1))) := ((ptsB_byt xs).take t).append ((ptsB_byt xs).drop (t + 1))
              go_wp2_with (at_builtin; (first
                | (refine append_rd _ rfl _ _ rfl w4.heap.size _ ((ptsB xs).take t) (by rfl) HO5.out _ _ _ ((ptsB xs).drop (t + 1)) (by rfl) (HrS.out.later hb5) (by omega) hb5.size ?_; intro v7 w7 hO7 hb7; obtain ⟨a7, l7, c7, rfl, hr7⟩ := hO7.rd' (HBY.out); have HB7 : Hid (Below w.heap.size w w7) := below_trans HB3.out (hb5.trans hb7); have hl7 : (((ptsB xs).take t ++ (ptsB xs).drop (t + 1))).length ≤ 2000 := (by simp only [List.length_append, List.length_take, List.length_drop]; omega); clear hO7; generalize ((ptsB xs).take t ++ (ptsB xs).drop (t + 1)) = cs at *; have hconv := str_of hr7; have HR7 : Hid (Rd w7 a7 l7 c7 cs) := hr7; clear hr7)
                | (refine append_rd _ rfl _ _ rfl w4.heap.size _ [] (by rfl) (Own.nil _ _) _ _ _ ((ptsB xs).take t) (by rfl) HrT.out (by simp; omega) (Nat.le_refl _) ?_; intro v5 w5 hO5 hb5; rw [List.nil_append] at hO5; have HO5 : Hid (Own w5 w4.heap.size v5 ((ptsB xs).take t)) := hO5; clear hO5)))
              refine (row_any _ _ (by rw [strB_size]; omega)).mono ?_
              rintro e w8 ⟨rfl, hb8⟩
              have hconv8 := str_of (HR7.out.later hb8)
              have HB8 : Hid (Below w.heap.size w w8) := below_trans HB7.out hb8
              have HT8 : Hid (U8 w8) := HT.out.later HB8.out
              clear hconv hb8
              obtain ⟨r, hrn⟩ : ∃ r, rn (strB cs) = r := ⟨_, rfl⟩
              rw [hrn]
              have HRN : Hid _ := hrn
              clear hrn
              rcases r with _ | r
              all_goals
                unfold rnV
                go_wp2_with fail
                refine (runes_any _ _ HT8.out (by rw [strB_size]; omega)).mono ?_
                rintro e w9 ⟨rfl, hb9⟩
                rw [HRN.out]
                unfold rnV
                go_wp2
                go_ret
                exact ⟨rfl, below_trans HB8.out hb9⟩
            · have k1' : (kd.tmod 3 == 1) = false := by simpa using k1
              -- a byte put in
              obtain ⟨aS, lS, cS, hcutS, hrS⟩ := cut_from HRB3.out t (by omega)
              have HrS : Hid (Rd w4 aS lS cS ((ptsB xs).drop t)) := hrS
              have hlS : lS ≤ 800 := by have := hrS.length; rw [List.length_drop] at this; omega
              clear hrS
              have HBY : Hid (Byt ((ptsB xs).take t ++ [by' % 256] ++ (ptsB xs).drop t)) := (((ptsB_byt xs).take t).append (Byt.cons (by omega) (by omega) Byt.nil)).append ((ptsB_byt xs).drop t)
              go_wp2_with (at_builtin; (first
                | (refine append_rd _ rfl _ _ rfl w4.heap.size _ ((ptsB xs).take t ++ [by' % 256]) (by rfl) HO6.out _ _ _ ((ptsB xs).drop t) (by rfl) (HrS.out.later HBB6.out) (by simp only [List.length_append, List.length_cons, List.length_nil]; omega) HBB6.out.size ?_; intro v7 w7 hO7 hb7; obtain ⟨a7, l7, c7, rfl, hr7⟩ := hO7.rd' (HBY.out); have HB7 : Hid (Below w.heap.size w w7) := below_trans HB3.out (HBB6.out.trans hb7); have hl7 : (((ptsB xs).take t ++ [by' % 256] ++ (ptsB xs).drop t)).length ≤ 2000 := (by simp only [List.length_append, List.length_take, List.length_drop, List.length_cons, List.length_nil]; omega); clear hO7; generalize ((ptsB xs).take t ++ [by' % 256] ++ (ptsB xs).drop t) = cs at *; have hconv := str_of hr7; have HR7 : Hid (Rd w7 a7 l7 c7 cs) := hr7; clear hr7)
                | (refine append_rd _ rfl _ _ rfl w4.heap.size _ ((ptsB xs).take t) (by rfl) (Own.alloc HO5.out _) _ _ _ [by' % 256] (by rfl) (Rd.fresh1 w5 (by' % 256) (by omega) (by omega)) (by omega) ((hb5.alloc hb5.size _).size) ?_; intro v6 w6 hO6 hb6; have HO6 : Hid (Own w6 w4.heap.size v6 ((ptsB xs).take t ++ [by' % 256])) := hO6; have HBB6 : Hid (Below w4.heap.size w4 w6) := (hb5.alloc hb5.size _).trans hb6; clear hO6 hb6)
                | (refine append_rd _ rfl _ _ rfl w4.heap.size _ [] (by rfl) (Own.nil _ _) _ _ _ ((ptsB xs).take t) (by rfl) HrT.out (by simp; omega) (Nat.le_refl _) ?_; intro v5 w5 hO5 hb5; rw [List.nil_append] at hO5; have HO5 : Hid (Own w5 w4.heap.size v5 ((ptsB xs).take t)) := hO5; clear hO5)))
              refine (row_any _ _ (by rw [strB_size]; omega)).mono ?_
              rintro e w8 ⟨rfl, hb8⟩
              have hconv8 := str_of (HR7.out.later hb8)
              have HB8 : Hid (Below w.heap.size w w8) := below_trans HB7.out hb8
              have HT8 : Hid (U8 w8) := HT.out.later HB8.out
              clear hconv hb8
              obtain ⟨r, hrn⟩ : ∃ r, rn (strB cs) = r := ⟨_, rfl⟩
              rw [hrn]
              have HRN : Hid _ := hrn
              clear hrn
              rcases r with _ | r
              all_goals
                unfold rnV
                go_wp2_with fail
                refine (runes_any _ _ HT8.out (by rw [strB_size]; omega)).mono ?_
                rintro e w9 ⟨rfl, hb9⟩
                rw [HRN.out]
                unfold rnV
                go_wp2
                go_ret
                exact ⟨rfl, below_trans HB8.out hb9⟩
theorem Tryd.elemInts : Tryd.prog.elem 37 = 3 := by kernel_rfl
theorem Tryd.sizeInt (w : World) : (sizeOf 3).run Tryd.prog w = .ok 1 w := by kernel_rfl
theorem RdI.cut {w : World} {ao : Option Addr} {len cap : Nat} {xs : List Int} (hr : RdI w ao len cap xs) (q : Nat) (hq : q ≤ len) :
    (∀ w, (Instr.slice 37 (.slice ao len cap) none (some (.int .i64 q)) none).run Tryd.prog w = .ok (.slice ao q cap) w) ∧ RdI w ao q cap (xs.take q) := by
  have hle := hr.le
  refine ⟨fun w => ?_, ?_⟩
  · rw [run_slice_h w _ _ _ _ (by rw [Tryd.elemInts]; exact Tryd.underlying37) .i64 q (by omega) (by omega), Tryd.elemInts, Tryd.sizeInt]
    simp [Result.andThen, sliced]
    intro _
    cases ao <;> simp [Addr.add]
  · refine ⟨by rw [List.length_take, hr.length]; omega, by omega, hr.max, fun x hx => hr.bnd x (List.mem_of_mem_take hx), ?_⟩
    rcases hr.cells with h0 | ⟨b, off, ha, hc⟩
    · left; omega
    · refine .inr ⟨b, off, ha, fun j hj => ?_⟩
      rw [hc j (by omega), List.getElem?_take, if_pos hj]
theorem wirePoints_any (ao : Option Addr) (len cap : Nat) (xs : List Int) (p by' kd : Int) (w : World) (hr : RdI w ao len cap xs) (hT : U8 w) (hp0 : -9223372036854775808 ≤ p) (hp1 : p ≤ 9223372036854775807) :
    Calls Tryd.prog 7 #[.slice ao len cap, .int .i64 p, .int .i64 by', .int .i64 kd] w fun e w' => e = .returned (.bool true) ∧ Below w.heap.size w w' := by
  have h1 := hr.le
  have h2 := hr.max
  by_cases h : len ≤ 200
  · exact wirePoints_core ao ao len cap len cap xs p by' kd w hr hT (by omega) h hp0 hp1 (.inr ⟨h, rfl, rfl, rfl⟩)
  · obtain ⟨hc, hr'⟩ := hr.cut 200 (by omega)
    exact wirePoints_core ao ao len cap 200 cap (xs.take 200) p by' kd w hr' hT (by omega) (Nat.le_refl _) hp0 hp1 (.inl ⟨by omega, hc⟩)
end Go.Proofs.YtfldgjkpkmnkbabDoor
