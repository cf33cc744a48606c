import Derived.Test.YtpinpcefgbhdmaaDoorReadFrame
import Derived.WalkSpells
import Derived.Lib.LazyBuf
namespace Go.Proofs.YtpinpcefgbhdmaaDoor
open Go.RowKit
set_option linter.unusedVariables false

set_option maxRecDepth 100000 in
theorem clone_any (ao : Option Addr) (len cap : Nat) (xs : List Int) (w : World) (hr : Rd w ao len cap xs) (hl : len ≤ 35184372088832) :
    Calls Tryd.prog 32 #[.slice ao len cap] w fun e w' => ∃ v, e = .returned v ∧ Own w' w.heap.size v xs ∧ Below w.heap.size w w' := by
  have hnil := fun w => Lib.run_eql_slice_nil (P := Tryd.prog) w 23 5 ao len cap 0 0 Tryd.underlying23
  cases ao with
  | none =>
    have hc := hr.nil rfl
    have h0 : len = 0 := by have := hr.le; omega
    have hx : xs = [] := List.eq_nil_of_length_eq_zero (by rw [hr.length]; exact h0)
    subst hx hc h0
    clear hr
    have hnil' : ∀ w, (binOp .eql 23 (.slice none 0 0) (.slice none 0 0)).run Tryd.prog w = .ok (.bool true) w := hnil
    clear hnil
    go_enter Tryd.func32, Tryd.ntmps32
    go_wp2
    go_ret
    exact ⟨_, rfl, Own.nil _ _, Below.refl _ _⟩
  | some a =>
    have HR : Hid _ := hr
    clear hr
    go_enter Tryd.func32, Tryd.ntmps32
    go_wp2_with (at_builtin; refine append_rd _ rfl _ _ rfl w.heap.size _ [] rfl (Own.fresh w [] (by simp)) _ _ _ xs rfl (HR.out.later ((Below.refl _ _).alloc (Nat.le_refl _) _)) (by simp; omega) (by simp) ?_; intro v1 w1 hO hb)
    go_ret
    exact ⟨_, rfl, by rw [List.nil_append] at hO; exact hO, ((Below.refl _ _).alloc (Nat.le_refl _) _).trans hb⟩

/-- What a read of a frame tells: the body, the place behind it, the error. -/
def rdR (xs : List Int) (p : Int) : List Int × Int × Int :=
  if p < 0 ∨ (xs.length : Int) < p then ([], 0, 1)
  else if xs.length < p.toNat + 8 then ([], 0, 10)
  else if sumOk ((xs.drop p.toNat).take 8) = false then ([], 0, 16)
  else if 1048576 < leV ((xs.drop p.toNat).take 4) then ([], 0, 13)
  else if xs.length < p.toNat + 8 + leV ((xs.drop p.toNat).take 4) + 4 then ([], 0, 10)
  else if sumOk ((((xs.drop p.toNat).drop 8)).take (leV ((xs.drop p.toNat).take 4) + 4)) = false then ([], 0, 16)
  else (((xs.drop p.toNat).drop 8).take (leV ((xs.drop p.toNat).take 4)), p + 8 + leV ((xs.drop p.toNat).take 4) + 4, 0)
theorem rdR_byt (xs : List Int) (p : Int) (h : Byt xs) : Byt (rdR xs p).1 := by
  unfold rdR
  repeat' split
  all_goals first | exact Byt.nil | exact ((h.drop _).drop _).take _

set_option maxRecDepth 100000 in
set_option maxHeartbeats 2000000 in
theorem readFrame_any (ao : Option Addr) (len cap : Nat) (xs : List Int) (p : Int) (w : World) (hr : Rd w ao len cap xs) :
    Calls Tryd.prog 11 #[.slice ao len cap, .int .i64 p] w fun e w' => ∃ v, e = .returned (.tuple #[v, .int .i64 (rdR xs p).2.1, .int .i64 (rdR xs p).2.2]) ∧ Own w' w.heap.size v (rdR xs p).1 ∧ Below w.heap.size w w' := by
  have hm := hr.max
  have hle := hr.le
  have hl := hr.length
  by_cases ho : p < 0 ∨ (len : Int) < p
  · have he : rdR xs p = ([], 0, 1) := by unfold rdR; rw [hl, if_pos ho]
    rw [he]
    clear hr hl he
    go_enter Tryd.func11, Tryd.ntmps11
    go_wp2_with fail
    refine (outside_any _ _ _ _ _ (by omega) true (by simp; omega)).mono ?_
    rintro e w' ⟨rfl, rfl⟩
    go_wp2
    go_ret3
    exact ⟨_, rfl, Own.nil _ _, Below.refl _ _⟩
  · obtain ⟨q, rfl⟩ := Int.eq_ofNat_of_zero_le (show 0 ≤ p by omega)
    have hq : q ≤ len := by omega
    obtain ⟨a1, l1, c1, hcut1, hr1⟩ := cut_from hr q hq
    have hl1 : q + l1 = len := by have h := hr1.length; rw [List.length_drop, hl] at h; omega
    have hm1 := hr1.max
    have hle1 := hr1.le
    have he : rdR xs q = if l1 < 8 then ([], 0, 10) else if sumOk ((xs.drop q).take 8) = false then ([], 0, 16) else if 1048576 < leV ((xs.drop q).take 4) then ([], 0, 13)
        else if l1 < 8 + leV ((xs.drop q).take 4) + 4 then ([], 0, 10) else if sumOk ((((xs.drop q).drop 8)).take (leV ((xs.drop q).take 4) + 4)) = false then ([], 0, 16)
        else (((xs.drop q).drop 8).take (leV ((xs.drop q).take 4)), (q : Int) + 8 + leV ((xs.drop q).take 4) + 4, 0) := by
      unfold rdR
      rw [hl, if_neg ho, Int.toNat_natCast]
      have e1 : (len < q + 8) = (l1 < 8) := propext (by omega)
      have e2 : (len < q + 8 + leV ((xs.drop q).take 4) + 4) = (l1 < 8 + leV ((xs.drop q).take 4) + 4) := propext (by omega)
      simp only [e1, e2]
    rw [he]
    clear he ho hr
    have hql : q + l1 ≤ 9223372036854775807 := by omega
    clear hl hl1
    generalize xs.drop q = ds at *
    have hld := hr1.length
    by_cases h8 : l1 < 8
    · rw [if_pos h8]
      clear hr1 hld
      go_enter Tryd.func11, Tryd.ntmps11
      go_wp2_with fail
      refine (outside_any _ _ _ _ _ (by omega) false (by simp; omega)).mono ?_
      rintro e w' ⟨rfl, rfl⟩
      go_wp2
      go_ret3
      exact ⟨_, rfl, Own.nil _ _, Below.refl _ _⟩
    · rw [if_neg h8]
      have h8' : 8 ≤ l1 := by omega
      obtain ⟨a2, l2, c2, hcut2, hr2⟩ := cut_to hr1 8 h8'
      have hcut2' : ∀ w, (Instr.slice 23 (.slice a1 l1 c1) none (some (.int .i64 8)) none).run Tryd.prog w = .ok (.slice a2 l2 c2) w := hcut2
      have hl2 : 4 ≤ l2 := by have h := hr2.length; rw [List.length_take] at h; omega
      have HR2 : Hid _ := hr2
      have HR1 : Hid _ := hr1
      clear hcut2 hr2 h8
      cases hs1 : sumOk (ds.take 8) with
      | false =>
        rw [if_pos rfl]
        have HS1 : Hid _ := hs1
        clear hs1 hr1 hld
        go_enter Tryd.func11, Tryd.ntmps11
        go_wp2_with fail
        refine (outside_any _ _ _ _ _ (by omega) false (by simp; omega)).mono ?_
        rintro e w' ⟨rfl, rfl⟩
        go_wp2_with fail
        refine (sumHolds_any _ _ _ _ _ HR2.out hl2).mono ?_
        rintro e w1 ⟨rfl, hB1⟩
        rw [HS1.out]
        go_wp2
        go_ret3
        exact ⟨_, rfl, Own.nil _ _, hB1⟩
      | true =>
        rw [if_neg (by simp)]
        have HS1 : Hid _ := hs1
        clear hs1
        obtain ⟨a3, l3, c3, hcut3, hr3⟩ := cut_to hr1 4 (by omega)
        have hcut3' : ∀ w, (Instr.slice 23 (.slice a1 l1 c1) none (some (.int .i64 4)) none).run Tryd.prog w = .ok (.slice a3 l3 c3) w := hcut3
        have hl3 : l3 ≤ 8 := by have h := hr3.length; rw [List.length_take] at h; omega
        have HR3 : Hid _ := hr3
        have hn32 : leV (ds.take 4) < 4294967296 := by
          have h1 := leV_lt _ (hr1.byt.take 4)
          have h2 : 2 ^ (8 * (ds.take 4).length) ≤ 2 ^ 32 := Nat.pow_le_pow_right (by decide) (by rw [List.length_take]; omega)
          have h32 : (2 : Nat) ^ 32 = 4294967296 := rfl
          omega
        clear hcut3 hr3
        generalize hn : leV (ds.take 4) = n at *
        have HN : Hid _ := hn
        clear hn
        by_cases hbig : 1048576 < n
        · rw [if_pos hbig]
          clear hr1 hld
          go_enter Tryd.func11, Tryd.ntmps11
          go_wp2_with fail
          refine (outside_any _ _ _ _ _ (by omega) false (by simp; omega)).mono ?_
          rintro e w' ⟨rfl, rfl⟩
          go_wp2_with fail
          refine (sumHolds_any _ _ _ _ _ HR2.out hl2).mono ?_
          rintro e w1 ⟨rfl, hB1⟩
          rw [HS1.out]
          go_wp2_with fail
          refine (low_any _ _ _ _ _ (HR3.out.later hB1) hl3).mono ?_
          rintro e w1' ⟨rfl, rfl⟩
          rw [HN.out]
          go_wp2
          go_ret3
          exact ⟨_, rfl, Own.nil _ _, hB1⟩
        · rw [if_neg hbig]
          have hbig' : n ≤ 1048576 := by omega
          clear hbig
          obtain ⟨a4, l4, c4, hcut4, hr4⟩ := cut_from hr1 8 h8'
          have hcut4' : ∀ w, (Instr.slice 23 (.slice a1 l1 c1) (some (.int .i64 8)) none none).run Tryd.prog w = .ok (.slice a4 l4 c4) w := hcut4
          have hl4 : l4 + 8 = l1 := by have h := hr4.length; rw [List.length_drop] at h; omega
          have hm4 := hr4.max
          have hle4 := hr4.le
          clear hcut4 hr1 hld
          by_cases hsh : l1 < 8 + n + 4
          · rw [if_pos hsh]
            have hsh' : l4 < n + 4 := by omega
            clear hl4 hr4 hsh
            go_enter Tryd.func11, Tryd.ntmps11
            go_wp2_with fail
            refine (outside_any _ _ _ _ _ (by omega) false (by simp; omega)).mono ?_
            rintro e w' ⟨rfl, rfl⟩
            go_wp2_with fail
            refine (sumHolds_any _ _ _ _ _ HR2.out hl2).mono ?_
            rintro e w1 ⟨rfl, hB1⟩
            rw [HS1.out]
            go_wp2_with fail
            refine (low_any _ _ _ _ _ (HR3.out.later hB1) hl3).mono ?_
            rintro e w1' ⟨rfl, rfl⟩
            rw [HN.out]
            go_wp2
            go_ret3
            exact ⟨_, rfl, Own.nil _ _, hB1⟩
          · rw [if_neg hsh]
            have hsh' : n + 4 ≤ l4 := by omega
            have hpn : q + 8 + n + 4 ≤ 9223372036854775807 := by omega
            obtain ⟨a5, l5, c5, hcut5, hr5⟩ := cut_to hr4 (n + 4) hsh'
            have hcut5' : ∀ w, (Instr.slice 23 (.slice a4 l4 c4) none (some (.int .i64 ((n : Int) + 4))) none).run Tryd.prog w = .ok (.slice a5 l5 c5) w := hcut5
            obtain ⟨a6, l6, c6, hcut6, hr6⟩ := cut_to hr4 n (by omega)
            have hl5 : 4 ≤ l5 := by have h := hr5.length; rw [List.length_take] at h; have := hr4.length; omega
            have hl6 : l6 ≤ 1048576 := by have h := hr6.length; rw [List.length_take] at h; omega
            have HR5 : Hid _ := hr5
            have HR6 : Hid _ := hr6
            clear hcut5 hl4 hr4 hr5 hr6 hsh
            generalize (ds.drop 8).take (n + 4) = es at *
            generalize (ds.drop 8).take n = fs at *
            cases hs2 : sumOk es with
            | false =>
              rw [if_pos rfl]
              have HS2 : Hid _ := hs2
              clear hs2
              go_enter Tryd.func11, Tryd.ntmps11
              go_wp2_with fail
              refine (outside_any _ _ _ _ _ (by omega) false (by simp; omega)).mono ?_
              rintro e w' ⟨rfl, rfl⟩
              go_wp2_with fail
              refine (sumHolds_any _ _ _ _ _ HR2.out hl2).mono ?_
              rintro e w1 ⟨rfl, hB1⟩
              rw [HS1.out]
              go_wp2_with fail
              refine (low_any _ _ _ _ _ (HR3.out.later hB1) hl3).mono ?_
              rintro e w1' ⟨rfl, rfl⟩
              rw [HN.out]
              go_wp2_with fail
              refine (sumHolds_any _ _ _ _ _ (HR5.out.later hB1) hl5).mono ?_
              rintro e w2 ⟨rfl, hb2⟩
              rw [HS2.out]
              have hB2 := below_trans hB1 hb2
              go_wp2
              go_ret3
              exact ⟨_, rfl, Own.nil _ _, hB2⟩
            | true =>
              rw [if_neg (by simp)]
              have HS2 : Hid _ := hs2
              clear hs2
              go_enter Tryd.func11, Tryd.ntmps11
              go_wp2_with fail
              refine (outside_any _ _ _ _ _ (by omega) false (by simp; omega)).mono ?_
              rintro e w' ⟨rfl, rfl⟩
              go_wp2_with fail
              refine (sumHolds_any _ _ _ _ _ HR2.out hl2).mono ?_
              rintro e w1 ⟨rfl, hB1⟩
              rw [HS1.out]
              go_wp2_with fail
              refine (low_any _ _ _ _ _ (HR3.out.later hB1) hl3).mono ?_
              rintro e w1' ⟨rfl, rfl⟩
              rw [HN.out]
              go_wp2_with fail
              refine (sumHolds_any _ _ _ _ _ (HR5.out.later hB1) hl5).mono ?_
              rintro e w2 ⟨rfl, hb2⟩
              rw [HS2.out]
              have hB2 := below_trans hB1 hb2
              go_wp2_with fail
              refine (clone_any _ _ _ _ _ (HR6.out.later hB2) (by omega)).mono ?_
              rintro e w3 ⟨v3, rfl, hO3, hb3⟩
              go_wp2
              go_ret3
              exact ⟨_, rfl, hO3.mono hB2.size, below_trans hB2 hb3⟩
end Go.Proofs.YtpinpcefgbhdmaaDoor
