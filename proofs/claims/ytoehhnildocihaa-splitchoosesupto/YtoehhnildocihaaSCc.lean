import Derived.Test.YtoehhnildocihaaSCb3
import Derived.Test.YtoehhnildocihaaSCp
namespace Go.Proofs.Ytoehhnildocihaa
open Go.RowKit Go.Shelf
set_option linter.unusedVariables false
set_option linter.unusedSimpArgs false
theorem wrI (n : Int) (h : -9223372036854775808 ≤ n ∧ n ≤ 9223372036854775807) : IntKind.i64.wrap n = n := by
  unfold IntKind.wrap
  simp [IntKind.signed, IntKind.bits]
  omega
theorem finsC {us : List Nat} (h : ∀ u ∈ us, Fin u) (j : Nat) : Fin (us[j]?.getD 0) := by
  by_cases hj : j < us.length
  · exact h _ (getD_mem hj)
  · rw [List.getElem?_eq_none (by omega)]; decide
/-- areNumbers' sum. -/
def adK (us : List Nat) : Nat → Option Int
  | 0 => some 0
  | k + 1 => prodO (adK us k) (us[k]?.getD 0) 4607182418800017408 0
theorem prodO_bad {o : Option Int} {a b : Nat} {n : Int} (h : ¬ Fin a) : prodO o a b n = none := by
  unfold prodO
  cases o with
  | none => rfl
  | some z => simp only [Option.bind_some]; rw [if_neg (fun c => h c.1)]
theorem adK_none (us : List Nat) : ∀ k, (∃ j, j < k ∧ ¬ Fin (us[j]?.getD 0)) → adK us k = none
  | 0, h => by obtain ⟨j, hj, _⟩ := h; omega
  | k + 1, h => by
    obtain ⟨j, hj, hn⟩ := h
    unfold adK
    by_cases e : j = k
    · subst e; exact prodO_bad hn
    · rw [adK_none us k ⟨j, by omega, hn⟩]; rfl
theorem fin_oneC : Fin 4607182418800017408 := by decide
theorem adK_is {a F n : Nat} {us : List Nat} (ha : a = 92) (hF : F = 4196) (hd : ∀ j : Nat, Fin (us[j]?.getD 0)) (hn : n ≤ 1000) : ∀ k, k ≤ n → adK us k = some (dotV us (List.replicate n 4607182418800017408) k * ((2 ^ a : Nat) : Int))
  | 0, _ => by simp [adK, dotV]
  | k + 1, h => by
    obtain ⟨E, hE⟩ : ∃ E : Nat, E = 4700 := ⟨_, rfl⟩
    have hv : ∀ j : Nat, Fin ((List.replicate n 4607182418800017408)[j]?.getD 0) := by
      intro j
      by_cases hj : j < n
      · rw [List.getElem?_replicate, if_pos hj]; exact fin_oneC
      · rw [List.getElem?_replicate, if_neg hj]; decide
    have hb := dotV_bound hF hd hv (k + 1)
    have hm := much_bound hF hE
    have hk : (k + 1) * 2 ^ F ≤ 1073741824 * 2 ^ F := Nat.mul_le_mul_right _ (by omega)
    have ih := adK_is ha hF hd hn k (by omega)
    have e1 : (List.replicate n 4607182418800017408)[k]?.getD 0 = 4607182418800017408 := by rw [List.getElem?_replicate, if_pos (by omega)]; rfl
    unfold adK
    rw [dotV] at hb
    rw [ih, dotV]
    have := prodO_g (E := E) (a := a) (u := us[k]?.getD 0) (b := (List.replicate n 4607182418800017408)[k]?.getD 0) (by omega) (hd k) (hv k) (prodZ_92 ha) (Nat.lt_of_le_of_lt hb (Nat.lt_of_le_of_lt hk hm))
    rw [e1] at this ⊢
    exact this
theorem adK_num {us : List Nat} (hn : us.length ≤ 1000) : (adK us us.length).isSome = numsB us := by
  by_cases h : ∀ u ∈ us, Fin u
  · have e1 : numsB us = true := by unfold numsB; rw [List.all_eq_true]; intro u hu; exact decide_eq_true (h u hu)
    rw [adK_is rfl rfl (fun j => finsC h j) hn us.length (by omega), e1]
    rfl
  · have e1 : numsB us = false := by
      rw [Bool.eq_false_iff]
      intro hc
      unfold numsB at hc
      rw [List.all_eq_true] at hc
      exact h fun u hu => of_decide_eq_true (hc u hu)
    have : ∃ j, j < us.length ∧ ¬ Fin (us[j]?.getD 0) := by
      by_cases c : ∃ j, j < us.length ∧ ¬ Fin (us[j]?.getD 0)
      · exact c
      · exfalso
        refine h fun u hu => ?_
        obtain ⟨j, hj, e⟩ := List.mem_iff_getElem.1 hu
        have h1 : us[j]?.getD 0 = u := by rw [List.getElem?_eq_getElem hj]; exact e
        exact Decidable.by_contra fun hf => c ⟨j, hj, by rw [h1]; exact hf⟩
    rw [adK_none us _ this, e1]
    rfl
set_option maxRecDepth 100000 in
set_option maxHeartbeats 2000000 in
theorem areNum_any (ao : Option Addr) (len cap : Nat) (us : List Nat) (hl : len ≤ 1000) (w : World) (h : RdF w ao len cap us) :
    Calls Try.prog 28 #[.slice ao len cap] w fun e w' => e = .returned (.bool (numsB us)) ∧ Below w.heap.size w w' := by
  have HR : Hid _ := h
  have hmx : len ≤ 9223372036854775807 := Nat.le_trans h.max maxLen_le
  have HLN : Hid (us.length = len) := h.length
  have HE : Hid ((adK us len).isSome = numsB us) := by have := adK_num (us := us) (by rw [h.length]; exact hl); rw [h.length] at this; exact this
  clear h
  go_enter Try.func28, Try.ntmps28
  go_wp2_with fail
  refine (new_any _).mono ?_
  rintro e w1 ⟨rfl, a1, b1, s1⟩
  have HA1 : Hid _ := a1
  have HB1 : Hid _ := b1
  clear a1 b1 s1
  go_wp2_with fail
  go_loopg [9] len (fun g iv wx => ∃ k : Nat, iv = .int .i64 k ∧ k + g = len ∧ Hid (AccO wx w.heap.size (adK us k)) ∧ Hid (Below w.heap.size w wx))
  case atStart => exact ⟨0, rfl, by omega, HA1, HB1⟩
  case round =>
    clear HA1 HB1
    obtain ⟨k, rfl, hk, HA, HB⟩ := hrel
    by_cases hlt : k < len
    · have hd : decide ((k : Int) < (len : Int)) = true := decide_eq_true (by omega)
      obtain ⟨g, rfl⟩ : ∃ g, gk = g + 1 := ⟨gk - 1, by omega⟩
      rcases (HR.out.later HB.out).cells with h0 | ⟨ab, aoff, rfl, hca⟩
      · omega
      have ga := hca k hlt
      have hax := HR.out.lt _ (getD_mem (us := us) (j := k) (by rw [HLN.out]; exact hlt))
      have HD : Hid (adK us (k + 1) = prodO (adK us k) (us[k]?.getD 0) 4607182418800017408 0) := rfl
      obtain ⟨x, hx⟩ : ∃ x, us[k]?.getD 0 = x := ⟨_, rfl⟩
      rw [hx] at HD ga hax
      have HIG : Hid (k + (g + 1) = len) := hk
      clear hca hx hk
      go_wp2_with (go_at_call 49; refine Calls.mono (accAdd_any w.heap.size _ x hax _ HA.out) ?_; rintro e w5 ⟨rfl, a5, c5⟩)
      have HA5 : Hid (AccO w5 w.heap.size (adK us (k + 1))) := by unfold Hid; rw [HD.out]; exact a5
      have HB5 : Hid (Below w.heap.size w w5) := HB.out.trans c5.below
      go_roundg g
      case measure => omega
      case rel => exact ⟨k + 1, by go_num, by have := HIG.out; omega, HA5, HB5⟩
    · have hd : decide ((k : Int) < (len : Int)) = false := decide_eq_false (by omega)
      have hd' : decide (k < len) = false := decide_eq_false (by omega)
      have HA2 : Hid (AccO wr w.heap.size (adK us len)) := by have e : k = len := by omega
                                                              exact e ▸ HA.out
      go_wp2_with (go_at_call 32; refine Calls.mono (bad_any w.heap.size _ _ HA2.out) ?_; rintro e w6 ⟨rfl, rfl⟩)
      go_ret
      exact ⟨by rw [HE.out]; rfl, HB.out⟩
set_option maxRecDepth 100000 in
set_option maxHeartbeats 2000000 in
theorem turn_any (ao bo : Option Addr) (len cap blen bcap : Nat) (us vs : List Nat) (hle : blen ≤ len) (hf : ∀ u ∈ us, Fin u) (w : World) (h : RdF w ao len cap us) (h' : RdF w bo blen bcap vs) :
    Calls Try.prog 29 #[.slice ao len cap, .slice bo blen bcap] w fun e w' => e = .returned (.pointer (some ⟨w.heap.size, 0, none⟩)) ∧ AccO w' w.heap.size (absO (wgK us vs blen)) ∧ Below w.heap.size w w' ∧ w.heap.size < w'.heap.size := by
  have HR : Hid _ := And.intro h h'
  have hmx : blen ≤ 9223372036854775807 := Nat.le_trans h'.max maxLen_le
  have hmx2 : len ≤ 9223372036854775807 := Nat.le_trans h.max maxLen_le
  have HLN : Hid (us.length = len ∧ vs.length = blen) := ⟨h.length, h'.length⟩
  have HF : Hid (∀ u ∈ us, Fin u) := hf
  clear h h' hf
  go_enter Try.func29, Try.ntmps29
  go_wp2_with fail
  refine (new_any _).mono ?_
  rintro e w1 ⟨rfl, a1, b1, s1⟩
  have HA1 : Hid _ := a1
  have HB1 : Hid _ := b1
  have HS1 : Hid (w.heap.size < w1.heap.size) := by unfold Hid; omega
  clear a1 b1 s1
  go_wp2_with fail
  go_loopg [11] blen (fun g iv wx => ∃ k : Nat, iv = .int .i64 k ∧ k + g = blen ∧ Hid (AccO wx w.heap.size (wgK us vs k)) ∧ Hid (Below w.heap.size w wx) ∧ Hid (w.heap.size < wx.heap.size))
  case atStart => exact ⟨0, rfl, by omega, HA1, HB1, HS1⟩
  case round =>
    clear HA1 HB1 HS1
    obtain ⟨k, rfl, hk, HA, HB, HS⟩ := hrel
    by_cases hlt : k < blen
    · have hd : decide ((k : Int) < (blen : Int)) = true := decide_eq_true (by omega)
      obtain ⟨g, rfl⟩ : ∃ g, gk = g + 1 := ⟨gk - 1, by omega⟩
      rcases (HR.out.1.later HB.out).cells with h0 | ⟨ab, aoff, rfl, hca⟩
      · omega
      rcases (HR.out.2.later HB.out).cells with h0 | ⟨bb, boff, rfl, hcb⟩
      · omega
      have ga := hca k (by omega)
      have gb := hcb k hlt
      have hmem := getD_mem (us := us) (j := k) (by rw [HLN.out.1]; omega)
      have hax := HR.out.1.lt _ hmem
      have hbx := HR.out.2.lt _ (getD_mem (us := vs) (j := k) (by rw [HLN.out.2]; exact hlt))
      have hfx := HF.out _ hmem
      have HD : Hid (wgK us vs (k + 1) = if srung (us[k]?.getD 0) = 0 then wgK us vs k else prodO (wgK us vs k) (us[k]?.getD 0) (vs[k]?.getD 0) 0) := rfl
      obtain ⟨x, hx⟩ : ∃ x, us[k]?.getD 0 = x := ⟨_, rfl⟩
      obtain ⟨y, hy⟩ : ∃ y, vs[k]?.getD 0 = y := ⟨_, rfl⟩
      rw [hx, hy] at HD
      rw [hx] at ga hax hfx
      rw [hy] at gb hbx
      have hne := neq_ordN hfx (v := 0) (by decide)
      have HIG : Hid (k + (g + 1) = blen) := hk
      have hlt2 : k < len := by omega
      clear hca hcb hx hy hk hfx hmem
      rw [show srung 0 = 0 by decide] at hne
      by_cases h0 : srung x = 0
      · rw [decide_eq_true h0] at hne
        rw [if_pos h0] at HD
        clear h0
        go_wp2_with fail
        go_roundg g
        case measure => omega
        case rel => exact ⟨k + 1, by go_num, by have := HIG.out; omega, by unfold Hid; rw [HD.out]; exact HA.out, HB, HS⟩
      · rw [decide_eq_false h0] at hne
        rw [if_neg h0] at HD
        clear h0
        go_wp2_with (go_at_call 50; refine Calls.mono (accProd_any w.heap.size _ x y 0 hax hbx _ HA.out) ?_; rintro e w5 ⟨rfl, a5, c5⟩)
        have HA5 : Hid (AccO w5 w.heap.size (wgK us vs (k + 1))) := by unfold Hid; rw [HD.out]; exact a5
        have HB5 : Hid (Below w.heap.size w w5) := HB.out.trans c5.below
        have HS5 : Hid (w.heap.size < w5.heap.size) := Nat.lt_of_lt_of_le HS.out c5.below.size
        go_roundg g
        case measure => omega
        case rel => exact ⟨k + 1, by go_num, by have := HIG.out; omega, HA5, HB5, HS5⟩
    · have hd : decide ((k : Int) < (blen : Int)) = false := decide_eq_false (by omega)
      have hd' : decide (k < blen) = false := decide_eq_false (by omega)
      have HA2 : Hid (AccO wr w.heap.size (wgK us vs blen)) := by have e : k = blen := by omega
                                                                  exact e ▸ HA.out
      go_wp2_with (go_at_call 51; refine Calls.mono (accAbs_any w.heap.size _ _ HA2.out) ?_; rintro e w6 ⟨rfl, a6, c6⟩)
      go_ret
      exact ⟨rfl, a6, HB.out.trans c6.below, Nat.lt_of_lt_of_le HS.out c6.below.size⟩
/-- length's sum. -/
def lnK (us : List Nat) (l : Int) : Nat → Option Int
  | 0 => some 0
  | k + 1 => prodO (lnK us l k) (frung (us[k]?.getD 0)) 4607182418800017408 (-l)
theorem frung_lt64 (u : Nat) (h : u < 18446744073709551616) : frung u < 18446744073709551616 := by unfold frung; omega
set_option maxRecDepth 100000 in
set_option maxHeartbeats 2000000 in
theorem length_any (ao : Option Addr) (len cap : Nat) (us : List Nat) (l : Int) (hl0 : 0 ≤ l) (hl8 : l ≤ 8) (w : World) (h : RdF w ao len cap us) :
    Calls Try.prog 31 #[.slice ao len cap, .int .i64 l] w fun e w' => e = .returned (.pointer (some ⟨w.heap.size, 0, none⟩)) ∧ AccO w' w.heap.size (lnK us l len) ∧ Below w.heap.size w w' ∧ w.heap.size < w'.heap.size := by
  have HR : Hid _ := h
  have hmx : len ≤ 9223372036854775807 := Nat.le_trans h.max maxLen_le
  have HLN : Hid (us.length = len) := h.length
  clear h
  go_enter Try.func31, Try.ntmps31
  go_wp2_with fail
  refine (new_any _).mono ?_
  rintro e w1 ⟨rfl, a1, b1, s1⟩
  have HA1 : Hid _ := a1
  have HB1 : Hid _ := b1
  have HS1 : Hid (w.heap.size < w1.heap.size) := by unfold Hid; omega
  clear a1 b1 s1
  go_wp2_with fail
  go_loopg [11] len (fun g iv wx => ∃ k : Nat, iv = .int .i64 k ∧ k + g = len ∧ Hid (AccO wx w.heap.size (lnK us l k)) ∧ Hid (Below w.heap.size w wx) ∧ Hid (w.heap.size < wx.heap.size))
  case atStart => exact ⟨0, rfl, by omega, HA1, HB1, HS1⟩
  case round =>
    clear HA1 HB1 HS1
    obtain ⟨k, rfl, hk, HA, HB, HS⟩ := hrel
    by_cases hlt : k < len
    · have hd : decide ((k : Int) < (len : Int)) = true := decide_eq_true (by omega)
      obtain ⟨g, rfl⟩ : ∃ g, gk = g + 1 := ⟨gk - 1, by omega⟩
      rcases (HR.out.later HB.out).cells with h0 | ⟨ab, aoff, rfl, hca⟩
      · omega
      have ga := hca k hlt
      have hax := HR.out.lt _ (getD_mem (us := us) (j := k) (by rw [HLN.out]; exact hlt))
      have HD : Hid (lnK us l (k + 1) = prodO (lnK us l k) (frung (us[k]?.getD 0)) 4607182418800017408 (-l)) := rfl
      obtain ⟨x, hx⟩ : ∃ x, us[k]?.getD 0 = x := ⟨_, rfl⟩
      rw [hx] at HD ga hax
      have HIG : Hid (k + (g + 1) = len) := hk
      have hwl : IntKind.i64.wrap (-l) = -l := wrI _ (by omega)
      clear hca hx hk
      go_wp2_with (first | (go_at_call 54; refine (abs_any x hax _).mono ?_; rintro e w4 ⟨rfl, rfl⟩) | (go_at_call 50; refine Calls.mono (accProd_any w.heap.size _ (frung x) 4607182418800017408 (-l) (frung_lt64 x hax) (by decide) _ HA.out) ?_; rintro e w5 ⟨rfl, a5, c5⟩))
      have HA5 : Hid (AccO w5 w.heap.size (lnK us l (k + 1))) := by unfold Hid; rw [HD.out]; exact a5
      have HB5 : Hid (Below w.heap.size w w5) := HB.out.trans c5.below
      have HS5 : Hid (w.heap.size < w5.heap.size) := Nat.lt_of_lt_of_le HS.out c5.below.size
      go_roundg g
      case measure => omega
      case rel => exact ⟨k + 1, by go_num, by have := HIG.out; omega, HA5, HB5, HS5⟩
    · have hd : decide ((k : Int) < (len : Int)) = false := decide_eq_false (by omega)
      have hd' : decide (k < len) = false := decide_eq_false (by omega)
      have HA2 : Hid (AccO wr w.heap.size (lnK us l len)) := by have e : k = len := by omega
                                                                exact e ▸ HA.out
      go_wp2_with fail
      go_ret
      exact ⟨rfl, HA2.out, HB.out, HS.out⟩
end Go.Proofs.Ytoehhnildocihaa
