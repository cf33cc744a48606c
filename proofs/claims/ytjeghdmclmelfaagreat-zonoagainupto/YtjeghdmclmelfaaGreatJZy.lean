import Derived.Test.YtjeghdmclmelfaaGreatJZv
namespace Go.Proofs.YtjeghdmclmelfaaGreat
open Go.RowKit Go.Shelf
set_option linter.unusedVariables false
set_option linter.unusedSimpArgs false
theorem plainW_eq {u : Nat} (h : u < 18446744073709551616) : plainW u = plainM u := by
 have hr : srung u = 0 ↔ (u = 0 ∨ u = 9223372036854775808) := by
  unfold srung fneg frung
  split <;> rename_i hc <;> simp at hc <;> omega
 unfold plainW plainM
 by_cases h1 : u = 9223372036854775808
 ·rw [if_pos h1, if_pos (hr.2 (.inr h1))]
 ·rw [if_neg h1]
  by_cases h2 : u = 0
  ·rw [if_pos (hr.2 (.inl h2)), h2]
  ·rw [if_neg (fun c => by rcases hr.1 c with c | c <;> omega)]
set_option maxRecDepth 100000 in
set_option maxHeartbeats 1000000 in
theorem plainAll_any (ao : Option Addr) (len cap : Nat) (us : List Nat) (w : World) (hr : RdUs w ao len cap us) (hl : len ≤ 1050000) :
  Calls Tryz.prog 28 #[.slice ao len cap] w fun e w' => ∃ v, e = .returned v ∧ w'.ownsRow w.heap.size 40 1 v us.length (uJ (us.map plainW)) ∧ Below w.heap.size w w' := by
 have HR : Hid _ := hr
 have HLN : Hid _ := hr.length
 clear hr
 go_enter Tryz.func28, Tryz.ntmps28
 go_wp2_with fail
 go_loopg [3, 4] len (fun g v u wx => ∃ (i : Nat), u = .int .i64 i ∧ i + g = len ∧ Hid (wx.ownsRow w.heap.size 40 1 v i (uJ ((us.take i).map plainW))) ∧ Hid (Below w.heap.size w wx))
 case atStart => exact ⟨0, rfl, by omega, World.ownsRow_nil _ _ _ _, Below.refl _ _⟩
 case round =>
  obtain ⟨i, rfl, hi, HO, HB⟩ := hrel
  have hsr := HB.out.size
  by_cases hlt : i < len
  ·have hd : decide ((i : Int) < (len : Int)) = true := decide_eq_true (by omega)
   obtain ⟨g, rfl⟩ : ∃ g, gk = g + 1 := ⟨gk - 1, by omega⟩
   rcases (HR.out.later HB.out).cells with h0 | ⟨b, off, rfl, hc⟩
   ·omega
   have g0 := hc i hlt
   have HTS : Hid _ := take_snocJ (us := us) (k := i) (by rw [HLN.out]; exact hlt)
   obtain ⟨x, hx⟩ : ∃ x, us[i]?.getD 0 = x := ⟨_, rfl⟩
   rw [hx] at g0 HTS
   have HIG : Hid _ := hi
   clear hc hi hx
   obtain ⟨y, hy⟩ : ∃ y, plainW x = y := ⟨_, rfl⟩
   have HY : Hid _ := hy
   have HPL : Hid _ := refPlain_any x wr
   rw [hy] at HPL
   clear hy
   go_wp2_with (first
    | (go_at_call 58; refine Calls.mono HPL.out ?_; rintro e w' ⟨rfl, hw⟩; rw [hw]; clear hw)
    | (at_builtin; refine append_gsJ Tryz.underlying28 Tryz.infoUJ rfl (by decide) (by decide) _ (by rfl) _ _ (by rfl) w.heap.size _ _ _ (by rfl) (World.ownsRow.alloc HO.out _) ⟨wr.heap.size, 0, none⟩ 1 1 [.int .u64 (y : Int)] (by rfl) rfl (news_oneJ (heap_alloc_new wr _)) (oneI _ rfl) (by omega) (by simp only [alloc_size]; omega) ?_; intro v5 w5 o5 g5))
   have B5 : Hid (Below w.heap.size w w5) := (HB.out.alloc hsr _).trans (g5.below (fun k hk => (World.ownsRow.lt HO.out k hk).1) (by simp only [alloc_size]; omega))
   have O5 : Hid _ := o5
   clear o5 g5
   go_roundg g
   case measure => omega
   case rel =>
    refine ⟨i + 1, by go_num, by have := HIG.out; omega, ?_, B5⟩
    unfold Hid
    rw [HTS.out, List.map_append, List.map_cons, List.map_nil, HY.out, uJ_snoc]
    exact O5.out
  ·have hd : decide ((i : Int) < (len : Int)) = false := decide_eq_false (by omega)
   have HO2 : Hid (wr.ownsRow w.heap.size 40 1 u3 us.length (uJ (us.map plainW))) := by
    have := HO.out
    rw [List.take_of_length_le (by rw [HLN.out]; omega), show i = us.length by rw [HLN.out]; omega] at this
    exact this
   go_wp2
   go_ret
   exact ⟨_, rfl, HO2.out, HB.out⟩
def u0N (n : Nat) : Array Value := madeCells #[.int .u64 0] n
theorem u0N_at (n j : Nat) (h : j < n) : (u0N n)[j]? = some (.int .u64 0) := by unfold u0N madeCells; simp [h, Nat.mod_one]
theorem makeUJ (n : Nat) (hn : n ≤ 4000000) (w : World) :
  (Instr.makeSlice 28 (.int .i64 (n : Int)) (.int .i64 (n : Int))).run Tryz.prog w = .ok (.slice (some ⟨w.heap.size, 0, none⟩) n n) (w.alloc (.cells (u0N n) 40)) := by
 obtain ⟨i0, hi, hz0, hz1, hz2⟩ := info3' Tryz.infoUJ
 have h := run_makeSlice (P := Tryz.prog) w 28 40 i0 (.int .u64 0) Tryz.underlying28 hi hz0 .i64 .i64 (n : Int) (n : Int) (by omega) (by omega) (by rw [hz1, Int.toNat_natCast]; omega) (by rw [hz2]; omega) (by omega)
 rw [Int.toNat_natCast, hz1, Nat.mul_one] at h
 exact h
set_option maxRecDepth 100000 in
theorem zeros_any (n : Nat) (hn : n ≤ 4000000) (w : World) :
  Calls Tryz.prog 29 #[.int .i64 (n : Int)] w fun e w' => ∃ v, e = .returned v ∧ w'.ownsRow w.heap.size 40 1 v n (uJ (List.replicate n 0)) ∧ Below w.heap.size w w' := by
 have hmk := makeUJ n hn
 go_enter Tryz.func29, Tryz.ntmps29
 go_wp2_with fail
 go_ret
 refine ⟨_, rfl, ⟨by simp [uJ], .inr ⟨w.heap.size, n, _, rfl, Nat.le_refl _, heap_alloc_new w _, Nat.le_refl _, by simp only [maxLen]; omega, ?_, ?_⟩⟩, (Below.refl _ w).alloc (Nat.le_refl _) _⟩
 ·unfold u0N madeCells; simp
 ·apply List.ext_getElem?
  intro j
  rw [Nat.mul_one, List.getElem?_take]
  by_cases hj : j < n
  ·rw [if_pos hj, Array.getElem?_toList, u0N_at n j hj]
   unfold uJ
   simp [hj]
  ·rw [if_neg hj, List.getElem?_eq_none (by rw [uJ_len]; simp; omega)]
set_option maxRecDepth 100000 in
theorem lost_any (n : Int) (w : World) : Calls Tryz.prog 26 #[.int .i64 n] w fun e w' => e = .returned (.agg #[.int .i64 n, .slice none 0 0, .slice none 0 0, .slice none 0 0, .slice none 0 0, .bool true]) ∧ Below w.heap.size w w' := by
 go_enter Tryz.func26, Tryz.ntmps26
 go_wp2_with (first | (refine wpList_store_row (by rfl) 31 _ _ (by rfl) w w.heap.size w.heap.size _ _ (by rfl) (by rfl) (heap_alloc_new w _) ((Below.refl _ w).alloc (Nat.le_refl _) _) (Nat.le_refl _) 6 Tryz.infoZu (by rfl) (by rfl) (oneZ _ _ _ _ _ rfl rfl rfl rfl _) ?_; intro W9 e9 b9 s9 o9))
 exact bodyPost_ret (res_oneJ _ 2 31 (by kernel_rfl) _ _ w.heap.size _ (by rfl) _ Tryz.underlying31 rfl 6 Tryz.infoZu rfl e9) rfl ⟨rfl, b9⟩
end Go.Proofs.YtjeghdmclmelfaaGreat
