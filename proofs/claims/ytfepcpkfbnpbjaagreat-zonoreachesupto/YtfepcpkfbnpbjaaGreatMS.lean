import Derived.Test.YtfepcpkfbnpbjaaGreatMR
import Derived.Test.YtfepcpkfbnpbjaaGreatPur
import Derived.Deep.RegionHeld3
import Derived.BigRegion
import Derived.Test.YtfepcpkfbnpbjaaGreatMQ
import Derived.Shelf.Abstract
namespace Go.Proofs.YtfepcpkfbnpbjaaGreat
open Go.RowKit
set_option linter.unusedVariables false

end Go.Proofs.YtfepcpkfbnpbjaaGreat


namespace Go.Proofs.YtfepcpkfbnpbjaaGreat
open Go.RowKit
set_option linter.unusedVariables false

/-- THE SLICE OF Spans '.slice ao len cap' READS AS F. -/
structure RdS (w : World) (ao : Option Addr) (len cap : Nat) (F : Nat → Nat × Nat × Bool) : Prop where
  le : len ≤ cap
  max : cap ≤ maxLen
  lt : ∀ j, j < len → (F j).1 < 18446744073709551616 ∧ (F j).2.1 < 18446744073709551616
  cells : len = 0 ∨ ∃ b off, ao = some ⟨b, off, none⟩ ∧ ∀ j, j < len → w.cell? ⟨b, off + j * 3, none⟩ = some (.float .f64 (F j).1) ∧ w.cell? ⟨b, off + j * 3 + 1, none⟩ = some (.float .f64 (F j).2.1) ∧ w.cell? ⟨b, off + j * 3 + 2, none⟩ = some (.bool (F j).2.2)
theorem RdS.later {w w' : World} {ao : Option Addr} {len cap : Nat} {F : Nat → Nat × Nat × Bool} (h : RdS w ao len cap F) (hb : Below w.heap.size w w') : RdS w' ao len cap F := by
  refine ⟨h.le, h.max, h.lt, ?_⟩
  rcases h.cells with h0 | ⟨b, off, ha, hc⟩
  · exact .inl h0
  · refine .inr ⟨b, off, ha, fun j hj => ?_⟩
    obtain ⟨h1, h2, h3⟩ := hc j hj
    have hl := World.block_lt_of_cell? w _ h1
    exact ⟨by rw [hb.cell (p := ⟨b, off + j * 3, none⟩) hl]; exact h1, by rw [hb.cell (p := ⟨b, off + j * 3 + 1, none⟩) hl]; exact h2, by rw [hb.cell (p := ⟨b, off + j * 3 + 2, none⟩) hl]; exact h3⟩
def AllGood (F : Nat → Nat × Nat × Bool) (n : Nat) : Prop := ∀ j, j < n → Good (F j).1 (F j).2.1 (F j).2.2
instance (F : Nat → Nat × Nat × Bool) (n : Nat) : Decidable (AllGood F n) := inferInstanceAs (Decidable (∀ j, j < n → Good (F j).1 (F j).2.1 (F j).2.2))

theorem side_any (d : Int) (lo hi : Nat) (bad : Bool) (w : World) :
    Calls Tryz.prog 100 #[.int .i64 d, .agg #[.float .f64 lo, .float .f64 hi, .bool bad]] w fun e w' => e = .returned (.float .f64 (if d = 2 then lo else hi)) ∧ Below w.heap.size w w' := by
  by_cases hd : d = 2
  · subst hd
    go_enter Tryz.func100, Tryz.ntmps100
    go_wp2
    go_ret
    exact ⟨rfl, (Below.refl _ w).alloc (Nat.le_refl _) _⟩
  · have hdd : (d == 2) = false := by simpa using hd
    rw [if_neg hd]
    go_enter Tryz.func100, Tryz.ntmps100
    go_wp2
    go_ret
    exact ⟨rfl, (Below.refl _ w).alloc (Nat.le_refl _) _⟩
theorem cells3 {W : World} {B : Nat} {v0 v1 v2 : Value} {t : TypeId} (h : W.heap[B]? = some (.cells #[v0, v1, v2] t)) :
    W.cell? ⟨B, 0, none⟩ = some v0 ∧ W.cell? ⟨B, 1, none⟩ = some v1 ∧ W.cell? ⟨B, 2, none⟩ = some v2 :=
  ⟨cell_of_row _ _ 0 _ _ _ h, cell_of_row _ _ 1 _ _ _ h, cell_of_row _ _ 2 _ _ _ h⟩
theorem res_sp (f : Func) (i : Nat) (hf : f.results = #[ResultVar.cell i 56]) (tmps : Array Value) (W : World) (B : Nat) (v0 v1 v2 : Value) (hp : tmps[i]? = some (.pointer (some ⟨B, 0, none⟩)))
    (h : W.heap[B]? = some (.cells #[v0, v1, v2] 56)) : (results f tmps).run Tryz.prog W = .ok (.agg #[v0, v1, v2]) W := by
  obtain ⟨h0, h1, h2⟩ := cells3 h
  simp [results, hf, go_sem, hp, h0, h1, h2]
theorem run_store_f : ∀ (W : World) (a : Addr) (x : Nat), (store a (.float .f64 x)).run Tryz.prog W = stored Tryz.prog W a (.float .f64 x) .plain := fun W a x => run_store Tryz.prog W a _ .plain rfl
theorem spBad_any (w : World) : Calls Tryz.prog 96 #[] w fun e w' => e = .returned (.agg #[.float .f64 0, .float .f64 0, .bool true]) ∧ Below w.heap.size w w' := by
  have hsf := run_store_f
  go_enter Tryz.func96, Tryz.ntmps96
  go_wp2
  refine bodyPost_ret (v := .agg #[.float .f64 0, .float .f64 0, .bool true]) (res_sp _ 0 (by kernel_rfl) _ _ w.heap.size _ _ _ ?_ (heap_alloc_new w _)) rfl ?_
  · rfl
  · exact ⟨rfl, (Below.refl _ w).alloc (Nat.le_refl _) _⟩
end Go.Proofs.YtfepcpkfbnpbjaaGreat


namespace Go.Proofs.YtfepcpkfbnpbjaaGreat
open Go.RowKit
set_option linter.unusedVariables false

theorem AllGood.succ {F : Nat → Nat × Nat × Bool} {k : Nat} (h : AllGood F k) (hg : Good (F k).1 (F k).2.1 (F k).2.2) : AllGood F (k + 1) := by
  intro j hj
  rcases Nat.lt_or_ge j k with h1 | h1
  · exact h j h1
  · obtain rfl : j = k := by omega
    exact hg
set_option maxRecDepth 100000 in
set_option maxHeartbeats 2000000 in
theorem good_any (ao : Option Addr) (len cap : Nat) (F : Nat → Nat × Nat × Bool) (w : World) (h : RdS w ao len cap F) :
    Calls Tryz.prog 95 #[.slice ao len cap] w fun e w' => e = .returned (.bool (decide (AllGood F len))) ∧ Below w.heap.size w w' := by
  have HY : Hid (RdS w ao len cap F) := h
  have hmx := h.max
  have hle := h.le
  unfold maxLen at hmx
  clear h
  have hsf := run_store_f
  go_enter Tryz.func95, Tryz.ntmps95
  go_wp2_with fail
  go_loopw [4, 7] (fun sv iv wr => ∃ k : Nat, k ≤ len ∧ iv = .int .i64 k ∧ Hid (AllGood F k) ∧ Hid (Below w.heap.size w wr)) (fun _ iv _ => len - (intOf iv).toNat)
  case atStart => exact ⟨0, by omega, rfl, fun j hj => absurd hj (by omega), Below.refl _ _⟩
  case round =>
    obtain ⟨k, hk, rfl, K1, K4⟩ := hrel
    by_cases hlt : k < len
    · have hd : decide ((k : Int) < (len : Int)) = true := decide_eq_true (by omega)
      have hr := HY.out.later K4.out
      rcases hr.cells with h0 | ⟨b, off, rfl, hc⟩
      · omega
      · obtain ⟨g0, g1, g2⟩ := hc k hlt
        obtain ⟨b0, b1⟩ := HY.out.lt k hlt
        have i0 : (0 : Int) ≤ (k : Int) := by omega
        have i1 : (k : Int) < (len : Int) := by omega
        have HG : Hid (Good (F k).1 (F k).2.1 (F k).2.2 ∨ ¬ Good (F k).1 (F k).2.1 (F k).2.2) := Decidable.em _
        have HK : Hid (∀ j, j = k → F j = F k) := fun j hj => by rw [hj]
        obtain ⟨lo, hlo⟩ : ∃ a, (F k).1 = a := ⟨_, rfl⟩
        obtain ⟨hi, hhi⟩ : ∃ a, (F k).2.1 = a := ⟨_, rfl⟩
        obtain ⟨bad, hbad⟩ : ∃ a, (F k).2.2 = a := ⟨_, rfl⟩
        rw [hlo] at g0 b0
        rw [hhi] at g1 b1
        rw [hbad] at g2
        have HEQ : Hid ((F k).1 = lo ∧ (F k).2.1 = hi ∧ (F k).2.2 = bad) := ⟨hlo, hhi, hbad⟩
        have HN : Hid (¬ Good lo hi bad → ¬ AllGood F len) := fun hn ha => by
          have := ha k hlt; rw [hlo, hhi, hbad] at this; exact hn this
        have HB : Hid (Below w.heap.size w (wr.alloc (.cells #[.float .f64 lo, .float .f64 hi, .bool bad] 56))) := K4.out.alloc K4.out.size _
        clear hr hc hlo hhi hbad
        have hret : ∀ (hn : ¬ Good lo hi bad), decide (AllGood F len) = false := fun hn => decide_eq_false (HN.out hn)
        by_cases hb : bad = true
        · subst hb
          have HZ : Hid (decide (AllGood F len) = false) := hret (fun h => by have := h.1; cases this)
          clear HN hret
          go_wp2_with fail
          go_ret
          exact ⟨by rw [HZ.out]; rfl, HB.out⟩
        · obtain rfl : bad = false := by simpa using hb
          by_cases f1 : Fin lo
          · have hf1 : decide (Fin lo) = true := decide_eq_true f1
            by_cases f2 : Fin hi
            · have hf2 : decide (Fin hi) = true := decide_eq_true f2
              by_cases hs : srung lo ≤ srung hi
              · have hgt : (FloatKind.f64.format.order lo hi == some .gt) = false := by
                  rw [f64_fmt, ord_gt (Nat.le_of_lt f1) (Nat.le_of_lt f2)]; exact decide_eq_false (by omega)
                have HGK : Hid (AllGood F (k + 1)) := K1.out.succ (by rw [HEQ.out.1, HEQ.out.2.1, HEQ.out.2.2]; exact ⟨rfl, f1, f2, hs⟩)
                clear HN hret hb f1 f2 hs
                go_wp2_with (first | (go_at_call_of 49 (Value.float FloatKind.f64 lo); refine (number_any lo b0 _).mono ?_; rintro e wr2 ⟨rfl, rfl⟩; rw [hf1]) | (go_at_call_of 49 (Value.float FloatKind.f64 hi); refine (number_any hi b1 _).mono ?_; rintro e wr2 ⟨rfl, rfl⟩; rw [hf2]))
                go_roundw
                case rel => exact ⟨k + 1, by omega, by go_num, HGK, HB⟩
                case measure => simp [intOf]; omega
              · have hgt : (FloatKind.f64.format.order lo hi == some .gt) = true := by
                  rw [f64_fmt, ord_gt (Nat.le_of_lt f1) (Nat.le_of_lt f2)]; exact decide_eq_true (by omega)
                have HZ : Hid (decide (AllGood F len) = false) := hret (fun h => hs h.2.2.2)
                clear HN hret hb f1 f2 hs
                go_wp2_with (first | (go_at_call_of 49 (Value.float FloatKind.f64 lo); refine (number_any lo b0 _).mono ?_; rintro e wr2 ⟨rfl, rfl⟩; rw [hf1]) | (go_at_call_of 49 (Value.float FloatKind.f64 hi); refine (number_any hi b1 _).mono ?_; rintro e wr2 ⟨rfl, rfl⟩; rw [hf2]))
                go_ret
                exact ⟨by rw [HZ.out]; rfl, HB.out⟩
            · have hf2 : decide (Fin hi) = false := decide_eq_false f2
              have HZ : Hid (decide (AllGood F len) = false) := hret (fun h => f2 h.2.2.1)
              clear HN hret hb f1 f2
              go_wp2_with (first | (go_at_call_of 49 (Value.float FloatKind.f64 lo); refine (number_any lo b0 _).mono ?_; rintro e wr2 ⟨rfl, rfl⟩; rw [hf1]) | (go_at_call_of 49 (Value.float FloatKind.f64 hi); refine (number_any hi b1 _).mono ?_; rintro e wr2 ⟨rfl, rfl⟩; rw [hf2]))
              go_ret
              exact ⟨by rw [HZ.out]; rfl, HB.out⟩
          · have hf1 : decide (Fin lo) = false := decide_eq_false f1
            have HZ : Hid (decide (AllGood F len) = false) := hret (fun h => f1 h.2.1)
            clear HN hret hb f1
            go_wp2_with (first | (go_at_call_of 49 (Value.float FloatKind.f64 lo); refine (number_any lo b0 _).mono ?_; rintro e wr2 ⟨rfl, rfl⟩; rw [hf1]))
            go_ret
            exact ⟨by rw [HZ.out]; rfl, HB.out⟩
    · have hd : decide ((k : Int) < (len : Int)) = false := decide_eq_false (by omega)
      obtain rfl : k = len := by omega
      have HZ : Hid (decide (AllGood F k) = true) := decide_eq_true K1.out
      go_wp2_with fail
      go_ret
      exact ⟨by rw [HZ.out]; rfl, K4.out⟩
end Go.Proofs.YtfepcpkfbnpbjaaGreat

namespace Go.Proofs.YtfepcpkfbnpbjaaGreat
open Go.RowKit
set_option linter.unusedVariables false

/-- What a function value tells at d, whatever new memory lies about. -/
def Tells (k : Nat) (caps : Array Value) (w : World) (d : Int) (p : Nat × Bool) : Prop := ∀ w', Below w.heap.size w w' → Calls Tryz.prog k (#[.int .i64 d] ++ caps) w' fun e w2 => e = .returned (.tuple #[.float .f64 p.1, .bool p.2]) ∧ Below w'.heap.size w' w2
theorem setsp_heap {w : World} {B : Nat} {t : TypeId} {a b c : Value} (x y z : Value) (h : w.heap[B]? = some (.cells #[a, b, c] t)) :
    (((w.setCell ⟨B, 0, none⟩ x).setCell ⟨B, 1, none⟩ y).setCell ⟨B, 2, none⟩ z).heap[B]? = some (.cells #[x, y, z] t) := by
  have h1 := heap_setCell_same w B 0 _ _ x h
  have h2 := heap_setCell_same _ B 1 _ _ y h1
  exact heap_setCell_same _ B 2 _ _ z h2
theorem below_setsp {w0 w : World} {base B : Nat} (x y z : Value) (h : Below base w0 w) (hB : base ≤ B) : Below base w0 (((w.setCell ⟨B, 0, none⟩ x).setCell ⟨B, 1, none⟩ y).setCell ⟨B, 2, none⟩ z) :=
  ((h.setCell (p := ⟨B, 0, none⟩) hB x).setCell (p := ⟨B, 1, none⟩) hB y).setCell (p := ⟨B, 2, none⟩) hB z
set_option maxRecDepth 100000 in
set_option maxHeartbeats 2000000 in
theorem spanOf_any (k : Nat) (caps : Array Value) (eg : ∀ args w, (callFunc k args).run Tryz.prog w = .ok (.enter k args) w) (w : World) (p q : Nat × Bool) (hp : Tells k caps w 2 p) (hq : Tells k caps w 1 q) :
    Calls Tryz.prog 97 #[.func (.func k) #[] caps] w fun e w' => e = .returned (.agg #[.float .f64 (spOf p q).1, .float .f64 (spOf p q).2.1, .bool (spOf p q).2.2]) ∧ Below w.heap.size w w' := by
  have HP : Hid (Tells k caps w 2 p) := hp
  have HQ : Hid (Tells k caps w 1 q) := hq
  clear hp hq
  have hsf := run_store_f
  have r0 : Hid _ := heap_alloc_new w (.cells #[.float .f64 0, .float .f64 0, .bool false] 56)
  have b0 : Hid (Below w.heap.size w (w.alloc (.cells #[.float .f64 0, .float .f64 0, .bool false] 56))) := (Below.refl _ w).alloc (Nat.le_refl _) _
  have z0 : Hid ((w.alloc (.cells #[.float .f64 0, .float .f64 0, .bool false] 56)).heap.size = w.heap.size + 1) := by unfold Hid; simp
  go_enter Tryz.func97, Tryz.ntmps97
  go_wp2_with fail
  refine (HP.out _ b0.out).mono ?_
  rintro e w1 ⟨rfl, b1⟩
  have r1 : Hid _ := (b1.block w.heap.size (by have := z0.out; omega)).trans r0.out
  have B1 : Hid (Below w.heap.size w w1) := b0.out.trans (b1.mono b0.out.size)
  have z1 : Hid (w.heap.size < w1.heap.size) := by have := b1.size; have := z0.out; unfold Hid; omega
  clear b1 r0 b0 z0
  go_wp2_with fail
  refine (HQ.out _ B1.out).mono ?_
  rintro e w2 ⟨rfl, b2⟩
  have r2 : Hid _ := (b2.block w.heap.size z1.out).trans r1.out
  have B2 : Hid (Below w.heap.size w w2) := B1.out.trans (b2.mono B1.out.size)
  have z2 : Hid (w.heap.size < w2.heap.size) := by have := b2.size; have := z1.out; unfold Hid; omega
  clear b2 r1 B1 z1 HP HQ eg
  by_cases hpq : p.2 = true ∧ q.2 = true
  · have hs : spOf p q = (p.1, q.1, false) := by unfold spOf; rw [if_pos hpq]
    have HS : Hid _ := hs
    obtain ⟨h1, h2⟩ := hpq
    rw [h1, h2]
    clear hs
    obtain ⟨c0, c1, c2⟩ := cells3 r2.out
    have fz := fun j => frozen_of_row _ _ j _ _ r2.out
    go_wp2_with fail
    refine bodyPost_ret (v := .agg #[.float .f64 p.1, .float .f64 q.1, .bool false]) (res_sp _ 2 (by kernel_rfl) _ _ w.heap.size _ _ _ ?_ (setsp_heap _ _ _ r2.out)) rfl ?_
    · rfl
    · exact ⟨by rw [HS.out], below_setsp _ _ _ B2.out (Nat.le_refl _)⟩
  · have hs : spOf p q = (0, 0, true) := by unfold spOf; rw [if_neg hpq]
    have HS : Hid _ := hs
    clear hs
    have step : ∀ (pb qb : Bool), ¬ (pb = true ∧ qb = true) → (pb = false ∨ (pb = true ∧ qb = false)) := by intro pb qb h; cases pb <;> cases qb <;> simp_all
    rcases step _ _ hpq with h1 | ⟨h1, h2⟩
    · rw [h1]
      clear step hpq
      go_wp2_with fail
      refine (spBad_any _).mono ?_
      rintro e w3 ⟨rfl, b3⟩
      have r3 : Hid _ := (b3.block w.heap.size z2.out).trans r2.out
      have B3 : Hid (Below w.heap.size w w3) := B2.out.trans (b3.mono B2.out.size)
      clear b3 r2 B2 z2
      obtain ⟨c0, c1, c2⟩ := cells3 r3.out
      have fz := fun j => frozen_of_row _ _ j _ _ r3.out
      go_wp2_with fail
      refine bodyPost_ret (v := .agg #[.float .f64 0, .float .f64 0, .bool true]) (res_sp _ 2 (by kernel_rfl) _ _ w.heap.size _ _ _ ?_ (setsp_heap _ _ _ r3.out)) rfl ?_
      · rfl
      · exact ⟨by rw [HS.out], below_setsp _ _ _ B3.out (Nat.le_refl _)⟩
    · rw [h1, h2]
      clear step hpq
      go_wp2_with fail
      refine (spBad_any _).mono ?_
      rintro e w3 ⟨rfl, b3⟩
      have r3 : Hid _ := (b3.block w.heap.size z2.out).trans r2.out
      have B3 : Hid (Below w.heap.size w w3) := B2.out.trans (b3.mono B2.out.size)
      clear b3 r2 B2 z2
      obtain ⟨c0, c1, c2⟩ := cells3 r3.out
      have fz := fun j => frozen_of_row _ _ j _ _ r3.out
      go_wp2_with fail
      refine bodyPost_ret (v := .agg #[.float .f64 0, .float .f64 0, .bool true]) (res_sp _ 2 (by kernel_rfl) _ _ w.heap.size _ _ _ ?_ (setsp_heap _ _ _ r3.out)) rfl ?_
      · rfl
      · exact ⟨by rw [HS.out], below_setsp _ _ _ B3.out (Nat.le_refl _)⟩
end Go.Proofs.YtfepcpkfbnpbjaaGreat

namespace Go.Proofs.YtfepcpkfbnpbjaaGreat
open Go.RowKit
set_option linter.unusedVariables false

set_option maxRecDepth 100000 in
set_option maxHeartbeats 400000 in
theorem make1_any (d : Int) (B lo hi x : Nat) (bad : Bool) (hx : (if d = 2 then lo else hi) = x) (w : World) (hB : w.heap[B]? = some (.cells #[.float .f64 lo, .float .f64 hi, .bool bad] 56)) (p : Nat × Bool)
    (hp : ∀ w, Calls Tryz.prog 99 #[.int .i64 0, .float .f64 x] w fun e w' => e = .returned (.tuple #[.float .f64 p.1, .bool p.2]) ∧ w' = w) :
    Calls Tryz.prog 98 #[.int .i64 d, .pointer (some ⟨B, 0, none⟩)] w fun e w' => e = .returned (.tuple #[.float .f64 p.1, .bool p.2]) ∧ Below w.heap.size w w' := by
  have HS : Hid (∀ w, Calls Tryz.prog 100 #[.int .i64 d, .agg #[.float .f64 lo, .float .f64 hi, .bool bad]] w fun e w' => e = .returned (.float .f64 x) ∧ Below w.heap.size w w') := by
    intro w; have := side_any d lo hi bad w; rw [hx] at this; exact this
  have HP : Hid _ := hp
  obtain ⟨c0, c1, c2⟩ := cells3 hB
  clear hB hp hx
  go_enter Tryz.func98, Tryz.ntmps98
  go_wp2_with fail
  refine Calls.mono (HS.out _) ?_
  rintro e w1 ⟨rfl, b1⟩
  have B1 : Hid (Below w.heap.size w w1) := b1
  clear b1 HS
  go_wp2_with fail
  refine Calls.mono (HP.out _) ?_
  rintro e w2 ⟨rfl, rfl⟩
  go_wp2_with fail
  go_ret2
  exact ⟨rfl, B1.out⟩
theorem rds_one {W : World} {g : Nat} {lo hi : Nat} {bad : Bool} {t : TypeId} (h : W.heap[g]? = some (.cells #[.float .f64 lo, .float .f64 hi, .bool bad] t)) (hlo : lo < 18446744073709551616) (hhi : hi < 18446744073709551616) : RdS W (some ⟨g, 0, none⟩) 1 1 (fun _ => (lo, hi, bad)) := by
  obtain ⟨c0, c1, c2⟩ := cells3 h
  refine ⟨by omega, by decide, fun _ _ => ⟨hlo, hhi⟩, .inr ⟨g, 0, rfl, fun j hj => ?_⟩⟩
  obtain rfl : j = 0 := by omega
  exact ⟨c0, c1, c2⟩
theorem all_one {lo hi : Nat} {bad : Bool} : decide (AllGood (fun _ => (lo, hi, bad)) 1) = decide (Good lo hi bad) := by
  congr 1; apply propext
  exact ⟨fun h => h 0 (by omega), fun h _ _ => h⟩
def two (a b : Nat × Nat × Bool) (j : Nat) : Nat × Nat × Bool := if j = 0 then a else b
theorem good1_any {W : World} {g : Nat} {lo hi : Nat} {bad : Bool} {t : TypeId} (h : W.heap[g]? = some (.cells #[.float .f64 lo, .float .f64 hi, .bool bad] t)) (hlo : lo < 18446744073709551616) (hhi : hi < 18446744073709551616) :
    Calls Tryz.prog 95 #[.slice (some ⟨g, 0, none⟩) 1 1] W fun e w' => e = .returned (.bool (decide (Good lo hi bad))) ∧ Below W.heap.size W w' := by
  have := good_any _ 1 1 _ W (rds_one h hlo hhi)
  rw [all_one] at this; exact this
theorem next_plain {x : Nat} (hx : x < 18446744073709551616) (hf : Fin x) (w : World) :
    Calls Tryz.prog 99 #[.int .i64 0, .float .f64 x] w fun e w' => e = .returned (.tuple #[.float .f64 (plainM x), .bool true]) ∧ w' = w := by
  obtain ⟨p, h1, -, c⟩ := next_any 0 x hx
  have h := h1 hf
  rw [show sideOf 0 = 0 from rfl, Int.add_zero] at h
  have := canon_rnd (D := 64) hx hf (by decide) (.inl rfl) h
  subst this
  exact c w
def spV (r : Nat × Nat × Bool) : Value := .agg #[.float .f64 r.1, .float .f64 r.2.1, .bool r.2.2]
def makeS (lo hi : Nat) : Nat × Nat × Bool := if Good lo hi false then (plainM lo, plainM hi, false) else (0, 0, true)
set_option maxRecDepth 100000 in
set_option maxHeartbeats 2000000 in
theorem make_any (lo hi : Nat) (hlo : lo < 18446744073709551616) (hhi : hi < 18446744073709551616) (w : World) :
    Calls Tryz.prog 69 #[.float .f64 lo, .float .f64 hi] w fun e w' => e = .returned (.agg #[.float .f64 (makeS lo hi).1, .float .f64 (makeS lo hi).2.1, .bool (makeS lo hi).2.2]) ∧ Below w.heap.size w w' := by
  have hsf := run_store_f
  obtain ⟨g0, g1, g2, gz, gb⟩ := alloc3_facts w (Obj.cells #[Value.float FloatKind.f64 0, Value.float FloatKind.f64 0, Value.bool false] 56) (Obj.cells #[Value.float FloatKind.f64 lo, Value.float FloatKind.f64 hi, Value.bool false] 56) (Obj.cells #[Value.float FloatKind.f64 lo, Value.float FloatKind.f64 hi, Value.bool false] 56)
  have G0 : Hid _ := g0
  have G1 : Hid _ := g1
  have G2 : Hid _ := g2
  have GZ : Hid _ := gz
  have GB : Hid _ := gb
  clear g0 g1 g2 gz gb
  go_enter Tryz.func69, Tryz.ntmps69
  go_wp2_with fail
  generalize (((w.alloc (Obj.cells #[Value.float FloatKind.f64 0, Value.float FloatKind.f64 0, Value.bool false] 56)).alloc (Obj.cells #[Value.float FloatKind.f64 lo, Value.float FloatKind.f64 hi, Value.bool false] 56)).alloc (Obj.cells #[Value.float FloatKind.f64 lo, Value.float FloatKind.f64 hi, Value.bool false] 56)) = W at G0 G1 G2 GZ GB ⊢
  refine (good1_any G2.out hlo hhi).mono ?_
  rintro e w1 ⟨rfl, b1⟩
  have R0 : Hid _ := (b1.block w.heap.size (by have := GZ.out; omega)).trans G0.out
  have R1 : Hid _ := (b1.block (w.heap.size + 1) (by have := GZ.out; omega)).trans G1.out
  have B1 : Hid (Below w.heap.size w w1) := GB.out.trans (b1.mono GB.out.size)
  have Z1 : Hid (w.heap.size + 1 < w1.heap.size) := by have := b1.size; have := GZ.out; unfold Hid; omega
  clear b1 G0 G1 G2 GZ GB
  by_cases hg : Good lo hi false
  · have HM : Hid (makeS lo hi = (plainM lo, plainM hi, false)) := by unfold Hid makeS; rw [if_pos hg]
    rw [decide_eq_true hg]
    have T2 : Hid (Tells 98 #[.pointer (some ⟨w.heap.size + 1, 0, none⟩)] w1 2 (plainM lo, true)) := fun w' hb => make1_any 2 _ lo hi lo false rfl w' ((hb.block _ Z1.out).trans R1.out) _ (next_plain hlo hg.2.1)
    have T1 : Hid (Tells 98 #[.pointer (some ⟨w.heap.size + 1, 0, none⟩)] w1 1 (plainM hi, true)) := fun w' hb => make1_any 1 _ lo hi hi false rfl w' ((hb.block _ Z1.out).trans R1.out) _ (next_plain hhi hg.2.2.1)
    clear hg
    go_wp2_with fail
    refine (spanOf_any 98 _ (enters_of Tryz.func98 (by kernel_rfl) rfl) _ (plainM lo, true) (plainM hi, true) T2.out T1.out).mono ?_
    rintro e w2 ⟨rfl, b2⟩
    rw [show spOf (plainM lo, true) (plainM hi, true) = (plainM lo, plainM hi, false) from rfl]
    have r2 := (b2.block w.heap.size (by have := Z1.out; omega)).trans R0.out
    have B2 : Hid (Below w.heap.size w w2) := B1.out.trans (b2.mono B1.out.size)
    have R2 : Hid _ := r2
    obtain ⟨c0, c1, c2⟩ := cells3 r2
    have fz := fun j => frozen_of_row _ _ j _ _ r2
    clear b2 R0 R1 B1 Z1 T1 T2 r2
    go_wp2_with fail
    refine bodyPost_ret (v := .agg #[.float .f64 (plainM lo), .float .f64 (plainM hi), .bool false]) (res_sp _ 4 (by kernel_rfl) _ _ w.heap.size _ _ _ ?_ (setsp_heap _ _ _ R2.out)) rfl ?_
    · rfl
    · exact ⟨by rw [HM.out], below_setsp _ _ _ B2.out (Nat.le_refl _)⟩
  · have HM : Hid (makeS lo hi = (0, 0, true)) := by unfold Hid makeS; rw [if_neg hg]
    rw [decide_eq_false hg]
    go_wp2_with fail
    refine (spBad_any _).mono ?_
    rintro e w2 ⟨rfl, b2⟩
    have r2 := (b2.block w.heap.size (by have := Z1.out; omega)).trans R0.out
    have B2 : Hid (Below w.heap.size w w2) := B1.out.trans (b2.mono B1.out.size)
    have R2 : Hid _ := r2
    obtain ⟨c0, c1, c2⟩ := cells3 r2
    have fz := fun j => frozen_of_row _ _ j _ _ r2
    clear b2 R0 R1 B1 Z1 r2
    go_wp2_with fail
    refine bodyPost_ret (v := .agg #[.float .f64 0, .float .f64 0, .bool true]) (res_sp _ 4 (by kernel_rfl) _ _ w.heap.size _ _ _ ?_ (setsp_heap _ _ _ R2.out)) rfl ?_
    · rfl
    · exact ⟨by rw [HM.out], below_setsp _ _ _ B2.out (Nat.le_refl _)⟩
end Go.Proofs.YtfepcpkfbnpbjaaGreat

