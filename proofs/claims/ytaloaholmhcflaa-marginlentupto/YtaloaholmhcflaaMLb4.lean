import Derived.Test.YtaloaholmhcflaaMLb3
import Ieee.Arith
import Derived.Test.YtaloaholmhcflaaChecked
import Derived.WalkKit
import Derived.WalkSmall
import Derived.WalkLawsBesides
import Derived.Lib.EndianBits
import Derived.Laws.Bits128
import Derived.Laws.BitsAll
import Derived.BigQuiet
import Derived.RangeFuncNested
import Derived.RangeFuncBound
import Derived.RangeFuncCalls
import Derived.RangeFuncLeaves
import Derived.RangeFuncFrom
import Derived.RangeFuncWrites
import Derived.Shelf.Abstract
import Derived.Shelf.RegionOpen
import Derived.OwnWalkIn
import Derived.TacticsInMore
import Derived.LoopNIn
import Derived.LoopIn
import Derived.Deep.WholeRow
import Derived.Deep.MidRow
import Derived.Laws.CopyOwn
import Derived.Deep.RegionHeld3
import Derived.Deep.QuietTactic
import Derived.Deep.RegionWith
import Derived.Deep.DeepCutAuto
import Derived.Laws.Externs
import Derived.Deep.DeepMust
import Derived.Laws.MakeOwn
import Derived.Laws.OwnMore
import Derived.ArgAppend
import Derived.OwnWalk
import Derived.Orders
import Derived.RegionTactic
import Derived.Below
import Derived.Deep.CutRange
import Derived.Laws.AppendOwnNone
import Derived.Test.YtaloaholmhcflaaRows
import Derived.Deep.Slices
import Derived.OpenShut
import Derived.Lib.SmallJoins
import Derived.ChangeSame
namespace Go.Proofs.Ytaloaholmhcflaa
open Go.RowKit Go.Shelf
set_option linter.unusedVariables false
set_option linter.unusedSimpArgs false
theorem Try.infoIM : (Try.prog.info? 3).map (fun i => (i.zero, i.size, i.bytes)) = some (some (.int .i64 0), 1, 8) := by kernel_rfl
theorem Try.szIM : (Try.prog.info? 3).map (·.size) = some 1 := by kernel_rfl
/-- The cells of a row of ints. -/
def inC (is : List Int) : Array Value := (is.map fun x => Value.int .i64 x).toArray
theorem inC_size (is : List Int) : (inC is).size = is.length := by unfold inC; simp
theorem inC_at (is : List Int) (j : Nat) (h : j < is.length) : (inC is)[j]? = some (.int .i64 (is[j]?.getD 0)) := by
  unfold inC
  rw [List.getElem?_toArray, List.getElem?_map, List.getElem?_eq_getElem h]
  rfl
theorem inC_set (is : List Int) (j : Nat) (x : Int) (h : j < is.length) : ((inC is).toList.take j ++ (Value.int .i64 x).cells.toList ++ (inC is).toList.drop (j + 1)).toArray = inC (is.set j x) := by
  have hc : (Value.int .i64 x).cells.toList = [.int .i64 x] := rfl
  rw [hc]
  unfold inC
  congr 1
  show (List.map _ is).take j ++ [_] ++ (List.map _ is).drop (j + 1) = _
  rw [List.map_set, List.set_eq_take_append_cons_drop, if_pos (by rw [List.length_map]; exact h), List.append_assoc]
  rfl
theorem inC_zero (n : Nat) : madeCells #[.int .i64 0] n = inC (List.replicate n 0) := by
  apply Array.ext_getElem?
  intro j
  by_cases h : j < n
  · rw [inC_at _ j (by simpa using h)]
    unfold madeCells
    simp [h, Nat.mod_one]
  · rw [Array.getElem?_eq_none (by unfold madeCells; simp; omega), Array.getElem?_eq_none (by rw [inC_size]; simp; omega)]
theorem inC_rd {W : World} {B : Nat} {is : List Int} (h : W.heap[B]? = some (.cells (inC is) 3)) (hm : is.length ≤ maxLen) : RdIs W (some ⟨B, 0, none⟩) is.length is.length is :=
  ⟨rfl, hm, .inr ⟨B, 0, rfl, fun j hj => by rw [Nat.zero_add]; exact cellAtJ h j _ (inC_at is j hj)⟩⟩
theorem makeIM (n : Nat) (hn : n ≤ 4000000) (w : World) :
    (Instr.makeSlice 23 (.int .i64 (n : Int)) (.int .i64 (n : Int))).run Try.prog w = .ok (.slice (some ⟨w.heap.size, 0, none⟩) n n) (w.alloc (.cells (inC (List.replicate n 0)) 3)) := by
  obtain ⟨i0, hi, hz0, hz1, hz2⟩ := info3J Try.infoIM
  have h := run_makeSlice (P := Try.prog) w 23 3 i0 (.int .i64 0) Try.underlying23 hi hz0 .i64 .i64 (n : Int) (n : Int) (by omega) (by omega) (by rw [hz1, Int.toNat_natCast]; omega) (by rw [hz2]; omega) (by omega)
  rw [Int.toNat_natCast, hz1, Nat.mul_one] at h
  rw [← inC_zero]
  exact h
theorem one_inM (x : Int) : ∀ u ∈ (Value.int .i64 x).cells.toList, u.oneCell' = true := by
  intro u hu
  have : u = .int .i64 x := by simpa [Value.cells] using hu
  rw [this]; rfl
theorem sgi_bound (x : Int) : -1 ≤ sgi x ∧ sgi x ≤ 1 := by
  unfold sgi; split
  · omega
  · split <;> omega
theorem signO_bound (o : Option Int) : -1 ≤ signO o ∧ signO o ≤ 1 := by
  cases o with
  | none => exact ⟨by decide, by decide⟩
  | some z => exact sgi_bound z
set_option maxRecDepth 100000 in
set_option maxHeartbeats 1000000 in
theorem sameIntsM_any (ao bo : Option Addr) (n m c d : Nat) (is js : List Int) (w : World) (h : RdIs w ao n c is) (k : RdIs w bo m d js) :
    Calls Try.prog 11 #[.slice ao n c, .slice bo m d] w fun e w' => e = .returned (.bool (decide (is = js))) ∧ Below w.heap.size w w' := by
  have HR : Hid (∀ W', Below w.heap.size w W' → RdIs W' ao n c is ∧ RdIs W' bo m d js) := fun W' hb => ⟨h.later hb, k.later hb⟩
  have hm1 := Nat.le_trans h.max maxLen_le
  have hm2 := Nat.le_trans k.max maxLen_le
  have HL : Hid (is.length = n ∧ js.length = m) := ⟨h.length, k.length⟩
  clear h k
  by_cases hn : n = m
  · subst hn
    have hb : ((n : Int) != (n : Int)) = false := by simp
    go_enter Try.func11, Try.ntmps11
    go_wp2_with fail
    go_loopg [5] n (fun g iv wx => ∃ k : Nat, iv = .int .i64 k ∧ k + g = n ∧ Hid (Below w.heap.size w wx) ∧ Hid (is.take k = js.take k))
    case atStart => exact ⟨0, rfl, by omega, Below.refl _ _, rfl⟩
    case round =>
      obtain ⟨k, rfl, hk, HB, HI⟩ := hrel
      by_cases h1 : k < n
      · have hd1 : decide ((k : Int) < (n : Int)) = true := decide_eq_true (by omega)
        obtain ⟨q, rfl⟩ : ∃ q, gk = q + 1 := ⟨gk - 1, by omega⟩
        have HIG : Hid (k + (q + 1) = n) := hk
        have h1' : (k : Int) < (n : Int) := by omega
        clear hk
        obtain ⟨r1, r2⟩ := HR.out wr HB.out
        rcases r1.cells with h0 | ⟨ab, aoff, rfl, hca⟩
        · omega
        rcases r2.cells with h0 | ⟨bb, boff, rfl, hcb⟩
        · omega
        have ga := hca k h1
        have gb := hcb k h1
        have HK1 : Hid (is.take (k + 1) = is.take k ++ [is[k]?.getD 0] ∧ js.take (k + 1) = js.take k ++ [js[k]?.getD 0] ∧ (is[k]?.getD 0 ≠ js[k]?.getD 0 → is ≠ js)) := by
          have e1 : k < is.length := by rw [HL.out.1]; exact h1
          have e2 : k < js.length := by rw [HL.out.2]; exact h1
          refine ⟨by rw [List.take_succ_eq_append_getElem e1, List.getElem?_eq_getElem e1]; rfl, by rw [List.take_succ_eq_append_getElem e2, List.getElem?_eq_getElem e2]; rfl, fun hne e => hne (by rw [e])⟩
        obtain ⟨x, hx⟩ : ∃ x, is[k]?.getD 0 = x := ⟨_, rfl⟩
        obtain ⟨y, hy⟩ : ∃ y, js[k]?.getD 0 = y := ⟨_, rfl⟩
        rw [hx] at ga HK1
        rw [hy] at gb HK1
        clear hca hcb hx hy r1 r2
        go_upto_region 6 with fail
        have hS : (fun V => V.cell? ⟨ab, aoff + k, none⟩ = some (.int .i64 x) ∧ V.cell? ⟨bb, boff + k, none⟩ = some (.int .i64 y)) wr.drew := ⟨ga, gb⟩
        refine wp_region_noPanic ?_
        refine wp_region_held_drew (S := (fun V => V.cell? ⟨ab, aoff + k, none⟩ = some (.int .i64 x) ∧ V.cell? ⟨bb, boff + k, none⟩ = some (.int .i64 y))) (by kernel_rfl) hS (fun _ => ?_)
        refine takeH 17 (i := 0) (v := ?_) rfl rfl (by kernel_rfl) (by kernel_rfl) (by kernel_rfl) (fun _ _ _ h => h) (Or.inl ⟨by kernel_rfl, ?_⟩) hS ?_
        rotate_left
        · intro w' hSw; obtain ⟨s0, s1⟩ := hSw; go_simp; try with_reducible rfl
        try simp only [Act.put, List.setIfInBounds_toArray, List.set_cons_zero, List.set_cons_succ]
        refine takeH 18 (i := 1) (v := ?_) rfl rfl (by kernel_rfl) (by kernel_rfl) (by kernel_rfl) (fun _ _ _ h => h) (Or.inl ⟨by kernel_rfl, ?_⟩) hS ?_
        rotate_left
        · intro w' hSw; obtain ⟨s0, s1⟩ := hSw; go_simp; try with_reducible rfl
        try simp only [Act.put, List.setIfInBounds_toArray, List.set_cons_zero, List.set_cons_succ]
        refine takeH 19 (i := 2) (v := ?_) rfl rfl (by kernel_rfl) (by kernel_rfl) (by kernel_rfl) (fun _ _ _ h => h) (Or.inl ⟨by kernel_rfl, ?_⟩) hS ?_
        rotate_left
        · intro w' hSw; obtain ⟨s0, s1⟩ := hSw; go_simp; try with_reducible rfl
        try simp only [Act.put, List.setIfInBounds_toArray, List.set_cons_zero, List.set_cons_succ]
        refine takeH 20 (i := 3) (v := ?_) rfl rfl (by kernel_rfl) (by kernel_rfl) (by kernel_rfl) (fun _ _ _ h => h) (Or.inl ⟨by kernel_rfl, ?_⟩) hS ?_
        rotate_left
        · intro w' hSw; obtain ⟨s0, s1⟩ := hSw; go_simp; try with_reducible rfl
        try simp only [Act.put, List.setIfInBounds_toArray, List.set_cons_zero, List.set_cons_succ]
        refine takeH 21 (i := 4) (v := ?_) rfl rfl (by kernel_rfl) (by kernel_rfl) (by kernel_rfl) (fun _ _ _ h => h) (Or.inl ⟨by kernel_rfl, ?_⟩) hS ?_
        rotate_left
        · intro w' hSw; obtain ⟨s0, s1⟩ := hSw; go_simp; try with_reducible rfl
        try simp only [Act.put, List.setIfInBounds_toArray, List.set_cons_zero, List.set_cons_succ]
        refine takeH 22 (i := 5) (v := ?_) rfl rfl (by kernel_rfl) (by kernel_rfl) (by kernel_rfl) (fun _ _ _ h => h) (Or.inl ⟨by kernel_rfl, ?_⟩) hS ?_
        rotate_left
        · intro w' hSw; obtain ⟨s0, s1⟩ := hSw; go_simp; try with_reducible rfl
        try simp only [Act.put, List.setIfInBounds_toArray, List.set_cons_zero, List.set_cons_succ]
        refine takeH 23 (i := 6) (v := ?_) rfl rfl (by kernel_rfl) (by kernel_rfl) (by kernel_rfl) (fun _ _ _ h => h) (Or.inl ⟨by kernel_rfl, ?_⟩) hS ?_
        rotate_left
        · intro w' hSw; obtain ⟨s0, s1⟩ := hSw; go_simp; try with_reducible rfl
        try simp only [Act.put, List.setIfInBounds_toArray, List.set_cons_zero, List.set_cons_succ]
        refine takeH 24 (i := 7) (v := ?_) rfl rfl (by kernel_rfl) (by kernel_rfl) (by kernel_rfl) (fun _ _ _ h => h) (Or.inl ⟨by kernel_rfl, ?_⟩) hS ?_
        rotate_left
        · intro w' hSw; obtain ⟨s0, s1⟩ := hSw; go_simp; try with_reducible rfl
        try simp only [Act.put, List.setIfInBounds_toArray, List.set_cons_zero, List.set_cons_succ]
        refine takeH 25 (i := 8) (v := ?_) rfl rfl (by kernel_rfl) (by kernel_rfl) (by kernel_rfl) (fun _ _ _ h => h) (Or.inl ⟨by kernel_rfl, ?_⟩) hS ?_
        rotate_left
        · intro w' hSw; obtain ⟨s0, s1⟩ := hSw; go_simp; try with_reducible rfl
        try simp only [Act.put, List.setIfInBounds_toArray, List.set_cons_zero, List.set_cons_succ]
        refine wpAnyH_done (by kernel_rfl) ?_ _
        refine NoPanic.normal ?_
        try simp only [Act.put, List.setIfInBounds_toArray, List.set_cons_zero, List.set_cons_succ]
        have HB2 : Hid (Below w.heap.size w wr.drew) := HB.out.drew
        by_cases hxy : x = y
        · have hd2 : (x != y) = false := by simp [hxy]
          have hd3 : (x == y) = true := by simp [hxy]
          have HI2 : Hid (is.take (k + 1) = js.take (k + 1)) := by unfold Hid; rw [HK1.out.1, HK1.out.2.1, HI.out, hxy]
          subst hxy
          clear hS ga gb
          go_wp2_with fail
          go_roundg q
          case measure => omega
          case rel => exact ⟨k + 1, by go_num, by have := HIG.out; omega, HB2, HI2⟩
        · have hd2 : (x != y) = true := by simpa using hxy
          have hd3 : (x == y) = false := by simpa using hxy
          have HN : Hid (decide (is = js) = false) := decide_eq_false (HK1.out.2.2 hxy)
          clear hS ga gb hxy
          go_wp2_with fail
          go_ret
          exact ⟨by rw [HN.out]; rfl, HB2.out⟩
      · have hd1 : decide ((k : Int) < (n : Int)) = false := decide_eq_false (by omega)
        have hd2 : decide (k < n) = false := decide_eq_false (by omega)
        have HN : Hid (decide (is = js) = true) := by
          have h9 := HI.out
          rw [List.take_of_length_le (by rw [HL.out.1]; omega), List.take_of_length_le (by rw [HL.out.2]; omega)] at h9
          exact decide_eq_true h9
        go_wp2_with fail
        go_ret
        exact ⟨by rw [HN.out]; rfl, HB.out⟩
  · have hb : ((n : Int) != (m : Int)) = true := by simp; omega
    have hb2 : ((n : Int) == (m : Int)) = false := by simp; omega
    have HN : Hid (decide (is = js) = false) := decide_eq_false (fun e => hn (by rw [← HL.out.1, ← HL.out.2, e]))
    clear hn
    go_enter Try.func11, Try.ntmps11
    go_wp2_with fail
    go_ret
    exact ⟨by rw [HN.out]; rfl, Below.refl _ _⟩
/-- The signs, column by column. -/
def siL (z : ZD) (us : List Nat) (k : Nat) : Nat → List Int
  | 0 => List.replicate k 0
  | c + 1 => if z.ids[c]?.getD 0 < (k : Int) then (siL z us k c).set (z.ids[c]?.getD 0).toNat (-(signO (wgK us (z.gs[c]?.getD []) z.rn))) else siL z us k c
theorem siL_len (z : ZD) (us : List Nat) (k : Nat) : ∀ c, (siL z us k c).length = k
  | 0 => by simp [siL]
  | c + 1 => by
    unfold siL
    split
    · rw [List.length_set]; exact siL_len z us k c
    · exact siL_len z us k c
/-- What Signs tells. -/
def sgL (z : ZD) (us : List Nat) (k : Nat) : List Int := if clB z us then siL z us k z.dn else List.replicate k 0
theorem sgL_len (z : ZD) (us : List Nat) (k : Nat) : (sgL z us k).length = k := by
  unfold sgL
  split
  · exact siL_len z us k _
  · simp
def SgR (z : ZD) (us : List Nat) (k : Int) (base : Nat) (W : World) (o : Option Addr) (n : Nat) : Prop := if 0 ≤ k ∧ k ≤ 256 then n = k.toNat ∧ ∃ B, o = some ⟨B, 0, none⟩ ∧ base ≤ B ∧ W.heap[B]? = some (.cells (inC (sgL z us k.toNat)) 3) else o = none ∧ n = 0
theorem SgR.rd {z : ZD} {us : List Nat} {k : Int} {base : Nat} {W : World} {o : Option Addr} {n : Nat} (h : SgR z us k base W o n) : RdIs W o n n (if 0 ≤ k ∧ k ≤ 256 then sgL z us k.toNat else []) := by
  unfold SgR at h
  split at h
  · rename_i hk
    obtain ⟨rfl, B, rfl, hB, hc⟩ := h
    rw [if_pos hk]
    have h9 := inC_rd hc (by rw [sgL_len]; simp only [maxLen]; omega)
    rw [sgL_len] at h9
    exact h9
  · rename_i hk
    obtain ⟨rfl, rfl⟩ := h
    rw [if_neg hk]
    exact ⟨rfl, by decide, .inl rfl⟩
set_option maxRecDepth 100000 in
set_option maxHeartbeats 4000000 in
theorem signs_any (z : ZD) (ao : Option Addr) (l c : Nat) (us : List Nat) (k : Int) (w : World) (hz : ZR w z) (hdn : z.dn ≤ 1050000) (ha : RdF w ao l c us) (hid : wholeB z = true → ∀ j, j < z.dn → 0 ≤ z.ids[j]?.getD 0) :
    Calls Try.prog 10 #[.agg #[.int .i64 z.N, .slice z.co z.cn z.cc, .slice z.io z.dn z.dc, .slice z.go z.gn z.gc, .slice z.ro z.rn z.rc, .bool z.bad], .slice ao l c, .int .i64 k] w fun e w' => (∃ (o : Option Addr) (n : Nat), e = .returned (.slice o n n) ∧ SgR z us k w.heap.size w' o n) ∧ Below w.heap.size w w' := by
  obtain ⟨N, co, cn, cc, io, dn, dc, go, gn, gc, ro, rn, rc, bad, cs, ids, gv, gs, rs⟩ := z
  dsimp only at hdn hid ⊢
  have HZ : Hid (∀ W', Below w.heap.size w W' → ZR W' ⟨N, co, cn, cc, io, dn, dc, go, gn, gc, ro, rn, rc, bad, cs, ids, gv, gs, rs⟩) := fun W' hb => hz.later hb
  have HA : Hid (∀ W', Below w.heap.size w W' → RdF W' ao l c us) := fun W' hb => ha.later hb
  have HD : Hid (dn ≤ 1050000) := hdn
  have HLN : Hid (us.length = l ∧ ids.length = dn) := ⟨ha.length, hz.i.length⟩
  have HID : Hid (wholeB ⟨N, co, cn, cc, io, dn, dc, go, gn, gc, ro, rn, rc, bad, cs, ids, gv, gs, rs⟩ = true → ∀ j, j < dn → 0 ≤ ids[j]?.getD 0) := hid
  have X0 : Below w.heap.size w (w.alloc (.cells #[.int .i64 N, .slice co cn cc, .slice io dn dc, .slice go gn gc, .slice ro rn rc, .bool bad] 26)) := (Below.refl _ w).alloc (Nat.le_refl _) _
  have Y0 : (w.alloc (.cells #[.int .i64 N, .slice co cn cc, .slice io dn dc, .slice go gn gc, .slice ro rn rc, .bool bad] 26)).heap[w.heap.size]? = _ := heap_alloc_new w _
  clear hz ha hdn hid
  by_cases hk : 0 ≤ k ∧ k ≤ 256
  · obtain ⟨n, rfl⟩ : ∃ n : Nat, k = n := ⟨k.toNat, by omega⟩
    have hn : n ≤ 256 := by omega
    have HSR : Hid (∀ (W : World) (B : Nat), w.heap.size < B → W.heap[B]? = some (.cells (inC (sgL ⟨N, co, cn, cc, io, dn, dc, go, gn, gc, ro, rn, rc, bad, cs, ids, gv, gs, rs⟩ us n)) 3) → SgR ⟨N, co, cn, cc, io, dn, dc, go, gn, gc, ro, rn, rc, bad, cs, ids, gv, gs, rs⟩ us (n : Int) w.heap.size W (some ⟨B, 0, none⟩) n) := by
      intro W B h1 h2
      unfold SgR
      rw [if_pos hk, Int.toNat_natCast]
      exact ⟨rfl, B, rfl, by omega, h2⟩
    have hk1 : decide ((n : Int) < 0) = false := decide_eq_false (by omega)
    have hk2 : decide ((n : Int) > 256) = false := decide_eq_false (by omega)
    have hmk := makeIM n (by omega)
    clear hk
    go_enter Try.func10, Try.ntmps10
    go_upto_region 3 with fail
    obtain ⟨X, hX⟩ : ∃ X, (w.alloc (.cells #[.int .i64 N, .slice co cn cc, .slice io dn dc, .slice go gn gc, .slice ro rn rc, .bool bad] 26)) = X := ⟨_, rfl⟩
    rw [hX] at X0 Y0 ⊢
    clear hX
    go_upto_region 4 with fail
    obtain ⟨B, hB⟩ : ∃ B, X.heap.size = B := ⟨_, rfl⟩
    obtain ⟨X1, hX1⟩ : ∃ X1, (X.alloc (.cells (inC (List.replicate n 0)) 3)) = X1 := ⟨_, rfl⟩
    have P1 : Hid (Below w.heap.size w X1 ∧ X1.heap[w.heap.size]? = some (.cells #[.int .i64 N, .slice co cn cc, .slice io dn dc, .slice go gn gc, .slice ro rn rc, .bool bad] 26) ∧ X1.heap[B]? = some (.cells (inC (List.replicate n 0)) 3) ∧ w.heap.size < B) := by
      rw [← hX1, ← hB]
      exact ⟨X0.alloc X0.size _, alloc_kept Y0 _, heap_alloc_new X _, blk_lt Y0⟩
    rw [hX1, hB]
    clear hX1 hB X0 Y0 hk1 hk2 hmk
    obtain ⟨cb, hcb⟩ : ∃ cb, clB ⟨N, co, cn, cc, io, dn, dc, go, gn, gc, ro, rn, rc, bad, cs, ids, gv, gs, rs⟩ us = cb := ⟨_, rfl⟩
    have HC : Hid (∀ W, Below w.heap.size w W → Calls Try.prog 24 #[.agg #[.int .i64 N, .slice co cn cc, .slice io dn dc, .slice go gn gc, .slice ro rn rc, .bool bad], .slice ao l c] W fun e w' => e = .returned (.bool cb) ∧ Below W.heap.size W w') := fun W hb => hcb ▸ isClaim_any ⟨N, co, cn, cc, io, dn, dc, go, gn, gc, ro, rn, rc, bad, cs, ids, gv, gs, rs⟩ ao l c us W (HZ.out W hb) (HA.out W hb)
    go_wp2_with (first | (refine wpList_load_row (by rfl) 26 _ (by rfl) w.heap.size _ (by rfl) P1.out.2.1 _ Try.underlying26 rfl 6 Try.infoZ (by rfl) ?_))
    refine Calls.mono (HC.out _ P1.out.1) ?_
    rintro e w1 ⟨rfl, b1⟩
    have P2 : Hid (Below w.heap.size w w1 ∧ w1.heap[w.heap.size]? = some (.cells #[.int .i64 N, .slice co cn cc, .slice io dn dc, .slice go gn gc, .slice ro rn rc, .bool bad] 26) ∧ w1.heap[B]? = some (.cells (inC (List.replicate n 0)) 3) ∧ w.heap.size < B) := ⟨to_call P1.out.1 b1, kept b1 P1.out.2.1, kept b1 P1.out.2.2.1, P1.out.2.2.2⟩
    clear b1 P1
    cases cb with
    | false =>
      go_wp2_with fail
      go_ret
      refine ⟨⟨_, n, rfl, HSR.out _ B P2.out.2.2.2 ?_⟩, P2.out.1⟩
      unfold sgL
      rw [hcb]
      exact P2.out.2.2.1
    | true =>
      obtain ⟨h1, h2, h3, h4⟩ := clB_is hcb
      have hW : WhF ⟨N, co, cn, cc, io, dn, dc, go, gn, gc, ro, rn, rc, bad, cs, ids, gv, gs, rs⟩ := WhF.of (HZ.out w (Below.refl _ _)) HD.out h2
      have HW : Hid (WhF ⟨N, co, cn, cc, io, dn, dc, go, gn, gc, ro, rn, rc, bad, cs, ids, gv, gs, rs⟩ ∧ l = rn + 1 ∧ (∀ u ∈ us, Fin u) ∧ ∀ j, j < dn → 0 ≤ ids[j]?.getD 0) := ⟨hW, by have := HLN.out.1; have h9 := hW.N; dsimp only at h9 h3; omega, h4, HID.out h2⟩
      have HCB : Hid (clB ⟨N, co, cn, cc, io, dn, dc, go, gn, gc, ro, rn, rc, bad, cs, ids, gv, gs, rs⟩ us = true) := hcb
      have hdm : dn ≤ 1050000 := HD.out
      have hdg : dn = gn := hW.dg
      clear h1 h2 h3 h4 hW hcb HID
      obtain ⟨c0, c1, c2, c3, c4, c5⟩ := cells6 P2.out.2.1
      have HDG : Hid (dn = gn) := hdg
      clear hdg
      go_wp2_with fail
      clear c0 c1 c2 c3 c4 c5
      go_loopg [26] dn (fun g iv wx => ∃ i : Nat, iv = .int .i64 i ∧ i + g = dn ∧ Hid (Below w.heap.size w wx ∧ wx.heap[w.heap.size]? = some (.cells #[.int .i64 N, .slice co cn cc, .slice io dn dc, .slice go gn gc, .slice ro rn rc, .bool bad] 26) ∧ wx.heap[B]? = some (.cells (inC (siL ⟨N, co, cn, cc, io, dn, dc, go, gn, gc, ro, rn, rc, bad, cs, ids, gv, gs, rs⟩ us n i)) 3) ∧ w.heap.size < B))
      case atStart => exact ⟨0, rfl, by omega, P2⟩
      case round =>
        clear P2
        obtain ⟨i, rfl, hi, P2⟩ := hrel
        by_cases hlt : i < dn
        · have hd : decide ((i : Int) < (dn : Int)) = true := decide_eq_true (by omega)
          obtain ⟨q, rfl⟩ : ∃ q, gk = q + 1 := ⟨gk - 1, by omega⟩
          have HIG : Hid (i + (q + 1) = dn) := hi
          have hlt' : (i : Int) < (dn : Int) := by omega
          have zx := HZ.out _ P2.out.1
          have zi := zx.i
          have zg := zx.g
          dsimp only at zi zg
          rcases zi.cells with h0 | ⟨ib, ioff, eio, hci⟩
          · omega
          rcases zg.cells with h0 | ⟨gb, goff, ego, hcg⟩
          · have := HDG.out; omega
          have gi := hci i hlt
          have hig : i < gn := by rw [← HDG.out]; exact hlt
          have gg := hcg i hig
          have rg := zg.each i hig
          have hgl : (gv i).2.1 = rn := by rw [← rg.length]; exact HW.out.1.gl i hlt
          obtain ⟨x1, ex1⟩ : ∃ t, (gv i).1 = t := ⟨_, rfl⟩
          obtain ⟨x3, ex3⟩ : ∃ t, (gv i).2.2 = t := ⟨_, rfl⟩
          rw [ex1, ex3, hgl] at rg gg
          have hid0 := HW.out.2.2.2 i hlt
          have HSI : Hid (siL ⟨N, co, cn, cc, io, dn, dc, go, gn, gc, ro, rn, rc, bad, cs, ids, gv, gs, rs⟩ us n (i + 1) = if ids[i]?.getD 0 < (n : Int) then (siL ⟨N, co, cn, cc, io, dn, dc, go, gn, gc, ro, rn, rc, bad, cs, ids, gv, gs, rs⟩ us n i).set (ids[i]?.getD 0).toNat (-(signO (wgK us (gs[i]?.getD []) rn))) else siL ⟨N, co, cn, cc, io, dn, dc, go, gn, gc, ro, rn, rc, bad, cs, ids, gv, gs, rs⟩ us n i) := rfl
          obtain ⟨id, hid⟩ : ∃ id : Nat, ids[i]?.getD 0 = id := ⟨(ids[i]?.getD 0).toNat, by omega⟩
          rw [hid] at gi HSI
          rw [Int.toNat_natCast] at HSI
          have RG : Hid (RdF wr x1 rn x3 (gs[i]?.getD [])) := rg
          have GG : Hid (wr.cell? ⟨gb, goff + i, none⟩ = some (.slice x1 rn x3)) := gg
          have C3 : Hid (wr.cell? ⟨w.heap.size, 3, none⟩ = some (.slice (some ⟨gb, goff, none⟩) gn gc)) := by have h9 := cellAtJ P2.out.2.1 3 _ rfl; rw [ego] at h9; exact h9
          have hig' : (i : Int) < (gn : Int) := by omega
          subst eio ego
          clear zx zi zg hci hcg rg gg hgl ex1 ex3 hi hid hid0
          obtain ⟨s, hs⟩ : ∃ s, signO (wgK us (gs[i]?.getD []) rn) = s := ⟨_, rfl⟩
          have hsb := signO_bound (wgK us (gs[i]?.getD []) rn)
          have HSg : Hid (∀ W B', AccO W B' (wgK us (gs[i]?.getD []) rn) → Calls Try.prog 26 #[.pointer (some ⟨B', 0, none⟩)] W fun e w' => e = .returned (.int .i64 s) ∧ w' = W) := fun W B' h => hs ▸ accSign_any B' _ W h
          rw [hs] at hsb HSI
          obtain ⟨hs1, hs2⟩ := hsb
          clear hs
          by_cases hik : id < n
          · have hik2 : decide ((id : Int) < (n : Int)) = true := decide_eq_true (by omega)
            have hik3 : (id : Int) < (n : Int) := by omega
            rw [if_pos hik3] at HSI
            have c3 := C3.out
            have cg := GG.out
            go_wp2_with (first
              | (go_at_call 26; refine Calls.mono (HSg.out _ _ a5) ?_; rintro e w6 ⟨rfl, hw6⟩; rw [hw6]; clear hw6)
              | (refine wpList_store_at (by rfl) 3 _ _ (by rfl) w w.heap.size B id (.int .i64 (-s)) _ (inC ((siL ⟨N, co, cn, cc, (some ⟨ib, ioff, none⟩), dn, dc, (some ⟨gb, goff, none⟩), gn, gc, ro, rn, rc, bad, cs, ids, gv, gs, rs⟩ us n i).set id (-s))) 3 (by kernel_rfl) (by kernel_rfl) (kept b5 P2.out.2.2.1) (to_call P2.out.1 b5) (Nat.le_of_lt P2.out.2.2.2) 1 Try.szIM rfl (by rw [inC_size, siL_len]; omega) (one_inM _) (inC_set _ _ _ (by rw [siL_len]; exact hik)) ?_; intro W2 e2 b2 s2 o2)
              | (go_at_call 25; refine Calls.mono (weighed_any ao x1 l c rn x3 us _ (by have := HW.out.2.1; omega) HW.out.2.2.1 _ (HA.out _ P2.out.1) RG.out) ?_; rintro e w5 ⟨rfl, a5, b5, s5⟩))
            have P3 : Hid (Below w.heap.size w W2 ∧ W2.heap[w.heap.size]? = some (.cells #[.int .i64 N, .slice co cn cc, .slice (some ⟨ib, ioff, none⟩) dn dc, .slice (some ⟨gb, goff, none⟩) gn gc, .slice ro rn rc, .bool bad] 26) ∧ W2.heap[B]? = some (.cells (inC (siL ⟨N, co, cn, cc, (some ⟨ib, ioff, none⟩), dn, dc, (some ⟨gb, goff, none⟩), gn, gc, ro, rn, rc, bad, cs, ids, gv, gs, rs⟩ us n (i + 1))) 3) ∧ w.heap.size < B) := by
              unfold Hid
              rw [HSI.out]
              exact ⟨b2, (o2 _ (Nat.ne_of_lt P2.out.2.2.2)).trans (kept b5 P2.out.2.1), e2, P2.out.2.2.2⟩
            clear P2 C3 GG RG HSI HSg a5 b5 s5 e2 b2 s2 o2 c3 cg
            go_roundg q
            case measure => omega
            case rel => exact ⟨i + 1, by go_num, by have := HIG.out; omega, P3⟩
          · have hik2 : decide ((id : Int) < (n : Int)) = false := decide_eq_false (by omega)
            have hik3 : ¬ (id : Int) < (n : Int) := by omega
            have hik4 : decide (id < n) = false := decide_eq_false hik
            rw [if_neg hik3] at HSI
            have P3 : Hid (Below w.heap.size w wr ∧ wr.heap[w.heap.size]? = some (.cells #[.int .i64 N, .slice co cn cc, .slice (some ⟨ib, ioff, none⟩) dn dc, .slice (some ⟨gb, goff, none⟩) gn gc, .slice ro rn rc, .bool bad] 26) ∧ wr.heap[B]? = some (.cells (inC (siL ⟨N, co, cn, cc, (some ⟨ib, ioff, none⟩), dn, dc, (some ⟨gb, goff, none⟩), gn, gc, ro, rn, rc, bad, cs, ids, gv, gs, rs⟩ us n (i + 1))) 3) ∧ w.heap.size < B) := by unfold Hid; rw [HSI.out]; exact P2.out
            clear P2 C3 GG RG HSI
            go_wp2_with fail
            go_roundg q
            case measure => omega
            case rel => exact ⟨i + 1, by go_num, by have := HIG.out; omega, P3⟩
        · have hd : decide ((i : Int) < (dn : Int)) = false := decide_eq_false (by omega)
          have hd' : decide (i < dn) = false := decide_eq_false (by omega)
          have ei : i = dn := by omega
          have P3 : Hid (wr.heap[B]? = some (.cells (inC (sgL ⟨N, co, cn, cc, io, dn, dc, go, gn, gc, ro, rn, rc, bad, cs, ids, gv, gs, rs⟩ us n)) 3)) := by
            unfold Hid sgL
            rw [HCB.out, if_pos rfl]
            have h9 := P2.out.2.2.1
            rw [ei] at h9
            exact h9
          clear ei hi
          go_wp2_with fail
          go_ret
          exact ⟨⟨_, n, rfl, HSR.out _ B P2.out.2.2.2 P3.out⟩, P2.out.1⟩
  · have HSR : Hid (SgR ⟨N, co, cn, cc, io, dn, dc, go, gn, gc, ro, rn, rc, bad, cs, ids, gv, gs, rs⟩ us k w.heap.size (w.alloc (.cells #[.int .i64 N, .slice co cn cc, .slice io dn dc, .slice go gn gc, .slice ro rn rc, .bool bad] 26)) none 0) := by unfold Hid SgR; rw [if_neg hk]; exact ⟨rfl, rfl⟩
    by_cases hk1 : k < 0
    · have hk2 : decide (k < 0) = true := decide_eq_true hk1
      go_enter Try.func10, Try.ntmps10
      go_wp2_with fail
      go_ret
      exact ⟨⟨none, 0, rfl, HSR.out⟩, X0⟩
    · have hk2 : decide (k < 0) = false := decide_eq_false hk1
      have hk3 : k > 256 := by omega
      have hk4 : decide (k > 256) = true := decide_eq_true hk3
      go_enter Try.func10, Try.ntmps10
      go_wp2_with fail
      go_ret
      exact ⟨⟨none, 0, rfl, HSR.out⟩, X0⟩
end Go.Proofs.Ytaloaholmhcflaa

namespace Go.Proofs.Ytaloaholmhcflaa
open Go.RowKit Go.Shelf
set_option linter.unusedVariables false
set_option linter.unusedSimpArgs false
/-- The worst of the first k claims, where all of them tell. -/
def WoK (z : ZD) (css : List (List Nat)) : Nat → Nat → Nat → Prop
  | 0, at', u => at' = 0 ∧ u = 0
  | k + 1, at', u => ∃ a9 u9 v, WoK z css k a9 u9 ∧ MgR z (css[k]?.getD []) v true ∧ ((at' = k ∧ u = v ∧ (k = 0 ∨ srung v < srung u9)) ∨ (at' = a9 ∧ u = u9 ∧ ¬ (k = 0 ∨ srung v < srung u9)))
/-- What Worst tells. -/
def WoR (z : ZD) (css : List (List Nat)) (n at' u : Nat) (b : Bool) : Prop :=
  (∃ k a9 u9 v, k < n ∧ WoK z css k a9 u9 ∧ MgR z (css[k]?.getD []) v false ∧ at' = 0 ∧ u = 0 ∧ b = false) ∨ (WoK z css n at' u ∧ b = decide (0 < n))
theorem MgR.fin {z : ZD} {us : List Nat} {u : Nat} {b : Bool} (h : MgR z us u b) : Fin u := by
  cases hc : clB z us with
  | true => exact RndO.finJ (h.1 hc)
  | false => rw [(h.2 hc).1]; decide
theorem WoK.fin {z : ZD} {css : List (List Nat)} : ∀ {k a u : Nat}, WoK z css k a u → Fin u
  | 0, a, u, h => by rw [h.2]; decide
  | k + 1, a, u, ⟨a9, u9, v, h1, h2, h3⟩ => by
    rcases h3 with ⟨_, e, _⟩ | ⟨_, e, _⟩
    · rw [e]; exact h2.fin
    · rw [e]; exact WoK.fin h1
theorem WoK.uniq {z : ZD} {css : List (List Nat)} : ∀ {k a u b v : Nat}, WoK z css k a u → WoK z css k b v → a = b ∧ u = v
  | 0, a, u, b, v, h, h' => ⟨h.1.trans h'.1.symm, h.2.trans h'.2.symm⟩
  | k + 1, a, u, b, v, ⟨a9, u9, x, h1, h2, h3⟩, ⟨b9, v9, y, k1, k2, k3⟩ => by
    obtain ⟨rfl, rfl⟩ := WoK.uniq h1 k1
    obtain ⟨rfl, _⟩ := h2.uniq k2
    rcases h3 with ⟨e1, e2, e3⟩ | ⟨e1, e2, e3⟩ <;> rcases k3 with ⟨f1, f2, f3⟩ | ⟨f1, f2, f3⟩
    · exact ⟨e1.trans f1.symm, e2.trans f2.symm⟩
    · exact absurd e3 f3
    · exact absurd f3 e3
    · exact ⟨e1.trans f1.symm, e2.trans f2.symm⟩
theorem WoK.all {z : ZD} {css : List (List Nat)} : ∀ {n a u : Nat}, WoK z css n a u → ∀ k, k < n → ∃ v, MgR z (css[k]?.getD []) v true
  | 0, _, _, _, k, hk => absurd hk (Nat.not_lt_zero _)
  | n + 1, a, u, ⟨a9, u9, x, h1, h2, h3⟩, k, hk => by
    rcases Nat.lt_or_eq_of_le (Nat.le_of_lt_succ hk) with e | e
    · exact WoK.all h1 k e
    · rw [e]; exact ⟨x, h2⟩
theorem WoR.uniq {z : ZD} {css : List (List Nat)} {n a u b v : Nat} {c d : Bool} (h : WoR z css n a u c) (k : WoR z css n b v d) : a = b ∧ u = v ∧ c = d := by
  rcases h with ⟨i, a9, u9, x, h1, h2, h3, h4, h5, h6⟩ | ⟨h1, h2⟩ <;> rcases k with ⟨j, b9, v9, y, k1, k2, k3, k4, k5, k6⟩ | ⟨k1, k2⟩
  · exact ⟨h4.trans k4.symm, h5.trans k5.symm, h6.trans k6.symm⟩
  · obtain ⟨y, hy⟩ := WoK.all k1 i h1
    exact absurd (h3.uniq hy).2 (by decide)
  · obtain ⟨y', hy⟩ := WoK.all h1 j k1
    exact absurd (k3.uniq hy).2 (by decide)
  · obtain ⟨e1, e2⟩ := h1.uniq k1
    exact ⟨e1, e2, h2.trans k2.symm⟩
theorem res_tmp3M (f : Func) (i j k : Nat) (hf : f.results = #[ResultVar.tmp i, ResultVar.tmp j, ResultVar.tmp k]) (tmps : Array Value) (W : World) (a b c : Value) (h1 : tmps[i]? = some a) (h2 : tmps[j]? = some b) (h3 : tmps[k]? = some c) : (results f tmps).run Try.prog W = .ok (.tuple #[a, b, c]) W := by
  simp [results, hf, h1, h2, h3]
theorem ltM {u v : Nat} (hu : Fin u) (hv : Fin v) : (FloatKind.f64.format.order u v == some Ordering.lt) = decide (srung u < srung v) := by
  rw [f64_fmt]
  exact ord_lt (Nat.le_of_lt hu) (Nat.le_of_lt hv)
set_option maxRecDepth 100000 in
set_option maxHeartbeats 4000000 in
theorem worst_any (z : ZD) (ao : Option Addr) (l c : Nat) (gv : Nat → Option Addr × Nat × Nat) (css : List (List Nat)) (w : World) (hz : ZR w z) (hdn : z.dn ≤ 1050000) (ha : RdGs w ao l c gv css) :
    Calls Try.prog 16 #[.agg #[.int .i64 z.N, .slice z.co z.cn z.cc, .slice z.io z.dn z.dc, .slice z.go z.gn z.gc, .slice z.ro z.rn z.rc, .bool z.bad], .slice ao l c] w fun e w' => (∃ (a u : Nat) (b : Bool), e = .returned (.tuple #[.int .i64 (a : Int), .float .f64 u, .bool b]) ∧ WoR z css l a u b) ∧ Below w.heap.size w w' := by
  have HZ : Hid (∀ W', Below w.heap.size w W' → ZR W' z) := fun W' hb => hz.later hb
  have HA : Hid (∀ W', Below w.heap.size w W' → RdGs W' ao l c gv css) := fun W' hb => ha.later hb
  have HD : Hid (z.dn ≤ 1050000) := hdn
  have hlm : l ≤ 9223372036854775807 := Nat.le_trans ha.max maxLen_le
  have X0 : Below w.heap.size w (w.alloc (.cells #[.int .i64 z.N, .slice z.co z.cn z.cc, .slice z.io z.dn z.dc, .slice z.go z.gn z.gc, .slice z.ro z.rn z.rc, .bool z.bad] 26)) := (Below.refl _ w).alloc (Nat.le_refl _) _
  have Y0 : (w.alloc (.cells #[.int .i64 z.N, .slice z.co z.cn z.cc, .slice z.io z.dn z.dc, .slice z.go z.gn z.gc, .slice z.ro z.rn z.rc, .bool z.bad] 26)).heap[w.heap.size]? = _ := heap_alloc_new w _
  clear hz ha hdn
  go_enter Try.func16, Try.ntmps16
  go_upto_region 2 with fail
  obtain ⟨X, hX⟩ : ∃ X, (w.alloc (.cells #[.int .i64 z.N, .slice z.co z.cn z.cc, .slice z.io z.dn z.dc, .slice z.go z.gn z.gc, .slice z.ro z.rn z.rc, .bool z.bad] 26)) = X := ⟨_, rfl⟩
  rw [hX] at X0 Y0 ⊢
  have P1 : Hid (Below w.heap.size w X ∧ X.heap[w.heap.size]? = some (.cells #[.int .i64 z.N, .slice z.co z.cn z.cc, .slice z.io z.dn z.dc, .slice z.go z.gn z.gc, .slice z.ro z.rn z.rc, .bool z.bad] 26)) := ⟨X0, Y0⟩
  clear hX X0 Y0
  go_wp2_with fail
  go_loopg [7, 8, 15] l (fun g v7 v8 iv wx => ∃ k a u : Nat, iv = .int .i64 k ∧ v7 = .int .i64 (a : Int) ∧ v8 = .float .f64 u ∧ k + g = l ∧ Hid (Below w.heap.size w wx ∧ wx.heap[w.heap.size]? = some (.cells #[.int .i64 z.N, .slice z.co z.cn z.cc, .slice z.io z.dn z.dc, .slice z.go z.gn z.gc, .slice z.ro z.rn z.rc, .bool z.bad] 26)) ∧ Hid (WoK z css k a u))
  case atStart => exact ⟨0, 0, 0, rfl, rfl, rfl, by omega, P1, ⟨rfl, rfl⟩⟩
  case round =>
    clear P1
    obtain ⟨k, a, u, rfl, rfl, rfl, hk, P1, HWK⟩ := hrel
    by_cases hlt : k < l
    · have hd : decide ((k : Int) < (l : Int)) = true := decide_eq_true (by omega)
      obtain ⟨g, rfl⟩ : ∃ g, gk = g + 1 := ⟨gk - 1, by omega⟩
      have HIG : Hid (k + (g + 1) = l) := hk
      have hlt' : (k : Int) < (l : Int) := by omega
      have rx := HA.out _ P1.out.1
      rcases rx.cells with h0 | ⟨gb, goff, ego, hcg⟩
      · omega
      subst ego
      have gg := hcg k hlt
      have rg := rx.each k hlt
      obtain ⟨x1, ex1⟩ : ∃ t, (gv k).1 = t := ⟨_, rfl⟩
      obtain ⟨x2, ex2⟩ : ∃ t, (gv k).2.1 = t := ⟨_, rfl⟩
      obtain ⟨x3, ex3⟩ : ∃ t, (gv k).2.2 = t := ⟨_, rfl⟩
      rw [ex1, ex2, ex3] at rg gg
      have RG : Hid (RdF wr x1 x2 x3 (css[k]?.getD [])) := rg
      clear rx hcg rg ex1 ex2 ex3 hk
      go_wp2_with (first | (refine wpList_load_row (by rfl) 26 _ (by rfl) w.heap.size _ (by rfl) P1.out.2 _ Try.underlying26 rfl 6 Try.infoZ (by rfl) ?_))
      refine Calls.mono (margin_any z x1 x2 x3 _ _ (HZ.out _ P1.out.1) HD.out RG.out) ?_
      rintro e w3 ⟨v, b, rfl, hm, b3⟩
      have HM : Hid (MgR z (css[k]?.getD []) v b) := hm
      have P2 : Hid (Below w.heap.size w w3 ∧ w3.heap[w.heap.size]? = some (.cells #[.int .i64 z.N, .slice z.co z.cn z.cc, .slice z.io z.dn z.dc, .slice z.go z.gn z.gc, .slice z.ro z.rn z.rc, .bool z.bad] 26)) := ⟨to_call P1.out.1 b3, kept b3 P1.out.2⟩
      clear hm b3 P1 RG gg
      cases b with
      | false =>
        go_wp2_with fail
        refine bodyPost_ret (v := .tuple #[.int .i64 0, .float .f64 0, .bool false]) (res_tmp3M _ 4 5 6 (by kernel_rfl) _ _ _ _ _ (by rfl) (by rfl) (by rfl)) rfl ?_
        exact ⟨⟨0, 0, false, rfl, .inl ⟨k, a, u, v, hlt, HWK.out, HM.out, rfl, rfl, rfl⟩⟩, P2.out.1⟩
      | true =>
        have hord := ltM HM.out.fin HWK.out.fin
        by_cases h0 : k = 0
        · subst h0
          have HW2 : Hid (WoK z css (0 + 1) 0 v) := ⟨a, u, v, HWK.out, HM.out, .inl ⟨rfl, rfl, .inl rfl⟩⟩
          clear hord
          go_wp2_with fail
          go_roundg g
          case measure => omega
          case rel => exact ⟨0 + 1, 0, v, by go_num, by go_num, rfl, by have := HIG.out; omega, P2, HW2⟩
        · have hk0 : ((k : Int) == 0) = false := by rw [beq_eq_false_iff_ne]; omega
          by_cases hs : srung v < srung u
          · rw [decide_eq_true hs] at hord
            have HW2 : Hid (WoK z css (k + 1) k v) := ⟨a, u, v, HWK.out, HM.out, .inl ⟨rfl, rfl, .inr hs⟩⟩
            clear hs
            go_wp2_with fail
            go_roundg g
            case measure => omega
            case rel => exact ⟨k + 1, k, v, by go_num, rfl, rfl, by have := HIG.out; omega, P2, HW2⟩
          · rw [decide_eq_false hs] at hord
            have HW2 : Hid (WoK z css (k + 1) a u) := ⟨a, u, v, HWK.out, HM.out, .inr ⟨rfl, rfl, fun h => by rcases h with h | h; exact h0 h; exact hs h⟩⟩
            clear hs
            go_wp2_with fail
            go_roundg g
            case measure => omega
            case rel => exact ⟨k + 1, a, u, by go_num, rfl, rfl, by have := HIG.out; omega, P2, HW2⟩
    · have hd : decide ((k : Int) < (l : Int)) = false := decide_eq_false (by omega)
      have hd' : decide (k < l) = false := decide_eq_false (by omega)
      have HW2 : Hid (WoK z css l a u) := by have e : k = l := by omega
                                             exact e ▸ HWK.out
      have e9 : decide ((l : Int) > 0) = decide (0 < l) := by
        by_cases h : 0 < l
        · rw [decide_eq_true h, decide_eq_true (by omega)]
        · rw [decide_eq_false h, decide_eq_false (by omega)]
      have HE : Hid _ := e9
      clear e9 hk
      go_wp2_with fail
      refine bodyPost_ret (v := .tuple #[.int .i64 (a : Int), .float .f64 u, .bool (decide (0 < l))]) (res_tmp3M _ 4 5 6 (by kernel_rfl) _ _ _ _ _ (by rfl) (by rfl) (by simp)) rfl ?_
      exact ⟨⟨a, u, _, rfl, .inr ⟨HW2.out, rfl⟩⟩, P1.out.1⟩
end Go.Proofs.Ytaloaholmhcflaa

namespace Go.Proofs.Ytaloaholmhcflaa
open Go.RowKit Go.Shelf
set_option linter.unusedVariables false
set_option linter.unusedSimpArgs false
theorem index0M_any (f : Value) (w : World) : Calls Try.prog 52 #[.slice none 0 0, f] w fun e w' => e = .returned (.int .i64 (-1)) ∧ w' = w := by
  go_enter Try.func52, Try.ntmps52
  go_wp2_with fail
  go_loopg [8] 0 (fun g iv wx => iv = .int .i64 0 ∧ g = 0 ∧ Hid (wx = w))
  case atStart => exact ⟨rfl, rfl, rfl⟩
  case round =>
    obtain ⟨rfl, hg, HW⟩ := hrel
    go_wp2_with fail
    go_ret
    exact ⟨rfl, HW.out⟩
theorem contains0M_any (f : Value) (w : World) : Calls Try.prog 35 #[.slice none 0 0, f] w fun e w' => e = .returned (.bool false) ∧ w' = w := by
  go_enter Try.func35, Try.ntmps35
  go_wp2_with (go_at_call 52; refine (index0M_any f _).mono ?_; rintro e w' ⟨rfl, rfl⟩)
  go_ret
  exact ⟨rfl, rfl⟩
set_option maxRecDepth 100000 in
set_option maxHeartbeats 2000000 in
theorem may0_any (w : World) : Calls Try.prog 20 #[.agg #[.slice none 0 0, .slice none 0 0, .int .i64 0, .slice none 0 0, .int .i64 0, .int .i64 0, .int .i64 0], .int .i64 2] w fun e w' => e = .returned (.int .i64 0) ∧ Below w.heap.size w w' := by
  have X0 : Below w.heap.size w ((w.alloc (.cells #[.slice none 0 0, .slice none 0 0, .int .i64 0, .slice none 0 0, .int .i64 0, .int .i64 0, .int .i64 0] 28)).alloc (.cells #[.int .i64 2] 3)) := ((Below.refl _ w).alloc (Nat.le_refl _) _).alloc (by simp only [alloc_size]; omega) _
  have Y0 : ((w.alloc (.cells #[.slice none 0 0, .slice none 0 0, .int .i64 0, .slice none 0 0, .int .i64 0, .int .i64 0, .int .i64 0] 28)).alloc (.cells #[.int .i64 2] 3)).heap[w.heap.size]? = some (.cells #[.slice none 0 0, .slice none 0 0, .int .i64 0, .slice none 0 0, .int .i64 0, .int .i64 0, .int .i64 0] 28) := alloc_kept (heap_alloc_new w _) _
  have Y1 : ((w.alloc (.cells #[.slice none 0 0, .slice none 0 0, .int .i64 0, .slice none 0 0, .int .i64 0, .int .i64 0, .int .i64 0] 28)).alloc (.cells #[.int .i64 2] 3)).heap[w.heap.size + 1]? = some (.cells #[.int .i64 2] 3) := heap_at _ _ (w.heap.size + 1) (by simp only [alloc_size])
  go_enter Try.func20, Try.ntmps20
  go_upto_region 1 with fail
  obtain ⟨X, hX⟩ : ∃ X, ((w.alloc (.cells #[.slice none 0 0, .slice none 0 0, .int .i64 0, .slice none 0 0, .int .i64 0, .int .i64 0, .int .i64 0] 28)).alloc (.cells #[.int .i64 2] 3)) = X := ⟨_, rfl⟩
  rw [hX] at X0 Y0 Y1 ⊢
  clear hX
  have c2 := cellAtJ Y0 2 _ rfl
  have c3 := cellAtJ Y0 3 _ rfl
  have d0 := cellAtJ Y1 0 _ rfl
  go_wp2_with (go_at_call 35; refine (contains0M_any _ _).mono ?_; rintro e w' ⟨rfl, rfl⟩)
  go_ret
  exact ⟨rfl, X0⟩
theorem Try.szFM : (Try.prog.info? 50).map (·.size) = some 1 := by kernel_rfl
theorem one_flM (x : Nat) : ∀ u ∈ (Value.float .f64 x).cells.toList, u.oneCell' = true := by
  intro u hu
  have : u = .float .f64 x := by simpa [Value.cells] using hu
  rw [this]; rfl
set_option maxRecDepth 100000 in
set_option maxHeartbeats 2000000 in
theorem above0_any (w : World) : Calls Try.prog 21 #[.int .i64 0, .int .i64 1, .int .i64 2] w fun e w' => e = .returned (.slice (some ⟨w.heap.size, 0, none⟩) 3 3) ∧ w'.heap[w.heap.size]? = some (.cells #[.float .f64 4607182418800017408, .float .f64 13830554455654793216, .float .f64 0] 50) ∧ Below w.heap.size w w' := by
  have hmk : ∀ w : World, (Instr.makeSlice 22 (.int .i64 3) (.int .i64 3)).run Try.prog w = .ok (.slice (some ⟨w.heap.size, 0, none⟩) 3 3) (w.alloc (.cells (flN 3) 50)) := makeFJ 3 (by omega)
  have Y0 : (w.alloc (.cells (flN 3) 50)).heap[w.heap.size]? = some (.cells (flN 3) 50) := heap_alloc_new w _
  have X0 : Below w.heap.size w (w.alloc (.cells (flN 3) 50)) := (Below.refl _ w).alloc (Nat.le_refl _) _
  go_enter Try.func21, Try.ntmps21
  go_upto_region 2 with fail
  obtain ⟨X, hX⟩ : ∃ X, (w.alloc (.cells (flN 3) 50)) = X := ⟨_, rfl⟩
  rw [hX] at Y0 X0 ⊢
  clear hX hmk
  go_wp2_with (first
    | (refine wpList_store_at (by rfl) 50 _ _ (by rfl) w w.heap.size w.heap.size 0 (.float .f64 4607182418800017408) _ #[.float .f64 4607182418800017408, .float .f64 0, .float .f64 0] 50 (by kernel_rfl) (by kernel_rfl) Y0 X0 (Nat.le_refl _) 1 Try.szFM rfl (of_decide_eq_true (by kernel_rfl)) (one_flM _) (by kernel_rfl) ?_; intro W2 e2 b2 s2 o2)
    | (refine wpList_store_at (by rfl) 50 _ _ (by rfl) w w.heap.size w.heap.size 1 (.float .f64 13830554455654793216) _ #[.float .f64 4607182418800017408, .float .f64 13830554455654793216, .float .f64 0] 50 (by kernel_rfl) (by kernel_rfl) e2 b2 (Nat.le_refl _) 1 Try.szFM rfl (of_decide_eq_true (by kernel_rfl)) (one_flM _) (by kernel_rfl) ?_; intro W3 e3 b3 s3 o3))
  go_wp2_with fail
  go_ret
  exact ⟨rfl, e3, b3⟩
theorem Try.infoPM : (Try.prog.info? 28).map (·.size) = some 7 := by kernel_rfl
theorem Try.infoFsM : (Try.prog.info? 22).map (fun i => (i.zero, i.size, i.bytes)) = some (some (.slice none 0 0), 1, 24) := by kernel_rfl
def Cl0 (e : Ending) (W : World) : Prop := ∃ (G B c : Nat), e = .returned (.tuple #[.slice (some ⟨G, 0, none⟩) 1 c, .int .i64 0]) ∧ W.cell? ⟨G, 0, none⟩ = some (.slice (some ⟨B, 0, none⟩) 3 3) ∧ W.heap[B]? = some (.cells #[.float .f64 4607182418800017408, .float .f64 13830554455654793216, .float .f64 0] 50)
set_option maxRecDepth 100000 in
set_option maxHeartbeats 2000000 in
/-- Claims of the question with nothing in it, of two outputs. -/
theorem claims0_any (w : World) : Calls Try.prog 7 #[.agg #[.slice none 0 0, .slice none 0 0, .int .i64 0, .slice none 0 0, .int .i64 0, .int .i64 0, .int .i64 0], .int .i64 2] w fun e w' => Cl0 e w' ∧ Below w.heap.size w w' := by
  have X0 : Below w.heap.size w (w.alloc (.cells #[.slice none 0 0, .slice none 0 0, .int .i64 0, .slice none 0 0, .int .i64 0, .int .i64 0, .int .i64 0] 28)) := (Below.refl _ w).alloc (Nat.le_refl _) _
  have Y0 : (w.alloc (.cells #[.slice none 0 0, .slice none 0 0, .int .i64 0, .slice none 0 0, .int .i64 0, .int .i64 0, .int .i64 0] 28)).heap[w.heap.size]? = some (.cells #[.slice none 0 0, .slice none 0 0, .int .i64 0, .slice none 0 0, .int .i64 0, .int .i64 0, .int .i64 0] 28) := heap_alloc_new w _
  go_enter Try.func7, Try.ntmps7
  go_upto_region 1 with fail
  obtain ⟨X, hX⟩ : ∃ X, (w.alloc (.cells #[.slice none 0 0, .slice none 0 0, .int .i64 0, .slice none 0 0, .int .i64 0, .int .i64 0, .int .i64 0] 28)) = X := ⟨_, rfl⟩
  rw [hX] at X0 Y0 ⊢
  clear hX
  go_wp2_with (first | (refine wpList_load_row (by rfl) 28 _ (by rfl) w.heap.size _ (by rfl) Y0 _ Try.underlying28 rfl 7 Try.infoPM (by rfl) ?_) | (go_at_call 20; refine (may0_any _).mono ?_; rintro e w1 ⟨rfl, b1⟩))
  have P1 : Hid (Below w.heap.size w w1 ∧ w1.heap[w.heap.size]? = some (.cells #[.slice none 0 0, .slice none 0 0, .int .i64 0, .slice none 0 0, .int .i64 0, .int .i64 0, .int .i64 0] 28)) := ⟨to_call X0 b1, kept b1 Y0⟩
  clear X0 Y0 b1
  go_loopg [7, 18] 2 (fun g v7 iv wx => ∃ k : Nat, iv = .int .i64 k ∧ k + g = 2 ∧ Hid (Below w.heap.size w wx ∧ wx.heap[w.heap.size]? = some (.cells #[.slice none 0 0, .slice none 0 0, .int .i64 0, .slice none 0 0, .int .i64 0, .int .i64 0, .int .i64 0] 28)) ∧ ((k ≤ 1 ∧ v7 = .slice none 0 0) ∨ (k = 2 ∧ ∃ G B c, v7 = .slice (some ⟨G, 0, none⟩) 1 c ∧ Hid (wx.cell? ⟨G, 0, none⟩ = some (.slice (some ⟨B, 0, none⟩) 3 3) ∧ wx.heap[B]? = some (.cells #[.float .f64 4607182418800017408, .float .f64 13830554455654793216, .float .f64 0] 50)))))
  case atStart => exact ⟨0, rfl, rfl, P1, .inl ⟨by omega, rfl⟩⟩
  case round =>
    clear P1
    obtain ⟨k, rfl, hk, P1, hv⟩ := hrel
    have c2 := cellAtJ P1.out.2 2 _ rfl
    have c3 := cellAtJ P1.out.2 3 _ rfl
    rcases hv with ⟨h1, rfl⟩ | ⟨rfl, G, B, c, rfl, HG⟩
    · obtain ⟨g, rfl⟩ : ∃ g, gk = g + 1 := ⟨gk - 1, by omega⟩
      rcases Nat.lt_or_eq_of_le h1 with h2 | h2
      · have h3 : k = 0 := by omega
        subst h3
        clear h1 h2
        go_wp2_with fail
        go_roundg g
        case measure => omega
        case rel => exact ⟨1, by go_num, by omega, P1, .inl ⟨by omega, rfl⟩⟩
      · subst h2
        go_upto_region 9 with fail
        go_wp2_with (first
          | (go_at_call 21; refine (above0_any _).mono ?_; rintro e w3 ⟨rfl, e3, b3⟩)
          | (at_builtin; refine append_gr1M Try.underlying24 Try.infoFsM rfl (by decide) w3 (by rfl) _ _ (by rfl) w3.heap.size (.slice none 0 0) [] (by rfl) (World.ownsRow_nil _ _ _ _) (.slice (some ⟨wr.heap.size, 0, none⟩) 3 3) (by rfl) rfl (by decide) (Nat.le_refl _) ?_; intro v6 w6 o6 g6))
        rcases o6.2 with ⟨_, h0⟩ | ⟨G, cap, cur, rfl, hlo, hh, hr1, hr2, hr3, hr4⟩
        · cases h0
        have q6 : Below w3.heap.size w3 w6 := g6.below (fun k hk => by simp [Value.ownBlock] at hk) (Nat.le_refl _)
        have HG : Hid (w6.cell? ⟨G, 0, none⟩ = some (.slice (some ⟨wr.heap.size, 0, none⟩) 3 3) ∧ w6.heap[wr.heap.size]? = some (.cells #[.float .f64 4607182418800017408, .float .f64 13830554455654793216, .float .f64 0] 50)) := by
          refine ⟨?_, kept q6 e3⟩
          have h9 := World.ownsRow.cellAt o6 0 (by simp)
          exact h9
        have P2 : Hid (Below w.heap.size w w6 ∧ w6.heap[w.heap.size]? = some (.cells #[.slice none 0 0, .slice none 0 0, .int .i64 0, .slice none 0 0, .int .i64 0, .int .i64 0, .int .i64 0] 28)) := ⟨to_call (to_call P1.out.1 b3) q6, kept q6 (kept b3 P1.out.2)⟩
        clear o6 g6 q6 hh hr1 hr2 hr3 hr4 hlo e3 b3 P1 c2 c3
        go_roundg g
        case measure => omega
        case rel => exact ⟨2, by go_num, by omega, P2, .inr ⟨rfl, G, wr.heap.size, cap, rfl, HG⟩⟩
    · go_wp2_with fail
      clear c2 c3
      go_loopg [7, 42] 0 (fun g v7 iv wx => iv = .int .i64 0 ∧ g = 0 ∧ v7 = .slice (some ⟨G, 0, none⟩) 1 c ∧ Hid (wx = wr))
      case atStart => exact ⟨rfl, rfl, rfl, rfl⟩
      case round =>
        obtain ⟨rfl, hg, rfl, HW⟩ := hrel
        have e9 := HW.out
        subst e9
        go_wp2_with fail
        refine bodyPost_ret (v := .tuple #[.slice (some ⟨G, 0, none⟩) 1 c, .int .i64 0]) (res_tmp2J _ 4 5 (by kernel_rfl) _ _ _ _ (by rfl) (by rfl)) rfl ?_
        exact ⟨⟨G, B, c, rfl, HG.out.1, HG.out.2⟩, P1.out.1⟩
end Go.Proofs.Ytaloaholmhcflaa

namespace Go.Proofs.Ytaloaholmhcflaa
open Go.RowKit Go.Shelf
set_option linter.unusedVariables false
set_option linter.unusedSimpArgs false
/-- The example of chapter 17, wherever its lists lie. -/
def exM (a i gb g r : Nat) : ZD := ⟨2, some ⟨a, 0, none⟩, 2, 2, some ⟨i, 0, none⟩, 1, 1, some ⟨g, 0, none⟩, 1, 1, some ⟨r, 0, none⟩, 2, 2, false, [4604930618986332160, 4598175219545276416], [0], fun _ => (some ⟨gb, 0, none⟩, 2, 2), [[4607182418800017408, 4607182418800017408]], [0, 0]⟩
theorem exM_cl1 (a i gb g r : Nat) : clB (exM a i gb g r) [4607182418800017408, 13830554455654793216, 0] = true := by kernel_rfl
theorem exM_cl2 (a i gb g r : Nat) : clB (exM a i gb g r) [4607182418800017408, 0, 0] = true := by kernel_rfl
theorem exM_le1 (a i gb g r : Nat) : leO (exM a i gb g r) [4607182418800017408, 13830554455654793216, 0] = some (fval 4602678819172646912 * ((2 ^ 1166 : Nat) : Int)) := of_decide_eq_true (by kernel_rfl)
theorem exM_le2 (a i gb g r : Nat) : leO (exM a i gb g r) [4607182418800017408, 0, 0] = some (fval 13821547256400052224 * ((2 ^ 1166 : Nat) : Int)) := of_decide_eq_true (by kernel_rfl)
theorem exM_sg (a i gb g r : Nat) : sgL (exM a i gb g r) [4607182418800017408, 0, 0] 1 = [-1] := of_decide_eq_true (by kernel_rfl)
theorem rnd_exM {r : Nat} (hr : r < 18446744073709551616) (hf : Fin r) : RndO 2 (some (fval r * ((2 ^ 1166 : Nat) : Int))) (plainM r) true := by
  intro a ha
  have h2 := (RndZ.plain 2 hr hf (.inr (.inr rfl))).rescale (2 ^ a) (Nat.two_pow_pos _)
  rw [Nat.one_mul] at h2
  rw [← ha]
  exact h2
theorem exM_m1 (a i gb g r : Nat) : MgR (exM a i gb g r) [4607182418800017408, 13830554455654793216, 0] 4602678819172646912 true := by
  refine ⟨fun _ => ?_, fun h => absurd ((exM_cl1 a i gb g r).symm.trans h) (by decide)⟩
  rw [exM_le1]
  have h := rnd_exM (r := 4602678819172646912) (by decide) (by decide)
  rwa [show plainM 4602678819172646912 = 4602678819172646912 by decide] at h
theorem exM_m2 (a i gb g r : Nat) : MgR (exM a i gb g r) [4607182418800017408, 0, 0] 13821547256400052224 true := by
  refine ⟨fun _ => ?_, fun h => absurd ((exM_cl2 a i gb g r).symm.trans h) (by decide)⟩
  rw [exM_le2]
  have h := rnd_exM (r := 13821547256400052224) (by decide) (by decide)
  rwa [show plainM 13821547256400052224 = 13821547256400052224 by decide] at h
theorem exM_wo (a i gb g r : Nat) : WoR (exM a i gb g r) [[4607182418800017408, 13830554455654793216, 0], [4607182418800017408, 0, 0]] 2 1 13821547256400052224 true :=
  .inr ⟨⟨0, 4602678819172646912, 13821547256400052224, ⟨0, 0, 4602678819172646912, ⟨rfl, rfl⟩, exM_m1 a i gb g r, .inl ⟨rfl, rfl, .inl rfl⟩⟩, exM_m2 a i gb g r, .inl ⟨rfl, rfl, .inr (by decide)⟩⟩, rfl⟩
theorem rdF3M {W : World} {B x y u : Nat} {t : TypeId} (h : W.heap[B]? = some (.cells #[.float .f64 x, .float .f64 y, .float .f64 u] t)) (hx : x < 18446744073709551616) (hy : y < 18446744073709551616) (hu : u < 18446744073709551616) : RdF W (some ⟨B, 0, none⟩) 3 3 [x, y, u] := by
  refine ⟨rfl, by decide, fun v hv => ?_, .inr ⟨B, 0, rfl, fun j hj => ?_⟩⟩
  · simp only [List.mem_cons, List.not_mem_nil, or_false] at hv
    rcases hv with rfl | rfl | rfl <;> assumption
  · match j, hj with
    | 0, _ => exact cellAtJ h 0 _ rfl
    | 1, _ => exact cellAtJ h 1 _ rfl
    | 2, _ => exact cellAtJ h 2 _ rfl
theorem rdI1M {W : World} {B : Nat} {x : Int} {t : TypeId} (h : W.heap[B]? = some (.cells #[.int .i64 x] t)) : RdIs W (some ⟨B, 0, none⟩) 1 1 [x] := by
  refine ⟨rfl, by decide, .inr ⟨B, 0, rfl, fun j hj => ?_⟩⟩
  match j, hj with
  | 0, _ => exact cellAtJ h 0 _ rfl
theorem rdG1M {W : World} {B : Nat} {p : Option Addr × Nat × Nat} {us : List Nat} {t : TypeId} (h : W.heap[B]? = some (.cells #[.slice p.1 p.2.1 p.2.2] t)) (hp : RdF W p.1 p.2.1 p.2.2 us) : RdGs W (some ⟨B, 0, none⟩) 1 1 (fun _ => p) [us] := by
  refine ⟨rfl, by decide, .inr ⟨B, 0, rfl, fun j hj => ?_⟩, fun j hj => ?_⟩
  · match j, hj with
    | 0, _ => exact cellAtJ h 0 _ rfl
  · match j, hj with
    | 0, _ => exact hp
set_option maxRecDepth 100000 in
set_option maxHeartbeats 4000000 in
theorem awake_any (w : World) : Calls Try.prog 4 #[] w fun e w' => e = .returned (.bool true) ∧ Below w.heap.size w w' := by
  have hb : Below w.heap.size w ((((((w.alloc (.cells #[.float .f64 4604930618986332160, .float .f64 4598175219545276416] 50)).alloc (.cells #[.int .i64 0] 3)).alloc (.cells #[.float .f64 4607182418800017408, .float .f64 4607182418800017408] 50)).alloc (.cells #[.slice (some ⟨w.heap.size + 1 + 1, 0, none⟩) 2 2] 22)).alloc (.cells #[.float .f64 0, .float .f64 0] 50)).alloc (.cells #[.int .i64 2, .slice (some ⟨w.heap.size, 0, none⟩) 2 2, .slice (some ⟨w.heap.size + 1, 0, none⟩) 1 1, .slice (some ⟨w.heap.size + 1 + 1 + 1, 0, none⟩) 1 1, .slice (some ⟨w.heap.size + 1 + 1 + 1 + 1, 0, none⟩) 2 2, .bool false] 26)) := (((((((Below.refl _ w).alloc (Nat.le_refl _) _).alloc (by simp only [alloc_size]; omega) _).alloc (by simp only [alloc_size]; omega) _).alloc (by simp only [alloc_size]; omega) _).alloc (by simp only [alloc_size]; omega) _).alloc (by simp only [alloc_size]; omega) _)
  have h0 : ((((((w.alloc (.cells #[.float .f64 4604930618986332160, .float .f64 4598175219545276416] 50)).alloc (.cells #[.int .i64 0] 3)).alloc (.cells #[.float .f64 4607182418800017408, .float .f64 4607182418800017408] 50)).alloc (.cells #[.slice (some ⟨w.heap.size + 1 + 1, 0, none⟩) 2 2] 22)).alloc (.cells #[.float .f64 0, .float .f64 0] 50)).alloc (.cells #[.int .i64 2, .slice (some ⟨w.heap.size, 0, none⟩) 2 2, .slice (some ⟨w.heap.size + 1, 0, none⟩) 1 1, .slice (some ⟨w.heap.size + 1 + 1 + 1, 0, none⟩) 1 1, .slice (some ⟨w.heap.size + 1 + 1 + 1 + 1, 0, none⟩) 2 2, .bool false] 26)).heap[w.heap.size]? = some (.cells #[.float .f64 4604930618986332160, .float .f64 4598175219545276416] 50) := alloc_kept (alloc_kept (alloc_kept (alloc_kept (alloc_kept (heap_alloc_new w _) _) _) _) _) _
  have h1 : ((((((w.alloc (.cells #[.float .f64 4604930618986332160, .float .f64 4598175219545276416] 50)).alloc (.cells #[.int .i64 0] 3)).alloc (.cells #[.float .f64 4607182418800017408, .float .f64 4607182418800017408] 50)).alloc (.cells #[.slice (some ⟨w.heap.size + 1 + 1, 0, none⟩) 2 2] 22)).alloc (.cells #[.float .f64 0, .float .f64 0] 50)).alloc (.cells #[.int .i64 2, .slice (some ⟨w.heap.size, 0, none⟩) 2 2, .slice (some ⟨w.heap.size + 1, 0, none⟩) 1 1, .slice (some ⟨w.heap.size + 1 + 1 + 1, 0, none⟩) 1 1, .slice (some ⟨w.heap.size + 1 + 1 + 1 + 1, 0, none⟩) 2 2, .bool false] 26)).heap[w.heap.size + 1]? = some (.cells #[.int .i64 0] 3) := alloc_kept (alloc_kept (alloc_kept (alloc_kept (heap_at _ _ (w.heap.size + 1) (by simp only [alloc_size])) _) _) _) _
  have h2 : ((((((w.alloc (.cells #[.float .f64 4604930618986332160, .float .f64 4598175219545276416] 50)).alloc (.cells #[.int .i64 0] 3)).alloc (.cells #[.float .f64 4607182418800017408, .float .f64 4607182418800017408] 50)).alloc (.cells #[.slice (some ⟨w.heap.size + 1 + 1, 0, none⟩) 2 2] 22)).alloc (.cells #[.float .f64 0, .float .f64 0] 50)).alloc (.cells #[.int .i64 2, .slice (some ⟨w.heap.size, 0, none⟩) 2 2, .slice (some ⟨w.heap.size + 1, 0, none⟩) 1 1, .slice (some ⟨w.heap.size + 1 + 1 + 1, 0, none⟩) 1 1, .slice (some ⟨w.heap.size + 1 + 1 + 1 + 1, 0, none⟩) 2 2, .bool false] 26)).heap[w.heap.size + 1 + 1]? = some (.cells #[.float .f64 4607182418800017408, .float .f64 4607182418800017408] 50) := alloc_kept (alloc_kept (alloc_kept (heap_at _ _ (w.heap.size + 1 + 1) (by simp only [alloc_size])) _) _) _
  have h3 : ((((((w.alloc (.cells #[.float .f64 4604930618986332160, .float .f64 4598175219545276416] 50)).alloc (.cells #[.int .i64 0] 3)).alloc (.cells #[.float .f64 4607182418800017408, .float .f64 4607182418800017408] 50)).alloc (.cells #[.slice (some ⟨w.heap.size + 1 + 1, 0, none⟩) 2 2] 22)).alloc (.cells #[.float .f64 0, .float .f64 0] 50)).alloc (.cells #[.int .i64 2, .slice (some ⟨w.heap.size, 0, none⟩) 2 2, .slice (some ⟨w.heap.size + 1, 0, none⟩) 1 1, .slice (some ⟨w.heap.size + 1 + 1 + 1, 0, none⟩) 1 1, .slice (some ⟨w.heap.size + 1 + 1 + 1 + 1, 0, none⟩) 2 2, .bool false] 26)).heap[w.heap.size + 1 + 1 + 1]? = some (.cells #[.slice (some ⟨w.heap.size + 1 + 1, 0, none⟩) 2 2] 22) := alloc_kept (alloc_kept (heap_at _ _ (w.heap.size + 1 + 1 + 1) (by simp only [alloc_size])) _) _
  have h4 : ((((((w.alloc (.cells #[.float .f64 4604930618986332160, .float .f64 4598175219545276416] 50)).alloc (.cells #[.int .i64 0] 3)).alloc (.cells #[.float .f64 4607182418800017408, .float .f64 4607182418800017408] 50)).alloc (.cells #[.slice (some ⟨w.heap.size + 1 + 1, 0, none⟩) 2 2] 22)).alloc (.cells #[.float .f64 0, .float .f64 0] 50)).alloc (.cells #[.int .i64 2, .slice (some ⟨w.heap.size, 0, none⟩) 2 2, .slice (some ⟨w.heap.size + 1, 0, none⟩) 1 1, .slice (some ⟨w.heap.size + 1 + 1 + 1, 0, none⟩) 1 1, .slice (some ⟨w.heap.size + 1 + 1 + 1 + 1, 0, none⟩) 2 2, .bool false] 26)).heap[w.heap.size + 1 + 1 + 1 + 1]? = some (.cells #[.float .f64 0, .float .f64 0] 50) := alloc_kept (heap_at _ _ (w.heap.size + 1 + 1 + 1 + 1) (by simp only [alloc_size])) _
  have h5 : ((((((w.alloc (.cells #[.float .f64 4604930618986332160, .float .f64 4598175219545276416] 50)).alloc (.cells #[.int .i64 0] 3)).alloc (.cells #[.float .f64 4607182418800017408, .float .f64 4607182418800017408] 50)).alloc (.cells #[.slice (some ⟨w.heap.size + 1 + 1, 0, none⟩) 2 2] 22)).alloc (.cells #[.float .f64 0, .float .f64 0] 50)).alloc (.cells #[.int .i64 2, .slice (some ⟨w.heap.size, 0, none⟩) 2 2, .slice (some ⟨w.heap.size + 1, 0, none⟩) 1 1, .slice (some ⟨w.heap.size + 1 + 1 + 1, 0, none⟩) 1 1, .slice (some ⟨w.heap.size + 1 + 1 + 1 + 1, 0, none⟩) 2 2, .bool false] 26)).heap[w.heap.size + 1 + 1 + 1 + 1 + 1]? = some (.cells #[.int .i64 2, .slice (some ⟨w.heap.size, 0, none⟩) 2 2, .slice (some ⟨w.heap.size + 1, 0, none⟩) 1 1, .slice (some ⟨w.heap.size + 1 + 1 + 1, 0, none⟩) 1 1, .slice (some ⟨w.heap.size + 1 + 1 + 1 + 1, 0, none⟩) 2 2, .bool false] 26) := heap_at _ _ (w.heap.size + 1 + 1 + 1 + 1 + 1) (by simp only [alloc_size])
  go_enter Try.func4, Try.ntmps4
  go_upto_region 2 with fail
  obtain ⟨X, hX⟩ : ∃ X, ((((((w.alloc (.cells #[.float .f64 4604930618986332160, .float .f64 4598175219545276416] 50)).alloc (.cells #[.int .i64 0] 3)).alloc (.cells #[.float .f64 4607182418800017408, .float .f64 4607182418800017408] 50)).alloc (.cells #[.slice (some ⟨w.heap.size + 1 + 1, 0, none⟩) 2 2] 22)).alloc (.cells #[.float .f64 0, .float .f64 0] 50)).alloc (.cells #[.int .i64 2, .slice (some ⟨w.heap.size, 0, none⟩) 2 2, .slice (some ⟨w.heap.size + 1, 0, none⟩) 1 1, .slice (some ⟨w.heap.size + 1 + 1 + 1, 0, none⟩) 1 1, .slice (some ⟨w.heap.size + 1 + 1 + 1 + 1, 0, none⟩) 2 2, .bool false] 26)) = X := ⟨_, rfl⟩
  rw [hX] at hb h0 h1 h2 h3 h4 h5 ⊢
  have HX : Hid (Below w.heap.size w X ∧ X.heap[w.heap.size + 1 + 1 + 1 + 1 + 1]? = some (.cells #[.int .i64 2, .slice (some ⟨w.heap.size, 0, none⟩) 2 2, .slice (some ⟨w.heap.size + 1, 0, none⟩) 1 1, .slice (some ⟨w.heap.size + 1 + 1 + 1, 0, none⟩) 1 1, .slice (some ⟨w.heap.size + 1 + 1 + 1 + 1, 0, none⟩) 2 2, .bool false] 26) ∧ ZR X (exM (w.heap.size) (w.heap.size + 1) (w.heap.size + 1 + 1) (w.heap.size + 1 + 1 + 1) (w.heap.size + 1 + 1 + 1 + 1))) := ⟨hb, h5, ⟨rdF2 h0 (by decide) (by decide), rdI1M h1, rdG1M (p := (some ⟨w.heap.size + 1 + 1, 0, none⟩, 2, 2)) h3 (rdF2 h2 (by decide) (by decide)), rdF2 h4 (by decide) (by decide)⟩⟩
  clear hX hb h0 h1 h2 h3 h4 h5
  have HM1 : Hid (∀ W D, Below X.heap.size X W → W.heap[D]? = some (.cells #[.float .f64 4607182418800017408, .float .f64 13830554455654793216, .float .f64 0] 50) → Calls Try.prog 15 #[.agg #[.int .i64 2, .slice (some ⟨w.heap.size, 0, none⟩) 2 2, .slice (some ⟨w.heap.size + 1, 0, none⟩) 1 1, .slice (some ⟨w.heap.size + 1 + 1 + 1, 0, none⟩) 1 1, .slice (some ⟨w.heap.size + 1 + 1 + 1 + 1, 0, none⟩) 2 2, .bool false], .slice (some ⟨D, 0, none⟩) 3 3] W fun e w' => e = .returned (.tuple #[.float .f64 4602678819172646912, .bool true]) ∧ Below W.heap.size W w') := by
    intro W D hb hD
    refine (margin_any (exM (w.heap.size) (w.heap.size + 1) (w.heap.size + 1 + 1) (w.heap.size + 1 + 1 + 1) (w.heap.size + 1 + 1 + 1 + 1)) _ 3 3 [4607182418800017408, 13830554455654793216, 0] W (HX.out.2.2.later hb) (show (1 : Nat) ≤ 1050000 by decide) (rdF3M hD (by decide) (by decide) (by decide))).mono ?_
    rintro e w' ⟨u, b, rfl, hm, bw⟩
    obtain ⟨rfl, rfl⟩ := hm.uniq (exM_m1 _ _ _ _ _)
    exact ⟨rfl, bw⟩
  have HM2 : Hid (∀ W D, Below X.heap.size X W → W.heap[D]? = some (.cells #[.float .f64 4607182418800017408, .float .f64 0, .float .f64 0] 50) → Calls Try.prog 15 #[.agg #[.int .i64 2, .slice (some ⟨w.heap.size, 0, none⟩) 2 2, .slice (some ⟨w.heap.size + 1, 0, none⟩) 1 1, .slice (some ⟨w.heap.size + 1 + 1 + 1, 0, none⟩) 1 1, .slice (some ⟨w.heap.size + 1 + 1 + 1 + 1, 0, none⟩) 2 2, .bool false], .slice (some ⟨D, 0, none⟩) 3 3] W fun e w' => e = .returned (.tuple #[.float .f64 13821547256400052224, .bool true]) ∧ Below W.heap.size W w') := by
    intro W D hb hD
    refine (margin_any (exM (w.heap.size) (w.heap.size + 1) (w.heap.size + 1 + 1) (w.heap.size + 1 + 1 + 1) (w.heap.size + 1 + 1 + 1 + 1)) _ 3 3 [4607182418800017408, 0, 0] W (HX.out.2.2.later hb) (show (1 : Nat) ≤ 1050000 by decide) (rdF3M hD (by decide) (by decide) (by decide))).mono ?_
    rintro e w' ⟨u, b, rfl, hm, bw⟩
    obtain ⟨rfl, rfl⟩ := hm.uniq (exM_m2 _ _ _ _ _)
    exact ⟨rfl, bw⟩
  have HW : Hid (∀ W D1 D2 D3, Below X.heap.size X W → W.heap[D1]? = some (.cells #[.float .f64 4607182418800017408, .float .f64 13830554455654793216, .float .f64 0] 50) → W.heap[D2]? = some (.cells #[.float .f64 4607182418800017408, .float .f64 0, .float .f64 0] 50) → W.heap[D3]? = some (.cells #[.slice (some ⟨D1, 0, none⟩) 3 3, .slice (some ⟨D2, 0, none⟩) 3 3] 22) → Calls Try.prog 16 #[.agg #[.int .i64 2, .slice (some ⟨w.heap.size, 0, none⟩) 2 2, .slice (some ⟨w.heap.size + 1, 0, none⟩) 1 1, .slice (some ⟨w.heap.size + 1 + 1 + 1, 0, none⟩) 1 1, .slice (some ⟨w.heap.size + 1 + 1 + 1 + 1, 0, none⟩) 2 2, .bool false], .slice (some ⟨D3, 0, none⟩) 2 2] W fun e w' => e = .returned (.tuple #[.int .i64 1, .float .f64 13821547256400052224, .bool true]) ∧ Below W.heap.size W w') := by
    intro W D1 D2 D3 hb h1 h2 h3
    refine (worst_any (exM (w.heap.size) (w.heap.size + 1) (w.heap.size + 1 + 1) (w.heap.size + 1 + 1 + 1) (w.heap.size + 1 + 1 + 1 + 1)) _ 2 2 _ [[4607182418800017408, 13830554455654793216, 0], [4607182418800017408, 0, 0]] W (HX.out.2.2.later hb) (show (1 : Nat) ≤ 1050000 by decide) (rdG2 (p := (some ⟨D1, 0, none⟩, 3, 3)) (q := (some ⟨D2, 0, none⟩, 3, 3)) h3 (rdF3M h1 (by decide) (by decide) (by decide)) (rdF3M h2 (by decide) (by decide) (by decide)))).mono ?_
    rintro e w' ⟨⟨a, u, b, rfl, hm⟩, bw⟩
    obtain ⟨rfl, rfl, rfl⟩ := hm.uniq (exM_wo _ _ _ _ _)
    exact ⟨rfl, bw⟩
  have HS : Hid (∀ W D, Below X.heap.size X W → W.heap[D]? = some (.cells #[.float .f64 4607182418800017408, .float .f64 0, .float .f64 0] 50) → Calls Try.prog 10 #[.agg #[.int .i64 2, .slice (some ⟨w.heap.size, 0, none⟩) 2 2, .slice (some ⟨w.heap.size + 1, 0, none⟩) 1 1, .slice (some ⟨w.heap.size + 1 + 1 + 1, 0, none⟩) 1 1, .slice (some ⟨w.heap.size + 1 + 1 + 1 + 1, 0, none⟩) 2 2, .bool false], .slice (some ⟨D, 0, none⟩) 3 3, .int .i64 1] W fun e w' => (∃ o, e = .returned (.slice o 1 1) ∧ Hid (RdIs w' o 1 1 [-1])) ∧ Below W.heap.size W w') := by
    intro W D hb hD
    refine (signs_any (exM (w.heap.size) (w.heap.size + 1) (w.heap.size + 1 + 1) (w.heap.size + 1 + 1 + 1) (w.heap.size + 1 + 1 + 1 + 1)) _ 3 3 [4607182418800017408, 0, 0] 1 W (HX.out.2.2.later hb) (show (1 : Nat) ≤ 1050000 by decide) (rdF3M hD (by decide) (by decide) (by decide)) (fun _ j hj => ?_)).mono ?_
    · match j, hj with
      | 0, _ => exact Int.le_refl 0
    · rintro e w' ⟨⟨o, n, rfl, hm⟩, bw⟩
      have hr := hm.rd
      unfold SgR at hm
      rw [if_pos (by decide)] at hm
      have hn : n = 1 := hm.1
      subst hn
      rw [if_pos (by decide)] at hr
      have e9 : sgL (exM (w.heap.size) (w.heap.size + 1) (w.heap.size + 1 + 1) (w.heap.size + 1 + 1 + 1) (w.heap.size + 1 + 1 + 1 + 1)) [4607182418800017408, 0, 0] (Int.toNat 1) = [-1] := exM_sg _ _ _ _ _
      rw [e9] at hr
      exact ⟨⟨o, rfl, hr⟩, bw⟩
  go_wp2_with (first | (refine wpList_load_row (by rfl) 26 _ (by rfl) (w.heap.size + 1 + 1 + 1 + 1 + 1) _ (by rfl) HX.out.2.1 _ Try.underlying26 rfl 6 Try.infoZ (by rfl) ?_))
  refine Calls.mono (HM1.out _ _ ((Below.refl _ X).alloc (Nat.le_refl _) _) (heap_alloc_new X _)) ?_
  rintro e w2 ⟨rfl, b2⟩
  have HX2 : Hid (Below X.heap.size X w2) := ((Below.refl _ X).alloc (Nat.le_refl _) _).trans (b2.mono (by simp only [alloc_size]; omega))
  clear b2
  go_wp2_with (first | (refine wpList_load_row (by rfl) 26 _ (by rfl) (w.heap.size + 1 + 1 + 1 + 1 + 1) _ (by rfl) (kept HX2.out HX.out.2.1) _ Try.underlying26 rfl 6 Try.infoZ (by rfl) ?_))
  refine Calls.mono (HM2.out _ _ (HX2.out.alloc HX2.out.size _) (heap_alloc_new w2 _)) ?_
  rintro e w3 ⟨rfl, b3⟩
  have HX3 : Hid (Below X.heap.size X w3) := (HX2.out.alloc HX2.out.size _).trans (b3.mono (by have := HX2.out.size; simp only [alloc_size]; omega))
  clear b3
  go_wp2_with (first | (refine wpList_load_row (by rfl) 26 _ (by rfl) (w.heap.size + 1 + 1 + 1 + 1 + 1) _ (by rfl) (kept HX3.out HX.out.2.1) _ Try.underlying26 rfl 6 Try.infoZ (by rfl) ?_))
  refine Calls.mono (HW.out _ w3.heap.size (w3.heap.size + 1) _ (((HX3.out.alloc HX3.out.size _).alloc (by have := HX3.out.size; simp only [alloc_size]; omega) _).alloc (by have := HX3.out.size; simp only [alloc_size]; omega) _) (alloc_kept (alloc_kept (heap_alloc_new w3 _) _) _) (alloc_kept (heap_at _ _ (w3.heap.size + 1) (by simp only [alloc_size])) _) (heap_at _ _ (w3.heap.size + 1 + 1) (by simp only [alloc_size]))) ?_
  rintro e w4 ⟨rfl, b4⟩
  have HX4 : Hid (Below X.heap.size X w4) := (((HX3.out.alloc HX3.out.size _).alloc (by have := HX3.out.size; simp only [alloc_size]; omega) _).alloc (by have := HX3.out.size; simp only [alloc_size]; omega) _).trans (b4.mono (by have := HX3.out.size; simp only [alloc_size]; omega))
  clear b4
  go_wp2_with fail
  refine Calls.mono (claims0_any _) ?_
  rintro e w5 ⟨⟨G, D, c, rfl, hG, hD⟩, b5⟩
  have HX5 : Hid (Below X.heap.size X w5) := to_call HX4.out b5
  have d0 := cellAtJ hD 0 _ rfl
  have d1 := cellAtJ hD 1 _ rfl
  have d2 := cellAtJ hD 2 _ rfl
  clear b5 hD
  have f1 : (FloatKind.f64.format.order 4602678819172646912 4602678819172646912 != some Ordering.eq) = false := by kernel_rfl
  have f2 : (FloatKind.f64.format.order 13821547256400052224 13821547256400052224 != some Ordering.eq) = false := by kernel_rfl
  have f3 : (FloatKind.f64.format.order 4607182418800017408 4607182418800017408 == some Ordering.eq) = true := by kernel_rfl
  have f4 : (FloatKind.f64.format.order 13830554455654793216 13830554455654793216 == some Ordering.eq) = true := by kernel_rfl
  have f5 : (FloatKind.f64.format.order 0 0 == some Ordering.eq) = true := by kernel_rfl
  go_upto_region 8 with fail
  go_wp2_with (first | (refine wpList_load_rowG (by kernel_rfl) 26 _ (by rfl) (w.heap.size + 1 + 1 + 1 + 1 + 1) _ (by rfl) (kept HX5.out HX.out.2.1) _ Try.underlying26 rfl 6 Try.infoZ (by rfl) ?_))
  refine Calls.mono (HS.out _ _ (HX5.out.alloc HX5.out.size _) (heap_alloc_new w5 _)) ?_
  rintro e w6 ⟨⟨o, rfl, HO⟩, b6⟩
  have HX6 : Hid (Below X.heap.size X w6) := (HX5.out.alloc HX5.out.size _).trans (b6.mono (by have := HX5.out.size; simp only [alloc_size]; omega))
  clear b6
  go_wp2_with fail
  refine Calls.mono (sameIntsM_any _ _ 1 1 1 1 [-1] [-1] _ (HO.out.later ((Below.refl _ w6).alloc (Nat.le_refl _) _)) (rdI1M (heap_alloc_new w6 _))) ?_
  rintro e w7 ⟨rfl, b7⟩
  have HX7 : Hid (Below X.heap.size X w7) := (HX6.out.alloc HX6.out.size _).trans (b7.mono (by have := HX6.out.size; simp only [alloc_size]; omega))
  clear b7
  go_wp2_with fail
  go_ret
  exact ⟨by kernel_rfl, HX.out.1.trans (HX7.out.mono HX.out.1.size)⟩
end Go.Proofs.Ytaloaholmhcflaa

namespace Go.Proofs.Ytaloaholmhcflaa
open Go.RowKit Go.Shelf
set_option linter.unusedVariables false
set_option linter.unusedSimpArgs false
theorem owns_monoJ {w : World} {E : TypeId} {base b size n : Nat} {v : Value} {xs : List Value} (h : w.ownsRow base E size v n xs) (hb : b ≤ base) : w.ownsRow b E size v n xs := by
  refine ⟨h.1, ?_⟩
  rcases h.2 with h2 | ⟨g, cap, cur, hv, hg, r⟩
  · exact .inl h2
  · exact .inr ⟨g, cap, cur, hv, Nat.le_trans hb hg, r⟩
end Go.Proofs.Ytaloaholmhcflaa

namespace Go.Proofs.Ytaloaholmhcflaa
open Go.RowKit Go.Shelf
set_option linter.unusedVariables false
set_option linter.unusedSimpArgs false
/-- append(s, x...) onto a row in a block of its own, elements of any size: where the answer lies. -/
theorem append_gsJ {SE E : TypeId} {z : Value} {size bytes : Nat} (hu : Try.prog.underlying SE = some (.slice E)) (hinfo : (Try.prog.info? E).map (fun i => (i.zero, i.size, i.bytes)) = some (some z, size, bytes)) (hzc : z.cells.size = size) (hsz : 0 < size) (hby : bytes ≤ 64)
    {ops : Array Oper} {rest : List Oper} {o : Oper} {a : Act} {Q : Exit → Act → World → Prop} (W : World) (hgd : o.guard = none) (s x : Operand) (ho : o.op = .call { callee := .builtin .append, args := #[s, x], argTypes := #[SE, SE] })
    (base : Nat) (v : Value) (n : Nat) (xs : List Value) (hs : a.eval s = v) (hown : W.ownsRow base E size v n xs)
    (ad : Addr) (m c : Nat) (news : List Value) (hx : a.eval x = .slice (some ad) m c) (hl : news.length = m * size) (hnews : ∀ j u, news[j]? = some u → W.cell? (ad.add j) = some u) (h1 : ∀ u ∈ news, u.oneCell' = true)
    (hlen : n + m ≤ 4000000) (hbase : base ≤ W.heap.size)
    (h : ∀ v' w', w'.ownsRow base E size v' (n + m) (xs ++ news) → Grw W w' v.ownBlock v'.ownBlock → wpList Try.prog ops Q rest (a.put o.dst v') w') : wpList Try.prog ops Q (o :: rest) a W := by
  obtain ⟨i0, hi, hz0, hz1, hz2⟩ := info3' hinfo
  have hb2 : (n + m) * bytes ≤ 140737488355328 := Nat.le_trans (Nat.mul_le_mul hlen hby) (by decide)
  have grow : ∀ (w' : World) (v' : Value), w'.ownsRow W.heap.size E size v' (n + m) (xs ++ news) → W.grownBy w' none → wpList Try.prog ops Q rest (a.put o.dst v') w' := by
    intro w' v' g1 g2
    exact h v' w' (owns_monoJ g1 hbase) ⟨⟨g2.os, g2.tape, g2.output, g2.size, fun k hk _ => g2.block k hk (by simp)⟩, .inr fun k hk => (World.ownsRow.lt g1 k hk).1⟩
  rcases hown.2 with ⟨rfl, h0⟩ | ⟨g, cap, cur, hv, hg, hh, k1, k2, k3, k4⟩
  · subst h0
    have hx0 : xs = [] := List.eq_nil_of_length_eq_zero (by simpa using hown.1)
    subst hx0
    by_cases hm : m = 0
    · subst hm
      have hn0 : news = [] := List.eq_nil_of_length_eq_zero (by simpa using hl)
      subst hn0
      refine wpList_append_own W hgd s x SE ho base E i0 z size bytes hu hi hz0 hz1 hz2 hzc hsz (.slice none 0 0) 0 [] hs hown ad 0 c [] hx (by simp) hnews h1 (by simp [maxLen]) (by simp) hbase ?_
      intro v' w' r1 r2 r3
      obtain rfl := r3.2 ⟨rfl, rfl⟩
      exact h _ w' r1 ⟨r2, .inl rfl⟩
    · refine wpList_append_grows W hgd s x SE ho E i0 z size bytes hu hi hz0 hz1 hz2 hzc hsz none 0 0 [] hs (fun _ => ⟨rfl, rfl⟩) (by simp) (fun b hb => by cases hb) ad m c news hx hl hnews h1 (by omega) (by simp only [maxLen]; omega) hb2 ?_
      intro v' w' r1 r2
      exact grow w' v' r1 r2
  · by_cases hr : n + m ≤ cap
    · subst hv
      refine wpList_append_fits W hgd s x SE ho base E i0 size hu hi hz1 g n cap xs hs hown ad m c news hx hl hnews h1 hr ?_
      intro w' r1 r2
      exact h _ w' r1 ⟨r2, .inl rfl⟩
    · refine wpList_append_grows W hgd s x SE ho E i0 z size bytes hu hi hz0 hz1 hz2 hzc hsz (some ⟨g, 0, none⟩) n cap xs (by rw [hs, hv]) (fun c => by cases c) hown.1 ?_ ad m c news hx hl hnews h1 (by omega) (by simp only [maxLen]; omega) hb2 ?_
      · intro b hb j u hj
        cases hb
        exact World.ownsRow.cells hown (by rw [hv]; rfl) j u hj
      · intro v' w' r1 r2
        exact grow w' v' r1 r2
/-- append(s, x...), x a slice that came in, nil perhaps. -/
theorem append_gnJ {SE E : TypeId} {z : Value} {size bytes : Nat} (hu : Try.prog.underlying SE = some (.slice E)) (hinfo : (Try.prog.info? E).map (fun i => (i.zero, i.size, i.bytes)) = some (some z, size, bytes)) (hzc : z.cells.size = size) (hsz : 0 < size) (hby : bytes ≤ 64)
    {ops : Array Oper} {rest : List Oper} {o : Oper} {a : Act} {Q : Exit → Act → World → Prop} (W : World) (hgd : o.guard = none) (s x : Operand) (ho : o.op = .call { callee := .builtin .append, args := #[s, x], argTypes := #[SE, SE] })
    (base : Nat) (v : Value) (n : Nat) (xs : List Value) (hs : a.eval s = v) (hown : W.ownsRow base E size v n xs)
    (xo : Option Addr) (m c : Nat) (news : List Value) (hx : a.eval x = .slice xo m c) (hnone : xo = none → m = 0 ∧ c = 0) (hl : news.length = m * size) (hnews : ∀ ad, xo = some ad → ∀ j u, news[j]? = some u → W.cell? (ad.add j) = some u) (h1 : ∀ u ∈ news, u.oneCell' = true)
    (hlen : n + m ≤ 4000000) (hbase : base ≤ W.heap.size)
    (h : ∀ v' w', w'.ownsRow base E size v' (n + m) (xs ++ news) → Grw W w' v.ownBlock v'.ownBlock → wpList Try.prog ops Q rest (a.put o.dst v') w') : wpList Try.prog ops Q (o :: rest) a W := by
  cases xo with
  | some ad => exact append_gsJ hu hinfo hzc hsz hby W hgd s x ho base v n xs hs hown ad m c news hx hl (hnews ad rfl) h1 hlen hbase h
  | none =>
    obtain ⟨rfl, rfl⟩ := hnone rfl
    obtain ⟨i0, hi, hz0, hz1, hz2⟩ := info3' hinfo
    have hn0 : news = [] := List.eq_nil_of_length_eq_zero (by simpa using hl)
    subst hn0
    refine wpList_append_own_none hgd s x SE ho base E i0 size hu hi v n xs hs hown hx (h v W (by rw [List.append_nil]; exact hown) ⟨⟨rfl, rfl, rfl, Nat.le_refl _, fun _ _ _ => rfl⟩, .inl rfl⟩)
end Go.Proofs.Ytaloaholmhcflaa

namespace Go.Proofs.Ytaloaholmhcflaa
open Go.RowKit Go.Shelf
set_option linter.unusedVariables false
set_option linter.unusedSimpArgs false
def uJ (us : List Nat) : List Value := us.map fun (u : Nat) => Value.int .u64 (u : Int)
theorem uJ_snoc (us : List Nat) (u : Nat) : uJ (us ++ [u]) = uJ us ++ [.int .u64 (u : Int)] := List.map_append
theorem uJ_at (us : List Nat) (j : Nat) (h : j < us.length) : (uJ us)[j]? = some (.int .u64 ((us[j]?.getD 0 : Nat) : Int)) := by
  unfold uJ
  rw [List.getElem?_map, List.getElem?_eq_getElem h]
  rfl
theorem Try.infoUJ : (Try.prog.info? 65).map (fun i => (i.zero, i.size, i.bytes)) = some (some (.int .u64 0), 1, 8) := by kernel_rfl
theorem Try.infoUsJ : (Try.prog.info? 30).map (fun i => (i.zero, i.size, i.bytes)) = some (some (.slice none 0 0), 1, 24) := by kernel_rfl
theorem Try.szUss : (Try.prog.info? 31).map (·.size) = some 1 := by kernel_rfl
theorem Try.infoZu : (Try.prog.info? 33).map (·.size) = some 6 := by kernel_rfl
theorem take_snocJ {us : List Nat} {k : Nat} (h : k < us.length) : us.take (k + 1) = us.take k ++ [us[k]?.getD 0] := by
  rw [List.take_succ_eq_append_getElem h, List.getElem?_eq_getElem h]; rfl
theorem oneI : ∀ (x : Value), x.oneCell' = true → ∀ u ∈ [x], u.oneCell' = true := by
  intro x hx u hu
  simp only [List.mem_cons, List.not_mem_nil, or_false] at hu
  subst hu
  exact hx
set_option maxRecDepth 100000 in
set_option maxHeartbeats 1000000 in
/-- The document's Bits. -/
theorem bits10_any (ao : Option Addr) (len cap : Nat) (us : List Nat) (w : World) (hr : RdF w ao len cap us) (hl : len ≤ 1050000) :
    Calls Try.prog 17 #[.slice ao len cap] w fun e w' => ∃ v, e = .returned v ∧ w'.ownsRow w.heap.size 65 1 v us.length (uJ us) ∧ Below w.heap.size w w' := by
  have HR : Hid _ := hr
  have HLN : Hid _ := hr.length
  clear hr
  go_enter Try.func17, Try.ntmps17
  go_wp2_with fail
  go_loopg [3, 4] len (fun g v u wx => ∃ (i : Nat), u = .int .i64 i ∧ i + g = len ∧ Hid (wx.ownsRow w.heap.size 65 1 v i (uJ (us.take i))) ∧ Hid (Below w.heap.size w wx))
  case atStart => exact ⟨0, rfl, by omega, World.ownsRow_nil _ _ _ _, Below.refl _ _⟩
  case round =>
    obtain ⟨i, rfl, hi, HO, HB⟩ := hrel
    have hsr := HB.out.size
    by_cases hlt : i < len
    · have hd : decide ((i : Int) < (len : Int)) = true := decide_eq_true (by omega)
      obtain ⟨g, rfl⟩ : ∃ g, gk = g + 1 := ⟨gk - 1, by omega⟩
      rcases (HR.out.later HB.out).cells with h0 | ⟨b, off, rfl, hc⟩
      · omega
      have g0 := hc i hlt
      have HTS : Hid _ := take_snocJ (us := us) (k := i) (by rw [HLN.out]; exact hlt)
      obtain ⟨x, hx⟩ : ∃ x, us[i]?.getD 0 = x := ⟨_, rfl⟩
      rw [hx] at g0 HTS
      have HIG : Hid _ := hi
      clear hc hi hx
      go_wp2_with (first
        | (go_at_call 33; refine Calls.mono (apiBits_any x _) ?_; rintro e w' ⟨rfl, hw⟩; rw [hw]; clear hw)
        | (at_builtin; refine append_gsJ Try.underlying30 Try.infoUJ rfl (by decide) (by decide) _ (by rfl) _ _ (by rfl) w.heap.size _ _ _ (by rfl) (World.ownsRow.alloc HO.out _) ⟨wr.heap.size, 0, none⟩ 1 1 [.int .u64 (x : Int)] (by rfl) rfl (news_oneJ (heap_alloc_new wr _)) (oneI _ rfl) (by omega) (by simp only [alloc_size]; omega) ?_; intro v5 w5 o5 g5))
      have B5 : Hid (Below w.heap.size w w5) := (HB.out.alloc hsr _).trans (g5.below (fun k hk => (World.ownsRow.lt HO.out k hk).1) (by simp only [alloc_size]; omega))
      have O5 : Hid _ := o5
      clear o5 g5
      go_roundg g
      case measure => omega
      case rel =>
        refine ⟨i + 1, by go_num, by have := HIG.out; omega, ?_, B5⟩
        unfold Hid
        rw [HTS.out, uJ_snoc]
        exact O5.out
    · have hd : decide ((i : Int) < (len : Int)) = false := decide_eq_false (by omega)
      have HO2 : Hid (wr.ownsRow w.heap.size 65 1 u3 us.length (uJ us)) := by
        have := HO.out
        rw [List.take_of_length_le (by rw [HLN.out]; omega), show i = us.length by rw [HLN.out]; omega] at this
        exact this
      go_wp2
      go_ret
      exact ⟨_, rfl, HO2.out, HB.out⟩
/-- What came in: nil lists have no room; nothing is longer than the bulk. -/
structure ZW (z : ZD) : Prop where
  c : z.co = none → z.cn = 0 ∧ z.cc = 0
  i : z.io = none → z.dn = 0 ∧ z.dc = 0
  r : z.ro = none → z.rn = 0 ∧ z.rc = 0
  col : ∀ k, k < z.gn → (z.gv k).1 = none → (z.gv k).2.1 = 0 ∧ (z.gv k).2.2 = 0
  cl : z.cn ≤ 1050000
  il : z.dn ≤ 1050000
  gl : z.gn ≤ 1050000
  rl : z.rn ≤ 1050000
  coll : ∀ k, k < z.gn → (z.gv k).2.1 ≤ 1050000
theorem rdI_news {w : World} {ao : Option Addr} {len cap : Nat} {is : List Int} (h : RdIs w ao len cap is) : ∀ ad, ao = some ad → ∀ j u, (is.map (Value.int .i64))[j]? = some u → w.cell? (ad.add j) = some u := by
  intro ad ha j u hj
  have hl : j < is.length := by have := (List.getElem?_eq_some_iff.1 hj).1; rw [List.length_map] at this; exact this
  rw [List.getElem?_map, List.getElem?_eq_getElem hl] at hj
  cases hj
  have hlen := h.length
  rcases h.cells with h0 | ⟨b, off, he, hc⟩
  · omega
  · rw [ha] at he
    cases he
    rw [Addr.add_mid]
    have := hc j (by omega)
    rw [List.getElem?_eq_getElem hl] at this
    exact this
theorem intJ_one (is : List Int) : ∀ u ∈ is.map (Value.int .i64), u.oneCell' = true := by
  intro u hu
  obtain ⟨x, _, rfl⟩ := List.mem_map.1 hu
  rfl
theorem rdU_of {w : World} {base : Nat} {v : Value} {us : List Nat} (h : w.ownsRow base 65 1 v us.length (uJ us)) : ∃ ao cap, v = .slice ao us.length cap ∧ RdUs w ao us.length cap us := by
  obtain ⟨ao, cap, rfl, hm, hc⟩ := owns_slice h
  refine ⟨ao, cap, rfl, rfl, hm, ?_⟩
  rcases hc with h0 | ⟨g, rfl, hc⟩
  · exact .inl h0
  · exact .inr ⟨g, 0, rfl, fun j hj => by rw [Nat.zero_add, hc j hj, uJ_at us j hj]⟩
/-- The lists of the document's zonotope, in memory of their own. -/
structure OfL (w : World) (base : Nat) (cs rs : List Nat) (ids : List Int) (gs : List (List Nat)) (vc vr vi vg : Value) (gl : List Value) : Prop where
  c : w.ownsRow base 65 1 vc cs.length (uJ cs)
  r : w.ownsRow base 65 1 vr rs.length (uJ rs)
  i : w.ownsRow base 3 1 vi ids.length (ids.map (Value.int .i64))
  g : w.ownsRow base 30 1 vg gl.length gl
  len : gl.length = gs.length
  col : ∀ (j : Nat) (u : Value), gl[j]? = some u → w.ownsRow base 65 1 u (gs[j]?.getD []).length (uJ (gs[j]?.getD []))
theorem OfL.keep {w w' : World} {base : Nat} {cs rs : List Nat} {ids : List Int} {gs : List (List Nat)} {vc vr vi vg : Value} {gl : List Value} (h : OfL w base cs rs ids gs vc vr vi vg gl) (hk : ∀ (k : Nat) (cur : Array Value) (t : TypeId), t ≠ 33 → w.heap[k]? = some (.cells cur t) → w'.heap[k]? = w.heap[k]?) : OfL w' base cs rs ids gs vc vr vi vg gl :=
  ⟨owns_keepT h.c fun k cur => hk k cur _ (by decide), owns_keepT h.r fun k cur => hk k cur _ (by decide), owns_keepT h.i fun k cur => hk k cur _ (by decide), owns_keepT h.g fun k cur => hk k cur _ (by decide), h.len, fun j u hj => owns_keepT (h.col j u hj) fun k cur => hk k cur _ (by decide)⟩
theorem OfL.later {w w' : World} {base : Nat} {cs rs : List Nat} {ids : List Int} {gs : List (List Nat)} {vc vr vi vg : Value} {gl : List Value} (h : OfL w base cs rs ids gs vc vr vi vg gl) (hb : Below w.heap.size w w') : OfL w' base cs rs ids gs vc vr vi vg gl :=
  ⟨owns_keepT h.c fun k cur hc => hb.block k (blk_lt hc), owns_keepT h.r fun k cur hc => hb.block k (blk_lt hc), owns_keepT h.i fun k cur hc => hb.block k (blk_lt hc), owns_keepT h.g fun k cur hc => hb.block k (blk_lt hc), h.len, fun j u hj => owns_keepT (h.col j u hj) fun k cur hc => hb.block k (blk_lt hc)⟩
theorem OfL.pushI {w w' : World} {base : Nat} {cs rs : List Nat} {ids : List Int} {gs : List (List Nat)} {vc vr vi vg vi' : Value} {gl : List Value} {is : List Int} (h : OfL w base cs rs ids gs vc vr vi vg gl) (hg : Grw w w' vi.ownBlock vi'.ownBlock)
    (ho : w'.ownsRow base 3 1 vi' is.length (is.map (Value.int .i64))) : OfL w' base cs rs is gs vc vr vi' vg gl := by
  have hk := grw_types h.i hg
  exact ⟨owns_keepT h.c fun k cur => hk k cur _ (by decide), owns_keepT h.r fun k cur => hk k cur _ (by decide), ho, owns_keepT h.g fun k cur => hk k cur _ (by decide), h.len, fun j u hj => owns_keepT (h.col j u hj) fun k cur => hk k cur _ (by decide)⟩
theorem OfL.pushG {w w' : World} {base : Nat} {cs rs us : List Nat} {ids : List Int} {gs : List (List Nat)} {vc vr vi vg vg' v : Value} {gl : List Value} (h : OfL w base cs rs ids gs vc vr vi vg gl) (hg : Grw w w' vg.ownBlock vg'.ownBlock)
    (ho : w'.ownsRow base 30 1 vg' (gl.length + 1) (gl ++ [v])) (hv : w.ownsRow base 65 1 v us.length (uJ us)) : OfL w' base cs rs ids (gs ++ [us]) vc vr vi vg' (gl ++ [v]) := by
  have hk := grw_types h.g hg
  refine ⟨owns_keepT h.c fun k cur => hk k cur _ (by decide), owns_keepT h.r fun k cur => hk k cur _ (by decide), owns_keepT h.i fun k cur => hk k cur _ (by decide), by simpa using ho, by simp [h.len], fun j u hj => ?_⟩
  by_cases e : j < gl.length
  · rw [List.getElem?_append_left e] at hj
    rw [List.getElem?_append_left (by rw [← h.len]; exact e)]
    exact owns_keepT (h.col j u hj) fun k cur => hk k cur _ (by decide)
  · have hl := (List.getElem?_eq_some_iff.1 hj).1
    have ej : j = gl.length := by simp at hl; omega
    subst ej
    rw [List.getElem?_append_right (Nat.le_refl _), Nat.sub_self, List.getElem?_cons_zero] at hj
    cases hj
    rw [List.getElem?_append_right (by rw [h.len]; exact Nat.le_refl _), h.len, Nat.sub_self, List.getElem?_cons_zero]
    exact owns_keepT hv fun k cur => hk k cur _ (by decide)
theorem OfL.zu {w : World} {base : Nat} {cs rs : List Nat} {ids : List Int} {gs : List (List Nat)} {vc vr vi vg : Value} {gl : List Value} (h : OfL w base cs rs ids gs vc vr vi vg gl) (N : Int) (bad : Bool) :
    ∃ u : ZD, (.agg #[.int .i64 N, vc, vi, vg, vr, .bool bad] : Value) = .agg (zRow u) ∧ ZU w u ∧ u.N = N ∧ u.bad = bad ∧ u.cs = cs ∧ u.rs = rs ∧ u.ids = ids ∧ u.gs = gs ∧ u.dn = ids.length ∧ u.gn = gs.length ∧ u.cn = cs.length ∧ u.rn = rs.length := by
  obtain ⟨co, cc, rfl, hc⟩ := rdU_of h.c
  obtain ⟨ro, rc, rfl, hr⟩ := rdU_of h.r
  obtain ⟨io, dc, rfl, hm1, h1⟩ := owns_slice h.i
  obtain ⟨go, gc, rfl, hm2, h2⟩ := owns_slice h.g
  have hx : ∀ j : Nat, ∃ p : Option Addr × Nat × Nat, j < gl.length → gl[j]? = some (.slice p.1 p.2.1 p.2.2) ∧ RdUs w p.1 p.2.1 p.2.2 (gs[j]?.getD []) := fun j => by
    by_cases hj : j < gl.length
    · obtain ⟨ao, cap, hv, hr⟩ := rdU_of (h.col j _ (List.getElem?_eq_getElem hj))
      exact ⟨(ao, _, cap), fun _ => ⟨by rw [List.getElem?_eq_getElem hj, hv], hr⟩⟩
    · exact ⟨(none, 0, 0), fun h => absurd h hj⟩
  have hln := h.len
  refine ⟨⟨N, co, cs.length, cc, io, ids.length, dc, go, gl.length, gc, ro, rs.length, rc, bad, cs, ids, fun j => Classical.choose (hx j), gs, rs⟩, rfl, ⟨hc, ⟨rfl, hm1, ?_⟩, ⟨hln.symm, hm2, ?_, fun j hj => (Classical.choose_spec (hx j) hj).2⟩, hr⟩, rfl, rfl, rfl, rfl, rfl, rfl, rfl, hln, rfl, rfl⟩
  · rcases h1 with h0 | ⟨g, rfl, hc⟩
    · exact .inl h0
    · refine .inr ⟨g, 0, rfl, fun j hj => ?_⟩
      dsimp only at hj ⊢
      rw [Nat.zero_add, hc j hj, List.getElem?_map, List.getElem?_eq_getElem hj]
      rfl
  · rcases h2 with h0 | ⟨g, rfl, hc⟩
    · exact .inl h0
    · refine .inr ⟨g, 0, rfl, fun j hj => ?_⟩
      rw [Nat.zero_add, hc j hj, (Classical.choose_spec (hx j) hj).1]
theorem allocUJ (w : World) : (Instr.alloc 33 true (.tuple #[])).run Try.prog w = .ok (.pointer (some ⟨w.heap.size, 0, none⟩)) (w.alloc (.cells #[.int .i64 0, .slice none 0 0, .slice none 0 0, .slice none 0 0, .slice none 0 0, .bool false] 33)) := by kernel_rfl
end Go.Proofs.Ytaloaholmhcflaa

namespace Go.Proofs.Ytaloaholmhcflaa
open Go.RowKit Go.Shelf
set_option linter.unusedVariables false
set_option linter.unusedSimpArgs false
theorem take_snocG {us : List (List Nat)} {k : Nat} (h : k < us.length) : us.take (k + 1) = us.take k ++ [us[k]?.getD []] := by
  rw [List.take_succ_eq_append_getElem h, List.getElem?_eq_getElem h]; rfl
theorem rdGs_at {w : World} {b off len cap : Nat} {gv : Nat → Option Addr × Nat × Nat} {gs : List (List Nat)} (h : RdGs w (some ⟨b, off, none⟩) len cap gv gs) {k : Nat} (hk : k < len) : w.cell? ⟨b, off + k, none⟩ = some (.slice (gv k).1 (gv k).2.1 (gv k).2.2) := by
  rcases h.cells with h0 | ⟨b', off', e, hc⟩
  · omega
  · cases e
    exact hc k hk
set_option maxRecDepth 100000 in
set_option maxHeartbeats 4000000 in
/-- The document's Of. -/
theorem of10_any (z : ZD) (w : World) (hz : ZR w z) (hw : ZW z) :
    Calls Try.prog 5 #[.agg (zRow z)] w fun e w' => ∃ u : ZD, e = .returned (.agg (zRow u)) ∧ ZU w' u ∧ u.N = z.N ∧ u.bad = z.bad ∧ u.cs = z.cs ∧ u.rs = z.rs ∧ u.ids = z.ids ∧ u.gs = z.gs ∧ u.dn = z.dn ∧ u.gn = z.gn ∧ u.cn = z.cn ∧ u.rn = z.rn ∧ Below w.heap.size w w' := by
  obtain ⟨N, co, cn, cc, io, dn, dc, go, gn, gc, ro, rn, rc, bad, cs, ids, gv, gs, rs⟩ := z
  have HC : Hid (∀ W', Below w.heap.size w W' → Calls Try.prog 17 #[.slice co cn cc] W' fun e w' => ∃ v, e = .returned v ∧ w'.ownsRow W'.heap.size 65 1 v cs.length (uJ cs) ∧ Below W'.heap.size W' w') := fun W' hb => bits10_any co cn cc cs W' (hz.later hb).c hw.cl
  have HR : Hid (∀ W', Below w.heap.size w W' → Calls Try.prog 17 #[.slice ro rn rc] W' fun e w' => ∃ v, e = .returned v ∧ w'.ownsRow W'.heap.size 65 1 v rs.length (uJ rs) ∧ Below W'.heap.size W' w') := fun W' hb => bits10_any ro rn rc rs W' (hz.later hb).r hw.rl
  have HG : Hid (∀ x, x < gn → ∀ W', Below w.heap.size w W' → Calls Try.prog 17 #[.slice (gv x).1 (gv x).2.1 (gv x).2.2] W' fun e w' => ∃ v, e = .returned v ∧ w'.ownsRow W'.heap.size 65 1 v (gs[x]?.getD []).length (uJ (gs[x]?.getD [])) ∧ Below W'.heap.size W' w') := fun x hx W' hb => bits10_any _ _ _ _ W' ((hz.later hb).g.each x hx) (hw.coll x hx)
  have HIR : Hid (∀ W', Below w.heap.size w W' → RdIs W' io dn dc ids) := fun W' hb => (hz.later hb).i
  have HGR : Hid (∀ W', Below w.heap.size w W' → RdGs W' go gn gc gv gs) := fun W' hb => (hz.later hb).g
  have HNI : Hid (io = none → dn = 0 ∧ dc = 0) := hw.i
  have HLN : Hid (ids.length = dn ∧ gs.length = gn) := ⟨hz.i.length, hz.g.length⟩
  have HLC : Hid (cs.length = cn ∧ rs.length = rn) := ⟨hz.c.length, hz.r.length⟩
  have hdl : dn ≤ 1050000 := hw.il
  have hgl : gn ≤ 1050000 := hw.gl
  clear hz hw
  have X0 : Below w.heap.size w ((w.alloc (.cells #[.int .i64 N, .slice co cn cc, .slice io dn dc, .slice go gn gc, .slice ro rn rc, .bool bad] 26)).alloc (.cells #[.int .i64 0, .slice none 0 0, .slice none 0 0, .slice none 0 0, .slice none 0 0, .bool false] 33)) := ((Below.refl _ w).alloc (Nat.le_refl _) _).alloc (by simp only [alloc_size]; omega) _
  have Y0 : ((w.alloc (.cells #[.int .i64 N, .slice co cn cc, .slice io dn dc, .slice go gn gc, .slice ro rn rc, .bool bad] 26)).alloc (.cells #[.int .i64 0, .slice none 0 0, .slice none 0 0, .slice none 0 0, .slice none 0 0, .bool false] 33)).heap[w.heap.size]? = some (.cells #[.int .i64 N, .slice co cn cc, .slice io dn dc, .slice go gn gc, .slice ro rn rc, .bool bad] 26) := alloc_kept (heap_alloc_new w _) _
  have Y1 : ((w.alloc (.cells #[.int .i64 N, .slice co cn cc, .slice io dn dc, .slice go gn gc, .slice ro rn rc, .bool bad] 26)).alloc (.cells #[.int .i64 0, .slice none 0 0, .slice none 0 0, .slice none 0 0, .slice none 0 0, .bool false] 33)).heap[w.heap.size + 1]? = some (.cells #[.int .i64 0, .slice none 0 0, .slice none 0 0, .slice none 0 0, .slice none 0 0, .bool false] 33) := heap_at _ _ (w.heap.size + 1) (by simp only [alloc_size])
  unfold zRow
  dsimp only
  go_enter Try.func5, Try.ntmps5
  go_upto_region 1 with fail
  obtain ⟨X, hX⟩ : ∃ X, ((w.alloc (.cells #[.int .i64 N, .slice co cn cc, .slice io dn dc, .slice go gn gc, .slice ro rn rc, .bool bad] 26)).alloc (.cells #[.int .i64 0, .slice none 0 0, .slice none 0 0, .slice none 0 0, .slice none 0 0, .bool false] 33)) = X := ⟨_, rfl⟩
  rw [hX] at X0 Y0 Y1 ⊢
  clear hX
  have HX : Hid (Below w.heap.size w X ∧ X.heap[w.heap.size]? = some (.cells #[.int .i64 N, .slice co cn cc, .slice io dn dc, .slice go gn gc, .slice ro rn rc, .bool bad] 26) ∧ X.heap[w.heap.size + 1]? = some (.cells #[.int .i64 0, .slice none 0 0, .slice none 0 0, .slice none 0 0, .slice none 0 0, .bool false] 33)) := ⟨X0, Y0, Y1⟩
  clear X0 Y0 Y1
  go_cut [3] (fun v wx => ∃ D vc vr, v = .pointer (some ⟨D, 0, none⟩) ∧ Hid (wx.heap[D]? = some (.cells #[.int .i64 N, vc, .slice none 0 0, .slice none 0 0, vr, .bool bad] 33)) ∧ Hid (OfL wx w.heap.size cs rs [] [] vc vr (.slice none 0 0) (.slice none 0 0) []) ∧ Hid (Below w.heap.size w wx) ∧ Hid (wx.heap[w.heap.size]? = some (.cells #[.int .i64 N, .slice co cn cc, .slice io dn dc, .slice go gn gc, .slice ro rn rc, .bool bad] 26) ∧ wx.heap[w.heap.size + 1]? = some (.cells #[.int .i64 0, .slice none 0 0, .slice none 0 0, .slice none 0 0, .slice none 0 0, .bool false] 33)) ∧ w.heap.size + 1 < D)
  case first =>
    have bX : Below X.heap.size X X.drew := (Below.refl _ _).drew
    refine wp_region_noPanic ?_
    refine wp_region_held_drew (S := (fun W' => Below X.heap.size X W')) (by kernel_rfl) bX (fun _ => ?_)
    refine takeH 5 (i := 0) (v := ?_) rfl rfl (by kernel_rfl) (by kernel_rfl) (by kernel_rfl) (fun _ _ _ h => h) (Or.inl ⟨by kernel_rfl, ?_⟩) bX ?_
    rotate_left
    · intro w' hSw; obtain ⟨c0, c1, c2, c3, c4, c5⟩ := cells6 ((hSw.block _ (blk_lt HX.out.2.1)).trans HX.out.2.1); go_simp; try with_reducible rfl
    try simp only [Act.put, List.setIfInBounds_toArray, List.set_cons_zero, List.set_cons_succ]
    refine takeH 6 (i := 1) (v := ?_) rfl rfl (by kernel_rfl) (by kernel_rfl) (by kernel_rfl) (fun _ _ _ h => h) (Or.inl ⟨by kernel_rfl, ?_⟩) bX ?_
    rotate_left
    · intro w' hSw; obtain ⟨c0, c1, c2, c3, c4, c5⟩ := cells6 ((hSw.block _ (blk_lt HX.out.2.1)).trans HX.out.2.1); go_simp; try with_reducible rfl
    try simp only [Act.put, List.setIfInBounds_toArray, List.set_cons_zero, List.set_cons_succ]
    refine takeH 7 (i := 2) (v := ?_) rfl rfl (by kernel_rfl) (by kernel_rfl) (by kernel_rfl) (fun _ _ _ h => h) (Or.inl ⟨by kernel_rfl, ?_⟩) bX ?_
    rotate_left
    · intro w' hSw; obtain ⟨c0, c1, c2, c3, c4, c5⟩ := cells6 ((hSw.block _ (blk_lt HX.out.2.1)).trans HX.out.2.1); go_simp; try with_reducible rfl
    try simp only [Act.put, List.setIfInBounds_toArray, List.set_cons_zero, List.set_cons_succ]
    refine takeH 8 (i := 3) (v := ?_) rfl rfl (by kernel_rfl) (by kernel_rfl) (by kernel_rfl) (fun _ _ _ h => h) (Or.inl ⟨by kernel_rfl, ?_⟩) bX ?_
    rotate_left
    · intro w' hSw; obtain ⟨c0, c1, c2, c3, c4, c5⟩ := cells6 ((hSw.block _ (blk_lt HX.out.2.1)).trans HX.out.2.1); go_simp; try with_reducible rfl
    try simp only [Act.put, List.setIfInBounds_toArray, List.set_cons_zero, List.set_cons_succ]
    refine takeH 10 (i := 5) (v := ?_) rfl rfl (by kernel_rfl) (by kernel_rfl) (by kernel_rfl) (fun _ _ _ h => h) (Or.inl ⟨by kernel_rfl, ?_⟩) bX ?_
    rotate_left
    · intro w' hSw; obtain ⟨c0, c1, c2, c3, c4, c5⟩ := cells6 ((hSw.block _ (blk_lt HX.out.2.1)).trans HX.out.2.1); go_simp; try with_reducible rfl
    try simp only [Act.put, List.setIfInBounds_toArray, List.set_cons_zero, List.set_cons_succ]
    refine takeH 11 (i := 6) (v := ?_) rfl rfl (by kernel_rfl) (by kernel_rfl) (by kernel_rfl) (fun _ _ _ h => h) (Or.inl ⟨by kernel_rfl, ?_⟩) bX ?_
    rotate_left
    · intro w' hSw; obtain ⟨c0, c1, c2, c3, c4, c5⟩ := cells6 ((hSw.block _ (blk_lt HX.out.2.1)).trans HX.out.2.1); go_simp; try with_reducible rfl
    try simp only [Act.put, List.setIfInBounds_toArray, List.set_cons_zero, List.set_cons_succ]
    refine takeH 13 (i := 8) (v := ?_) rfl rfl (by kernel_rfl) (by kernel_rfl) (by kernel_rfl) (fun _ _ _ h => h) (Or.inl ⟨by kernel_rfl, ?_⟩) bX ?_
    rotate_left
    · intro w' hSw; obtain ⟨c0, c1, c2, c3, c4, c5⟩ := cells6 ((hSw.block _ (blk_lt HX.out.2.1)).trans HX.out.2.1); go_simp; try with_reducible rfl
    try simp only [Act.put, List.setIfInBounds_toArray, List.set_cons_zero, List.set_cons_succ]
    refine takeH 14 (i := 9) (v := ?_) rfl rfl (by kernel_rfl) (by kernel_rfl) (by kernel_rfl) (fun _ _ _ h => h) (Or.inl ⟨by kernel_rfl, ?_⟩) bX ?_
    rotate_left
    · intro w' hSw; obtain ⟨c0, c1, c2, c3, c4, c5⟩ := cells6 ((hSw.block _ (blk_lt HX.out.2.1)).trans HX.out.2.1); go_simp; try with_reducible rfl
    try simp only [Act.put, List.setIfInBounds_toArray, List.set_cons_zero, List.set_cons_succ]
    obtain ⟨V, hV⟩ : ∃ V, X.drew = V := ⟨_, rfl⟩
    have bV : Below X.heap.size X V := hV ▸ bX
    rw [hV]
    clear hV bX
    refine wpAnyH_ready (rs := [4, 11]) (by kernel_rfl) (by simp) ?_
    refine consH _ rfl ?_ (consH _ rfl ?_ AllReadyH.nil)
    · refine hopCd 9 rfl (by kernel_rfl) rfl (by kernel_rfl) (Calls.mono (HC.out _ (HX.out.1.trans (bV.mono HX.out.1.size))) ?_)
      rintro e Vc ⟨vc, rfl, o1, hb⟩
      obtain ⟨avc, pvc, hvc, -⟩ := owns_slice o1
      subst hvc
      have bVc : Below X.heap.size X Vc := bV.trans (hb.mono bV.size)
      have ocVc := owns_monoJ o1 bV.size
      clear o1 hb
      refine ⟨_, rfl, bVc, ?_⟩
      try simp only [Act.put, List.setIfInBounds_toArray, List.set_cons_zero, List.set_cons_succ]
      refine wpAnyH_ready (rs := [7, 11]) (by kernel_rfl) (by simp) ?_
      refine consH _ rfl ?_ (consH _ rfl ?_ AllReadyH.nil)
      · refine hopCd 12 rfl (by kernel_rfl) rfl (by kernel_rfl) (Calls.mono (HR.out _ (HX.out.1.trans (bVc.mono HX.out.1.size))) ?_)
        rintro e Vcr ⟨vr, rfl, o1, hb⟩
        obtain ⟨avr, pvr, hvr, -⟩ := owns_slice o1
        subst hvr
        have bVcr : Below X.heap.size X Vcr := bVc.trans (hb.mono bVc.size)
        have ocVcr := owns_keepT ocVc fun k cur hc => hb.block k (blk_lt hc)
        have orVcr := owns_monoJ o1 bVc.size
        clear o1 hb
        refine ⟨_, rfl, bVcr, ?_⟩
        try simp only [Act.put, List.setIfInBounds_toArray, List.set_cons_zero, List.set_cons_succ]
        refine takeH 15 (i := 10) (v := .agg #[.int .i64 N, (.slice avc cs.length pvc), .slice none 0 0, .slice none 0 0, (.slice avr rs.length pvr), .bool bad]) rfl rfl (by kernel_rfl) (by kernel_rfl) (by kernel_rfl) (fun _ _ _ h => h) (Or.inl ⟨by kernel_rfl, fun w' _ => by kernel_rfl⟩) bVcr ?_
        try simp only [Act.put, List.setIfInBounds_toArray, List.set_cons_zero, List.set_cons_succ]
        refine wpAnyH_ready (rs := [11]) (by kernel_rfl) (by simp) ?_
        refine consH _ rfl ?_ AllReadyH.nil
        · refine hopAJ 3 rfl rfl rfl 33 rfl #[.int .i64 0, .slice none 0 0, .slice none 0 0, .slice none 0 0, .slice none 0 0, .bool false] allocUJ fun D Vcra hDVcra hDl hb => ?_
          have bVcra : Below X.heap.size X Vcra := bVcr.trans (hb.mono bVcr.size)
          have hDX : X.heap.size ≤ D := Nat.le_trans bVcr.size hDl
          have ocVcra := owns_keepT ocVcr fun k cur hc => hb.block k (blk_lt hc)
          have orVcra := owns_keepT orVcr fun k cur hc => hb.block k (blk_lt hc)
          refine ⟨bVcra, ?_⟩
          try simp only [Act.put, List.setIfInBounds_toArray, List.set_cons_zero, List.set_cons_succ]
          refine wpAnyH_ready (rs := [12]) (by kernel_rfl) (by simp) ?_
          refine consH _ rfl (hopL rfl (wpList_store_row (by rfl) 33 _ _ (by rfl) X X.heap.size D #[.int .i64 N, (.slice avc cs.length pvc), .slice none 0 0, .slice none 0 0, (.slice avr rs.length pvr), .bool bad] _ (by kernel_rfl) (by kernel_rfl) hDVcra bVcra hDX 6 Try.infoZu (by rfl) (by rfl) (oneZ _ _ _ _ _ (own_valJ ocVcra).1 rfl rfl (own_valJ orVcra).1 _) fun W9 e9 b9 hs9 ho9 => ?_)) AllReadyH.nil
          refine (And.intro b9 ?_ : _ ∧ _)
          try simp only [Act.put, List.setIfInBounds_toArray, List.set_cons_zero, List.set_cons_succ]
          refine wpAnyH_done (by kernel_rfl) ?_ _
          refine NoPanic.normal ?_
          try simp only [Act.put, List.setIfInBounds_toArray, List.set_cons_zero, List.set_cons_succ]
          go_wp2_with fail
          go_meet
          have hk9 : ∀ (k : Nat) (cur : Array Value), Vcra.heap[k]? = some (.cells cur 65) → W9.heap[k]? = Vcra.heap[k]? := fun k cur hc => ho9 k (by rintro rfl; rw [hDVcra] at hc; cases hc)
          exact ⟨D, .slice avc cs.length pvc, .slice avr rs.length pvr, rfl, e9, ⟨owns_monoJ (owns_keepT ocVcra hk9) HX.out.1.size, owns_monoJ (owns_keepT orVcra hk9) HX.out.1.size, World.ownsRow_nil _ _ _ _, World.ownsRow_nil _ _ _ _, rfl, fun j u hj => (by simp at hj)⟩, HX.out.1.trans (b9.mono HX.out.1.size), ⟨(b9.block _ (blk_lt HX.out.2.1)).trans HX.out.2.1, (b9.block _ (blk_lt HX.out.2.2)).trans HX.out.2.2⟩, Nat.lt_of_lt_of_le (blk_lt HX.out.2.2) hDX⟩
      · refine hopAJ 3 rfl rfl rfl 33 rfl #[.int .i64 0, .slice none 0 0, .slice none 0 0, .slice none 0 0, .slice none 0 0, .bool false] allocUJ fun D Vca hDVca hDl hb => ?_
        have bVca : Below X.heap.size X Vca := bVc.trans (hb.mono bVc.size)
        have hDX : X.heap.size ≤ D := Nat.le_trans bVc.size hDl
        have ocVca := owns_keepT ocVc fun k cur hc => hb.block k (blk_lt hc)
        refine ⟨bVca, ?_⟩
        try simp only [Act.put, List.setIfInBounds_toArray, List.set_cons_zero, List.set_cons_succ]
        refine wpAnyH_ready (rs := [7]) (by kernel_rfl) (by simp) ?_
        refine consH _ rfl ?_ AllReadyH.nil
        · refine hopCd 12 rfl (by kernel_rfl) rfl (by kernel_rfl) (Calls.mono (HR.out _ (HX.out.1.trans (bVca.mono HX.out.1.size))) ?_)
          rintro e Vcar ⟨vr, rfl, o1, hb⟩
          obtain ⟨avr, pvr, hvr, -⟩ := owns_slice o1
          subst hvr
          have bVcar : Below X.heap.size X Vcar := bVca.trans (hb.mono bVca.size)
          have ocVcar := owns_keepT ocVca fun k cur hc => hb.block k (blk_lt hc)
          have hDVcar := kept hb hDVca
          have orVcar := owns_monoJ o1 bVca.size
          clear o1 hb
          refine ⟨_, rfl, bVcar, ?_⟩
          try simp only [Act.put, List.setIfInBounds_toArray, List.set_cons_zero, List.set_cons_succ]
          refine takeH 15 (i := 10) (v := .agg #[.int .i64 N, (.slice avc cs.length pvc), .slice none 0 0, .slice none 0 0, (.slice avr rs.length pvr), .bool bad]) rfl rfl (by kernel_rfl) (by kernel_rfl) (by kernel_rfl) (fun _ _ _ h => h) (Or.inl ⟨by kernel_rfl, fun w' _ => by kernel_rfl⟩) bVcar ?_
          try simp only [Act.put, List.setIfInBounds_toArray, List.set_cons_zero, List.set_cons_succ]
          refine wpAnyH_ready (rs := [12]) (by kernel_rfl) (by simp) ?_
          refine consH _ rfl (hopL rfl (wpList_store_row (by rfl) 33 _ _ (by rfl) X X.heap.size D #[.int .i64 N, (.slice avc cs.length pvc), .slice none 0 0, .slice none 0 0, (.slice avr rs.length pvr), .bool bad] _ (by kernel_rfl) (by kernel_rfl) hDVcar bVcar hDX 6 Try.infoZu (by rfl) (by rfl) (oneZ _ _ _ _ _ (own_valJ ocVcar).1 rfl rfl (own_valJ orVcar).1 _) fun W9 e9 b9 hs9 ho9 => ?_)) AllReadyH.nil
          refine (And.intro b9 ?_ : _ ∧ _)
          try simp only [Act.put, List.setIfInBounds_toArray, List.set_cons_zero, List.set_cons_succ]
          refine wpAnyH_done (by kernel_rfl) ?_ _
          refine NoPanic.normal ?_
          try simp only [Act.put, List.setIfInBounds_toArray, List.set_cons_zero, List.set_cons_succ]
          go_wp2_with fail
          go_meet
          have hk9 : ∀ (k : Nat) (cur : Array Value), Vcar.heap[k]? = some (.cells cur 65) → W9.heap[k]? = Vcar.heap[k]? := fun k cur hc => ho9 k (by rintro rfl; rw [hDVcar] at hc; cases hc)
          exact ⟨D, .slice avc cs.length pvc, .slice avr rs.length pvr, rfl, e9, ⟨owns_monoJ (owns_keepT ocVcar hk9) HX.out.1.size, owns_monoJ (owns_keepT orVcar hk9) HX.out.1.size, World.ownsRow_nil _ _ _ _, World.ownsRow_nil _ _ _ _, rfl, fun j u hj => (by simp at hj)⟩, HX.out.1.trans (b9.mono HX.out.1.size), ⟨(b9.block _ (blk_lt HX.out.2.1)).trans HX.out.2.1, (b9.block _ (blk_lt HX.out.2.2)).trans HX.out.2.2⟩, Nat.lt_of_lt_of_le (blk_lt HX.out.2.2) hDX⟩
    · refine hopAJ 3 rfl rfl rfl 33 rfl #[.int .i64 0, .slice none 0 0, .slice none 0 0, .slice none 0 0, .slice none 0 0, .bool false] allocUJ fun D Va hDVa hDl hb => ?_
      have bVa : Below X.heap.size X Va := bV.trans (hb.mono bV.size)
      have hDX : X.heap.size ≤ D := Nat.le_trans bV.size hDl
      refine ⟨bVa, ?_⟩
      try simp only [Act.put, List.setIfInBounds_toArray, List.set_cons_zero, List.set_cons_succ]
      refine wpAnyH_ready (rs := [4]) (by kernel_rfl) (by simp) ?_
      refine consH _ rfl ?_ AllReadyH.nil
      · refine hopCd 9 rfl (by kernel_rfl) rfl (by kernel_rfl) (Calls.mono (HC.out _ (HX.out.1.trans (bVa.mono HX.out.1.size))) ?_)
        rintro e Vac ⟨vc, rfl, o1, hb⟩
        obtain ⟨avc, pvc, hvc, -⟩ := owns_slice o1
        subst hvc
        have bVac : Below X.heap.size X Vac := bVa.trans (hb.mono bVa.size)
        have hDVac := kept hb hDVa
        have ocVac := owns_monoJ o1 bVa.size
        clear o1 hb
        refine ⟨_, rfl, bVac, ?_⟩
        try simp only [Act.put, List.setIfInBounds_toArray, List.set_cons_zero, List.set_cons_succ]
        refine wpAnyH_ready (rs := [7]) (by kernel_rfl) (by simp) ?_
        refine consH _ rfl ?_ AllReadyH.nil
        · refine hopCd 12 rfl (by kernel_rfl) rfl (by kernel_rfl) (Calls.mono (HR.out _ (HX.out.1.trans (bVac.mono HX.out.1.size))) ?_)
          rintro e Vacr ⟨vr, rfl, o1, hb⟩
          obtain ⟨avr, pvr, hvr, -⟩ := owns_slice o1
          subst hvr
          have bVacr : Below X.heap.size X Vacr := bVac.trans (hb.mono bVac.size)
          have ocVacr := owns_keepT ocVac fun k cur hc => hb.block k (blk_lt hc)
          have hDVacr := kept hb hDVac
          have orVacr := owns_monoJ o1 bVac.size
          clear o1 hb
          refine ⟨_, rfl, bVacr, ?_⟩
          try simp only [Act.put, List.setIfInBounds_toArray, List.set_cons_zero, List.set_cons_succ]
          refine takeH 15 (i := 10) (v := .agg #[.int .i64 N, (.slice avc cs.length pvc), .slice none 0 0, .slice none 0 0, (.slice avr rs.length pvr), .bool bad]) rfl rfl (by kernel_rfl) (by kernel_rfl) (by kernel_rfl) (fun _ _ _ h => h) (Or.inl ⟨by kernel_rfl, fun w' _ => by kernel_rfl⟩) bVacr ?_
          try simp only [Act.put, List.setIfInBounds_toArray, List.set_cons_zero, List.set_cons_succ]
          refine wpAnyH_ready (rs := [12]) (by kernel_rfl) (by simp) ?_
          refine consH _ rfl (hopL rfl (wpList_store_row (by rfl) 33 _ _ (by rfl) X X.heap.size D #[.int .i64 N, (.slice avc cs.length pvc), .slice none 0 0, .slice none 0 0, (.slice avr rs.length pvr), .bool bad] _ (by kernel_rfl) (by kernel_rfl) hDVacr bVacr hDX 6 Try.infoZu (by rfl) (by rfl) (oneZ _ _ _ _ _ (own_valJ ocVacr).1 rfl rfl (own_valJ orVacr).1 _) fun W9 e9 b9 hs9 ho9 => ?_)) AllReadyH.nil
          refine (And.intro b9 ?_ : _ ∧ _)
          try simp only [Act.put, List.setIfInBounds_toArray, List.set_cons_zero, List.set_cons_succ]
          refine wpAnyH_done (by kernel_rfl) ?_ _
          refine NoPanic.normal ?_
          try simp only [Act.put, List.setIfInBounds_toArray, List.set_cons_zero, List.set_cons_succ]
          go_wp2_with fail
          go_meet
          have hk9 : ∀ (k : Nat) (cur : Array Value), Vacr.heap[k]? = some (.cells cur 65) → W9.heap[k]? = Vacr.heap[k]? := fun k cur hc => ho9 k (by rintro rfl; rw [hDVacr] at hc; cases hc)
          exact ⟨D, .slice avc cs.length pvc, .slice avr rs.length pvr, rfl, e9, ⟨owns_monoJ (owns_keepT ocVacr hk9) HX.out.1.size, owns_monoJ (owns_keepT orVacr hk9) HX.out.1.size, World.ownsRow_nil _ _ _ _, World.ownsRow_nil _ _ _ _, rfl, fun j u hj => (by simp at hj)⟩, HX.out.1.trans (b9.mono HX.out.1.size), ⟨(b9.block _ (blk_lt HX.out.2.1)).trans HX.out.2.1, (b9.block _ (blk_lt HX.out.2.2)).trans HX.out.2.2⟩, Nat.lt_of_lt_of_le (blk_lt HX.out.2.2) hDX⟩
  case rest =>
  obtain ⟨D, vc, vr, rfl, ED, EL, EB, EK, hDl'⟩ := hcut
  have hDl : w.heap.size ≤ D := by omega
  have hDz : w.heap.size ≠ D := by omega
  have hD1 : w.heap.size + 1 ≠ D := by omega
  clear HX HC HR
  obtain ⟨d0, d1, d2, d3, d4, d5⟩ := cells6 ED.out
  obtain ⟨z0, z1, z2, z3, z4, z5⟩ := cells6 EK.out.1
  go_upto_region 3 with (first
    | (at_builtin; refine append_gnJ Try.underlying23 Try.infoIJ rfl (by decide) (by decide) wc (by rfl) _ _ (by rfl) w.heap.size (.slice none 0 0) 0 [] (by rfl) (World.ownsRow_nil _ _ _ _) io dn dc (ids.map (Value.int .i64)) (by rfl) HNI.out (by rw [List.length_map, HLN.out.1]; omega) (rdI_news (HIR.out _ EB.out)) (intJ_one ids) (by omega) EB.out.size ?_; intro vi w1 o1 g1; rw [List.nil_append, Nat.zero_add, ← HLN.out.1] at o1; have s1D : w1.heap[D]? = _ := (g1.by'.block D (blk_lt ED.out) (by intro e; cases e)).trans ED.out; have q1 : Below w.heap.size w w1 := EB.out.trans (g1.below (fun k hk => by cases hk) EB.out.size))
    | (refine wpList_store_at (by rfl) 23 _ _ (by rfl) w w.heap.size D 2 vi _ #[.int .i64 N, vc, vi, .slice none 0 0, vr, .bool bad] 33 (by rfl) (by rfl) s1D q1 hDl 1 Try.szIs (by rw [(own_valJ o1).2]; rfl) (Nat.le_of_ble_eq_true rfl) (by intro u hu; rw [(own_valJ o1).2] at hu; simp only [List.mem_cons, List.not_mem_nil, or_false] at hu; subst hu; exact (own_valJ o1).1) (by rw [(own_valJ o1).2]; rfl) ?_; intro w2 e2 b2 s2 k2))
  have L2 : OfL w2 w.heap.size cs rs ids [] vc vr vi (.slice none 0 0) [] := (EL.out.pushI (vi' := vi) g1 o1).keep fun k cur t ht hc => k2 k (by rintro rfl; rw [s1D] at hc; cases hc; exact ht rfl)
  have Z2 : w2.heap[w.heap.size]? = some (.cells #[.int .i64 N, .slice co cn cc, .slice io dn dc, .slice go gn gc, .slice ro rn rc, .bool bad] 26) := (k2 _ hDz).trans ((g1.by'.block _ (blk_lt EK.out.1) (by intro e; cases e)).trans EK.out.1)
  have R2 : w2.heap[w.heap.size + 1]? = some (.cells #[.int .i64 0, .slice none 0 0, .slice none 0 0, .slice none 0 0, .slice none 0 0, .bool false] 33) := (k2 _ hD1).trans ((g1.by'.block _ (blk_lt EK.out.2) (by intro e; cases e)).trans EK.out.2)
  have H2 : Hid _ := And.intro e2 (And.intro L2 (And.intro b2 (And.intro Z2 R2)))
  clear e2 L2 b2 Z2 R2 s2 k2 o1 g1 s1D q1 ED EL EB EK d0 d1 d2 d3 d4 d5 z0 z1 z2 z3 z4 z5 HIR HNI
  go_wp2_with fail
  go_loopg [4] gn (fun g u wx => ∃ (k : Nat) (vg : Value) (gl : List Value), u = .int .i64 k ∧ k + g = gn ∧ Hid (OfL wx w.heap.size cs rs ids (gs.take k) vc vr vi vg gl) ∧ Hid (wx.heap[D]? = some (.cells #[.int .i64 N, vc, vi, vg, vr, .bool bad] 33)) ∧ Hid (Below w.heap.size w wx) ∧ Hid (wx.heap[w.heap.size]? = some (.cells #[.int .i64 N, .slice co cn cc, .slice io dn dc, .slice go gn gc, .slice ro rn rc, .bool bad] 26) ∧ wx.heap[w.heap.size + 1]? = some (.cells #[.int .i64 0, .slice none 0 0, .slice none 0 0, .slice none 0 0, .slice none 0 0, .bool false] 33)))
  case atStart =>
    obtain ⟨e2, L2, b2, z2, r2⟩ := H2.out
    exact ⟨0, _, [], rfl, by omega, L2, e2, b2, ⟨z2, r2⟩⟩
  case round =>
    obtain ⟨k, vg, gl, rfl, hk, HL, HD, HB, HK⟩ := hrel
    clear H2
    obtain ⟨z0, z1, z2, z3, z4, z5⟩ := cells6 HK.out.1
    by_cases hlt : k < gn
    · have hd : decide ((k : Int) < (gn : Int)) = true := decide_eq_true (by omega)
      obtain ⟨g, rfl⟩ : ∃ g, gk = g + 1 := ⟨gk - 1, by omega⟩
      have HIG : Hid _ := hk
      obtain ⟨gb, goff, rfl⟩ : ∃ gb goff, go = some ⟨gb, goff, none⟩ := by
        rcases (HGR.out wr HB.out).cells with h0 | ⟨b, off, e, _⟩
        · omega
        · exact ⟨b, off, e⟩
      go_upto_region 6 with fail
      have HLG : Hid (gl.length + 1 ≤ 4000000) := by unfold Hid; have := HL.out.len; rw [List.length_take] at this; omega
      have sV : wr.drew.heap[D]? = some (.cells #[.int .i64 N, vc, vi, vg, vr, .bool bad] 33) ∧ wr.drew.heap[w.heap.size]? = some (.cells #[.int .i64 N, .slice co cn cc, .slice io dn dc, .slice (some ⟨gb, goff, none⟩) gn gc, .slice ro rn rc, .bool bad] 26) ∧ RdGs wr.drew (some ⟨gb, goff, none⟩) gn gc gv gs := ⟨HD.out, HK.out.1, HGR.out _ HB.out.drew⟩
      have rV : wr.drew.heap[w.heap.size + 1]? = some (.cells #[.int .i64 0, .slice none 0 0, .slice none 0 0, .slice none 0 0, .slice none 0 0, .bool false] 33) := HK.out.2
      have LV := HL.out.keep (w' := wr.drew) fun _ _ _ _ _ => rfl
      have qV : Below w.heap.size w wr.drew := HB.out.drew
      clear z0 z1 z2 z3 z4 z5 hk
      refine wp_region_noPanic ?_
      refine wp_region_P (fun V => V.heap[D]? = some (.cells #[.int .i64 N, vc, vi, vg, vr, .bool bad] 33) ∧ V.heap[w.heap.size]? = some (.cells #[.int .i64 N, .slice co cn cc, .slice io dn dc, .slice (some ⟨gb, goff, none⟩) gn gc, .slice ro rn rc, .bool bad] 26) ∧ RdGs V (some ⟨gb, goff, none⟩) gn gc gv gs) 11 (by kernel_rfl) ?_
      refine takeP0 29 (i := 0) (v := ?_) rfl rfl (by kernel_rfl) (by kernel_rfl) (by kernel_rfl) rfl (fun _ _ _ h => h) (Or.inl ⟨by kernel_rfl, ?_⟩) (fun _ => sV) ?_
      rotate_left
      · intro w' hSw; go_simp; try with_reducible rfl
      try simp only [Act.put, List.setIfInBounds_toArray, List.set_cons_zero, List.set_cons_succ]
      refine takeP 30 (i := 1) (v := ?_) rfl rfl (by kernel_rfl) (by kernel_rfl) (by kernel_rfl) (by kernel_rfl) rfl (by kernel_rfl) (fun _ _ _ h => h) (Or.inl ⟨by kernel_rfl, ?_⟩) sV ?_
      rotate_left
      · intro w' hSw; obtain ⟨c0, c1, c2, c3, c4, c5⟩ := cells6 hSw.1; obtain ⟨z0, z1, z2, z3, z4, z5⟩ := cells6 hSw.2.1; go_simp; try with_reducible rfl
      try simp only [Act.put, List.setIfInBounds_toArray, List.set_cons_zero, List.set_cons_succ]
      refine takeP0 31 (i := 2) (v := ?_) rfl rfl (by kernel_rfl) (by kernel_rfl) (by kernel_rfl) rfl (fun _ _ _ h => h) (Or.inl ⟨by kernel_rfl, ?_⟩) (fun _ => sV) ?_
      rotate_left
      · intro w' hSw; go_simp; try with_reducible rfl
      try simp only [Act.put, List.setIfInBounds_toArray, List.set_cons_zero, List.set_cons_succ]
      refine takeP 32 (i := 3) (v := ?_) rfl rfl (by kernel_rfl) (by kernel_rfl) (by kernel_rfl) (by kernel_rfl) rfl (by kernel_rfl) (fun _ _ _ h => h) (Or.inl ⟨by kernel_rfl, ?_⟩) sV ?_
      rotate_left
      · intro w' hSw; obtain ⟨c0, c1, c2, c3, c4, c5⟩ := cells6 hSw.1; obtain ⟨z0, z1, z2, z3, z4, z5⟩ := cells6 hSw.2.1; go_simp; try with_reducible rfl
      try simp only [Act.put, List.setIfInBounds_toArray, List.set_cons_zero, List.set_cons_succ]
      refine takeP0 33 (i := 4) (v := ?_) rfl rfl (by kernel_rfl) (by kernel_rfl) (by kernel_rfl) rfl (fun _ _ _ h => h) (Or.inl ⟨by kernel_rfl, ?_⟩) (fun _ => sV) ?_
      rotate_left
      · intro w' hSw; go_simp; try with_reducible rfl
      try simp only [Act.put, List.setIfInBounds_toArray, List.set_cons_zero, List.set_cons_succ]
      refine takeP0 34 (i := 5) (v := ?_) rfl rfl (by kernel_rfl) (by kernel_rfl) (by kernel_rfl) rfl (fun _ _ _ h => h) (Or.inl ⟨by kernel_rfl, ?_⟩) (fun _ => sV) ?_
      rotate_left
      · intro w' hSw; go_simp; try with_reducible rfl
      try simp only [Act.put, List.setIfInBounds_toArray, List.set_cons_zero, List.set_cons_succ]
      refine takeP 35 (i := 6) (v := ?_) rfl rfl (by kernel_rfl) (by kernel_rfl) (by kernel_rfl) (by kernel_rfl) rfl (by kernel_rfl) (fun _ _ _ h => h) (Or.inl ⟨by kernel_rfl, ?_⟩) sV ?_
      rotate_left
      · intro w' hSw; have q0 := rdGs_at hSw.2.2 hlt; go_simp; try with_reducible rfl
      try simp only [Act.put, List.setIfInBounds_toArray, List.set_cons_zero, List.set_cons_succ]
      refine wpAnyP_ready (rs := [7]) (by kernel_rfl) (by simp) ?_
      refine consP _ rfl (hopCd 36 rfl (by kernel_rfl) rfl (by kernel_rfl) (Calls.mono (HG.out k hlt _ qV) ?_)) AllReadyP.nil
      rintro e V1 ⟨v1, rfl, o1, b1⟩
      obtain ⟨a1, cp1, hv1, -⟩ := owns_slice o1
      subst hv1
      have s1 := And.intro (kept b1 sV.1) (And.intro (kept b1 sV.2.1) (sV.2.2.later b1))
      have L1 := LV.later b1
      have o1' := owns_monoJ o1 qV.size
      have q1 := qV.trans (b1.mono qV.size)
      refine ⟨_, rfl, s1, ?_⟩
      try simp only [Act.put, List.setIfInBounds_toArray, List.set_cons_zero, List.set_cons_succ]
      refine wpAnyP_ready (rs := [8]) (by kernel_rfl) (by simp) ?_
      refine consP _ rfl (hopBJ 37 (Value.slice a1 (gs[k]?.getD []).length cp1) 30 rfl rfl rfl (by kernel_rfl) fun I V2 hI b2 => ?_) AllReadyP.nil
      have s2 := And.intro (kept b2 s1.1) (And.intro (kept b2 s1.2.1) (s1.2.2.later b2))
      have L2 := L1.later b2
      have o2 := owns_keepT o1' fun k cur hc => b2.block k (blk_lt hc)
      have q2 := q1.trans (b2.mono q1.size)
      refine ⟨s2, ?_⟩
      try simp only [Act.put, List.setIfInBounds_toArray, List.set_cons_zero, List.set_cons_succ]
      refine wpAnyP_ready (rs := [9]) (by kernel_rfl) (by simp) ?_
      refine consP _ rfl (hopL rfl (append_gsJ Try.underlying31 Try.infoUsJ rfl (by decide) (by decide) V2 (by rfl) _ _ (by rfl) w.heap.size vg _ _ (by kernel_rfl) L2.g ⟨I, 0, none⟩ 1 1 [(Value.slice a1 (gs[k]?.getD []).length cp1)] (by kernel_rfl) rfl (news_oneJ hI) (oneI _ (own_valJ o2).1) HLG.out q2.size fun v6 w6 o6 g6 => ?_)) AllReadyP.nil
      change QK _ _ Exit.normal (Act.put _ (some 38) v6) w6
      have q6 := q2.trans (g6.below (fun k hk => (World.ownsRow.lt L2.g k hk).1) q2.size)
      have s6D := (grw_types L2.g g6 D _ _ (by decide) s2.1).trans s2.1
      have s6Z := (grw_types L2.g g6 _ _ _ (by decide) s2.2.1).trans s2.2.1
      have s6R : w6.heap[w.heap.size + 1]? = _ := (grw_types L2.g g6 _ _ _ (by decide) (kept b2 (kept b1 rV))).trans (kept b2 (kept b1 rV))
      have s6G := HGR.out w6 q6
      have L6 := L2.pushG g6 o6 o2
      refine (And.intro (And.intro s6D (And.intro s6Z s6G)) ?_ : _ ∧ _)
      try simp only [Act.put, List.setIfInBounds_toArray, List.set_cons_zero, List.set_cons_succ]
      clear g6
      refine takeP0 39 (i := 10) (v := ?_) rfl rfl (by kernel_rfl) (by kernel_rfl) (by kernel_rfl) rfl (fun _ _ _ h => h) (Or.inl ⟨by kernel_rfl, ?_⟩) (fun _ => And.intro s6D (And.intro s6Z s6G)) ?_
      rotate_left
      · intro w' hSw; go_simp; try with_reducible rfl
      try simp only [Act.put, List.setIfInBounds_toArray, List.set_cons_zero, List.set_cons_succ]
      refine wpAnyP_ready (rs := [11]) (by kernel_rfl) (by simp) ?_
      refine consPs _ rfl (by kernel_rfl) (hopL rfl (wpList_store_at (by rfl) 31 _ _ (by rfl) w w.heap.size D 3 v6 _ #[.int .i64 N, vc, vi, v6, vr, .bool bad] 33 (by kernel_rfl) (by kernel_rfl) s6D q6 hDl 1 Try.szUss (by rw [(own_valJ L6.g).2]; rfl) (Nat.le_of_ble_eq_true rfl) (by intro u hu; rw [(own_valJ L6.g).2] at hu; simp only [List.mem_cons, List.not_mem_nil, or_false] at hu; subst hu; exact (own_valJ L6.g).1) (by rw [(own_valJ L6.g).2]; rfl) fun w8 e8 b8 s8 k8 => ?_)) AllReadyP.nil
      refine (And.intro trivial ?_ : _ ∧ _)
      try simp only [Act.put, List.setIfInBounds_toArray, List.set_cons_zero, List.set_cons_succ]
      refine wpAnyP_done (by kernel_rfl) ?_ _
      refine NoPanic.normal ?_
      try simp only [Act.put, List.setIfInBounds_toArray, List.set_cons_zero, List.set_cons_succ]
      have L8 := L6.keep (w' := w8) fun k cur t ht hc => k8 k (by rintro rfl; rw [s6D] at hc; cases hc; exact ht rfl)
      have E8 : Hid _ := And.intro e8 (And.intro L8 (And.intro b8 (And.intro ((k8 _ hDz).trans s6Z) ((k8 _ hD1).trans s6R))))
      clear s6D s6Z s6R s6G L6 q6 e8 b8 s8 k8 L8 o6 o2 o1 o1' L1 L2 q1 q2 b1 b2 hI s1 s2 sV LV qV rV
      go_wp2_with fail
      go_roundg g
      case measure => omega
      case rel =>
        obtain ⟨e8, L8, b8, z8, r8⟩ := E8.out
        refine ⟨k + 1, v6, gl ++ [(Value.slice a1 (gs[k]?.getD []).length cp1)], by go_num, by have := HIG.out; omega, ?_, e8, b8, ⟨z8, r8⟩⟩
        unfold Hid
        rw [take_snocG (by rw [HLN.out.2]; exact hlt)]
        exact L8
    · have hd : decide ((k : Int) < (gn : Int)) = false := decide_eq_false (by omega)
      obtain rfl : k = gn := by omega
      have L9 := HL.out
      rw [List.take_of_length_le (by rw [HLN.out.2]; exact Nat.le_refl _)] at L9
      have HL9 : Hid _ := L9
      clear L9
      go_wp2_with (first
        | (refine wpList_load_row (by rfl) 33 _ (by rfl) D _ (by rfl) HD.out _ Try.underlying33 rfl 6 Try.infoZu (by rfl) ?_)
        | (refine wpList_store_row (by rfl) 33 _ _ (by rfl) w w.heap.size (w.heap.size + 1) _ _ (by rfl) (by rfl) HK.out.2 HB.out (Nat.le_succ _) 6 Try.infoZu (by rfl) (by rfl) (oneZ _ _ _ _ _ (own_valJ HL.out.c).1 (own_valJ HL.out.i).1 (own_valJ HL.out.g).1 (own_valJ HL.out.r).1 _) ?_; intro W9 e9 b9 s9 o9))
      have L10 := HL9.out.keep (w' := W9) fun j cur t ht hc => o9 j (by rintro rfl; rw [HK.out.2] at hc; cases hc; exact ht rfl)
      obtain ⟨u, hu, h1, h2, h3, h4, h5, h6, h7, h8, h9, h10, h11⟩ := L10.zu N bad
      refine bodyPost_ret (res_oneJ _ 2 33 (by kernel_rfl) _ _ (w.heap.size + 1) _ (by rfl) _ Try.underlying33 rfl 6 Try.infoZu rfl e9) rfl ?_
      exact ⟨u, congrArg Ending.returned hu, h1, h2, h3, h4, h5, h6, h7, h8.trans HLN.out.1, h9.trans HLN.out.2, h10.trans HLC.out.1, h11.trans HLC.out.2, b9⟩
end Go.Proofs.Ytaloaholmhcflaa

namespace Go.Proofs.Ytaloaholmhcflaa
open Go.RowKit Go.Shelf
set_option linter.unusedVariables false
set_option linter.unusedSimpArgs false
/-- What came in is no longer than the bulk, and its words are words. -/
structure UW (u : ZD) : Prop where
  cl : u.cn ≤ 1050000
  rl : u.rn ≤ 1050000
  il : u.dn ≤ 1050000
  gl : u.gn ≤ 1050000
  ll : ∀ k, k < u.gn → (u.gv k).2.1 ≤ 1050000
  c : ∀ x ∈ u.cs, x < 18446744073709551616
  r : ∀ x ∈ u.rs, x < 18446744073709551616
  g : ∀ l ∈ u.gs, ∀ x ∈ l, x < 18446744073709551616
theorem and_eqJ {a b c d : Bool} (h1 : a = b) (h2 : c = d) : (a && c) = (b && d) := by rw [h1, h2]
theorem colsB_eq {N : Int} {co co' : Option Addr} {cn cn' cc cc' : Nat} {io io' : Option Addr} {dn dc dc' : Nat} {go go' : Option Addr} {gn gn' gc gc' : Nat} {ro ro' : Option Addr} {rn rn' rc rc' : Nat} {bad bad' : Bool} {cs cs' : List Nat} {ids : List Int} {gv gv' : Nat → Option Addr × Nat × Nat} {gs : List (List Nat)} {rs rs' : List Nat} :
    ∀ (ks : List (_root_.Fin dn)) (last : Int), colsB ⟨N, co, cn, cc, io, dn, dc, go, gn, gc, ro, rn, rc, bad, cs, ids, gv, gs, rs⟩ last ks = colsB ⟨N, co', cn', cc', io', dn, dc', go', gn', gc', ro', rn', rc', bad', cs', ids, gv', gs, rs'⟩ last ks
  | [], _ => rfl
  | k :: ks, last => and_eqJ rfl (colsB_eq ks _)
/-- Two that have the same numbers are taken alike. -/
theorem checkB_eq (x u : ZD) (hN : x.N = u.N) (hb : x.bad = u.bad) (hc : x.cs = u.cs) (hr : x.rs = u.rs) (hi : x.ids = u.ids) (hg : x.gs = u.gs) (h1 : x.cn = u.cn) (h2 : x.dn = u.dn) (h3 : x.gn = u.gn) (h4 : x.rn = u.rn) : checkB x = checkB u := by
  obtain ⟨N, co, cn, cc, io, dn, dc, go, gn, gc, ro, rn, rc, bad, cs, ids, gv, gs, rs⟩ := x
  obtain ⟨N', co', cn', cc', io', dn', dc', go', gn', gc', ro', rn', rc', bad', cs', ids', gv', gs', rs'⟩ := u
  dsimp only at hN hb hc hr hi hg h1 h2 h3 h4
  subst hN hb hc hr hi hg h1 h2 h3 h4
  unfold checkB bareB wholeB
  dsimp only
  rw [colsB_eq]
end Go.Proofs.Ytaloaholmhcflaa

namespace Go.Proofs.Ytaloaholmhcflaa
open Go.RowKit Go.Shelf
set_option linter.unusedVariables false
open Ieee
theorem zr_fin64 {w : World} {z : ZD} (h : ZR w z) : (∀ x ∈ z.cs, x < 18446744073709551616) ∧ (∀ x ∈ z.rs, x < 18446744073709551616) ∧ ∀ l ∈ z.gs, ∀ x ∈ l, x < 18446744073709551616 := by
  refine ⟨h.c.lt, h.r.lt, fun l hl => ?_⟩
  obtain ⟨j, hj, rfl⟩ := List.getElem_of_mem hl
  have h1 := h.g.each j (by rw [← h.g.length]; exact hj)
  rw [List.getElem?_eq_getElem hj] at h1
  exact h1.lt
end Go.Proofs.Ytaloaholmhcflaa

namespace Go.Proofs.Ytaloaholmhcflaa
open Go.RowKit Go.Shelf
set_option linter.unusedVariables false
set_option linter.unusedSimpArgs false
/-- Two zonotopes have the same numbers. -/
structure SmZ (u z : ZD) : Prop where
  N : u.N = z.N
  bad : u.bad = z.bad
  cs : u.cs = z.cs
  rs : u.rs = z.rs
  ids : u.ids = z.ids
  gs : u.gs = z.gs
  dn : u.dn = z.dn
  gn : u.gn = z.gn
  cn : u.cn = z.cn
  rn : u.rn = z.rn
theorem ofU (z : ZD) (w : World) (hz : ZR w z) (hw : ZW z) :
    Calls Try.prog 5 #[.agg (zRow z)] w fun e w' => ∃ u : ZD, e = .returned (.agg (zRow u)) ∧ ZU w' u ∧ SmZ u z ∧ Below w.heap.size w w' := by
  refine Calls.mono (of10_any z w hz hw) ?_
  rintro e w1 ⟨u, he, hu, u1, u2, u3, u4, u5, u6, u7, u8, u9, u10, b1⟩
  exact ⟨u, he, hu, ⟨u1, u2, u3, u4, u5, u6, u7, u8, u9, u10⟩, b1⟩
end Go.Proofs.Ytaloaholmhcflaa

namespace Go.Proofs.Ytaloaholmhcflaa
open Go.RowKit Go.Shelf
set_option linter.unusedVariables false
set_option linter.unusedSimpArgs false
theorem ex_loadRN {P : Program} {ρ : Operand → Value} (o : Oper) (ty : TypeId) (p : Operand) (ho : o.op = .load ty p) (B : Nat) (hp : ρ p = .pointer (some ⟨B, 0, none⟩)) (w : World) (c : Array Value) (h : w.heap[B]? = some (.cells c ty)) (d : TypeDesc) (hu : P.underlying ty = some d) (hd : d.isRow = true) (n : Nat) (hi : (P.info? ty).map (·.size) = some n) (hn : c.size = n) : (execOp ρ o).run P w = .ok (.value (.agg c)) w := by
  have hr : w.rangeAt B 0 c.toList := by
    have := World.rangeAt_of_block h 0 c.size
    simpa using this
  have hl := run_loadVar_mid (P := P) w B 0 ty c.toList d hr hu hd (by rw [hi]; simp [hn])
  have hl2 : (loadVar ty ⟨B, 0, none⟩).run P w = .ok (.agg c) w := by simpa using hl
  unfold execOp
  simp only [ho, hp, Instr.loadAt, Instr.sureAddr, Sem.run_bind, Sem.run_pure, Result.andThen_ok, hl2]
end Go.Proofs.Ytaloaholmhcflaa

namespace Go.Proofs.Ytaloaholmhcflaa
open Go.RowKit Go.Shelf
set_option linter.unusedVariables false
set_option linter.unusedSimpArgs false
theorem cell_later {w w' : World} {a : Addr} {v : Value} (h : w.cell? a = some v) (hb : Below w.heap.size w w') : w'.cell? a = some v := (hb.cell (World.block_lt_of_cell? _ _ h)).trans h
end Go.Proofs.Ytaloaholmhcflaa

namespace Go.Proofs.Ytaloaholmhcflaa
open Go.RowKit Go.Shelf
set_option linter.unusedVariables false
set_option linter.unusedSimpArgs false
theorem rdU_own {W : World} {base : Nat} {v : Value} {us : List Nat} (h : W.ownsRow base 65 1 v us.length (uJ us)) : ∃ ao c, v = .slice ao us.length c ∧ RdUs W ao us.length c us := by
  obtain ⟨ao, cap, h1, h2, h3⟩ := owns_slice h
  refine ⟨ao, cap, h1, rfl, h2, ?_⟩
  rcases h3 with h0 | ⟨g, rfl, hc⟩
  · exact .inl h0
  · refine .inr ⟨g, 0, rfl, fun j hj => ?_⟩
    rw [Nat.zero_add, hc j hj]
    unfold uJ
    rw [List.getElem?_map, List.getElem?_eq_getElem hj]
    rfl
end Go.Proofs.Ytaloaholmhcflaa

namespace Go.Proofs.Ytaloaholmhcflaa
open Go.RowKit Go.Shelf
set_option linter.unusedVariables false
set_option linter.unusedSimpArgs false
theorem WhF.ofU {w : World} {z : ZD} (hz : ZU w z) (hd : z.dn ≤ 1050000) (h : wholeB z = true) : WhF z := by
  unfold wholeB at h
  simp only [Bool.and_eq_true, decide_eq_true_eq] at h
  obtain ⟨⟨⟨⟨⟨⟨h1, h2⟩, h3⟩, h4⟩, h5⟩, h6⟩, h7⟩ := h
  obtain ⟨c1, c2⟩ := numN_fin h3
  obtain ⟨r1, r2⟩ := numN_fin h4
  have hl := hz.r.length
  have hlc := hz.c.length
  have hg := fun (k : Nat) (hk : k < z.dn) => numN_fin (colsB_num h7 ⟨k, hk⟩ (List.mem_finRange _))
  refine ⟨by omega, by omega, by omega, by omega, h5, by omega, hl, fun k hk => by have := (hg k hk).1; dsimp only at this; omega, fun i => ?_, ⟨fin_getD c2, fin_getD r2, fun k j => ?_, hd⟩⟩
  · by_cases hi : i < z.rs.length
    · rw [List.getElem?_eq_getElem hi]
      have h8 := List.all_eq_true.1 h6 _ (List.getElem_mem hi)
      have h9 : ¬ srung z.rs[i] < 0 := of_decide_eq_true h8
      have h10 := srung_le 0 z.rs[i]
      rw [fval_zeroJ, show srung 0 = 0 by decide] at h10
      exact h10.1 (by omega)
    · rw [List.getElem?_eq_none (by omega)]; exact Int.le_of_eq fval_zeroJ.symm
  · by_cases hk : k < z.dn
    · exact fin_getD (hg k hk).2 j
    · have e : z.gs[k]? = none := List.getElem?_eq_none (by have := hz.g.length; omega)
      rw [e]
      exact fin_zeroJ
end Go.Proofs.Ytaloaholmhcflaa

namespace Go.Proofs.Ytaloaholmhcflaa
open Go.RowKit
set_option linter.unusedVariables false
end Go.Proofs.Ytaloaholmhcflaa

namespace Go.Proofs.Ytaloaholmhcflaa
open Go.RowKit Go.Shelf
set_option linter.unusedVariables false
set_option linter.unusedSimpArgs false
theorem SmZ.symm {u z : ZD} (m : SmZ u z) : SmZ z u := ⟨m.N.symm, m.bad.symm, m.cs.symm, m.rs.symm, m.ids.symm, m.gs.symm, m.dn.symm, m.gn.symm, m.cn.symm, m.rn.symm⟩
theorem SmZ.trans {u z x : ZD} (m : SmZ u z) (k : SmZ z x) : SmZ u x := ⟨m.N.trans k.N, m.bad.trans k.bad, m.cs.trans k.cs, m.rs.trans k.rs, m.ids.trans k.ids, m.gs.trans k.gs, m.dn.trans k.dn, m.gn.trans k.gn, m.cn.trans k.cn, m.rn.trans k.rn⟩
theorem SmZ.bits {x u z : ZD} (m : SmZ x z) (k : SmZ u z) : bitsB x u = true := by
  unfold bitsB
  rw [m.N, m.bad, m.cs, m.rs, m.ids, m.gs, k.N, k.bad, k.cs, k.rs, k.ids, k.gs]
  simp
theorem SmZ.uw {w w0 : World} {u z : ZD} (m : SmZ u z) (hz : ZR w0 z) (hw : ZW z) (hu : ZU w u) : UW u := by
  have h64 := zr_fin64 hz
  exact ⟨by rw [m.cn]; exact hw.cl, by rw [m.rn]; exact hw.rl, by rw [m.dn]; exact hw.il, by rw [m.gn]; exact hw.gl, fun j hj => by rw [← (hu.g.each j hj).length, m.gs, (hz.g.each j (by rw [← m.gn]; exact hj)).length]; exact hw.coll j (by rw [← m.gn]; exact hj), by rw [m.cs]; exact h64.1, by rw [m.rs]; exact h64.2.1, by rw [m.gs]; exact h64.2.2⟩
end Go.Proofs.Ytaloaholmhcflaa

namespace Go.Proofs.Ytaloaholmhcflaa
open Go.RowKit Go.Shelf
set_option linter.unusedVariables false
set_option linter.unusedSimpArgs false
theorem OfL.nilM (w : World) (base : Nat) : OfL w base [] [] [] [] (.slice none 0 0) (.slice none 0 0) (.slice none 0 0) (.slice none 0 0) [] := ⟨World.ownsRow_nil _ _ _ _, World.ownsRow_nil _ _ _ _, World.ownsRow_nil _ _ _ _, World.ownsRow_nil _ _ _ _, rfl, fun j u hj => by simp at hj⟩
theorem OfL.guM {w : World} {base : Nat} {gs : List (List Nat)} {vg : Value} {gl : List Value} (h : OfL w base [] [] [] gs (.slice none 0 0) (.slice none 0 0) (.slice none 0 0) vg gl) : ∃ (go : Option Addr) (gc : Nat) (gv : Nat → Option Addr × Nat × Nat), vg = .slice go gs.length gc ∧ RdGu w go gs.length gc gv gs := by
  obtain ⟨u, hu, z, -, -, -, -, -, h6, -, h8, -, -⟩ := h.zu 0 false
  unfold zRow at hu
  injection hu with hu
  have h7 := congrArg (fun (a : Array Value) => a[3]?) hu
  have h7 : vg = .slice u.go u.gn u.gc := by injection h7
  have z3 := z.g
  rw [h6, h8] at z3
  rw [h8] at h7
  exact ⟨u.go, u.gc, u.gv, h7, z3⟩
theorem Try.infoUsM : (Try.prog.info? 30).map (fun i => (i.zero, i.size, i.bytes)) = some (some (.slice none 0 0), 1, 24) := by kernel_rfl
set_option maxRecDepth 100000 in
set_option maxHeartbeats 2000000 in
/-- The law's lists. -/
theorem lists_any (ao : Option Addr) (l c : Nat) (gv : Nat → Option Addr × Nat × Nat) (css : List (List Nat)) (w : World) (ha : RdGs w ao l c gv css) (hl : l ≤ 1050000) (hll : ∀ k, k < l → (gv k).2.1 ≤ 1050000) :
    Calls Try.prog 9 #[.slice ao l c] w fun e w' => (∃ (go : Option Addr) (gc : Nat) (gv' : Nat → Option Addr × Nat × Nat), e = .returned (.slice go l gc) ∧ Hid (RdGu w' go l gc gv' css)) ∧ Below w.heap.size w w' := by
  have HA : Hid (∀ W', Below w.heap.size w W' → RdGs W' ao l c gv css) := fun W' hb => ha.later hb
  have HLN : Hid (css.length = l) := ha.length
  have HLL : Hid (∀ k, k < l → (gv k).2.1 ≤ 1050000) := hll
  clear ha hll
  go_enter Try.func9, Try.ntmps9
  go_wp2_with fail
  go_loopg [3, 4] l (fun g v3 v4 wx => ∃ k : Nat, v4 = .int .i64 k ∧ k + g = l ∧ ∃ gl : List Value, Hid (OfL wx w.heap.size [] [] [] (css.take k) (.slice none 0 0) (.slice none 0 0) (.slice none 0 0) v3 gl ∧ Below w.heap.size w wx ∧ gl.length = k))
  case atStart => exact ⟨0, rfl, by omega, [], ⟨OfL.nilM _ _, Below.refl _ _, rfl⟩⟩
  case round =>
    obtain ⟨k, rfl, hk, gl, HI⟩ := hrel
    by_cases hlt : k < l
    · have hd : decide ((k : Int) < (l : Int)) = true := decide_eq_true (by omega)
      obtain ⟨g, rfl⟩ : ∃ g, gk = g + 1 := ⟨gk - 1, by omega⟩
      have HIG : Hid (k + (g + 1) = l) := hk
      have hlt' : (k : Int) < (l : Int) := by omega
      have rx := HA.out _ HI.out.2.1
      rcases rx.cells with h0 | ⟨gb, goff, ego, hcg⟩
      · omega
      subst ego
      have gg := hcg k hlt
      have rg := rx.each k hlt
      have hl2 := HLL.out k hlt
      obtain ⟨x1, ex1⟩ : ∃ t, (gv k).1 = t := ⟨_, rfl⟩
      obtain ⟨x2, ex2⟩ : ∃ t, (gv k).2.1 = t := ⟨_, rfl⟩
      obtain ⟨x3, ex3⟩ : ∃ t, (gv k).2.2 = t := ⟨_, rfl⟩
      rw [ex1, ex2, ex3] at rg gg
      rw [ex2] at hl2
      have RG : Hid (RdF wr x1 x2 x3 (css[k]?.getD [])) := rg
      have HTK : Hid (css.take (k + 1) = css.take k ++ [css[k]?.getD []]) := by
        have hkl : k < css.length := by rw [HLN.out]; exact hlt
        unfold Hid
        rw [List.take_succ_eq_append_getElem hkl, List.getElem?_eq_getElem hkl]; rfl
      clear rx hcg rg ex1 ex2 ex3 hk
      go_wp2_with fail
      refine Calls.mono (bits10_any x1 x2 x3 _ _ RG.out hl2) ?_
      rintro e w1 ⟨v1, rfl, o1, b1⟩
      obtain ⟨bo1, bc1, hv1, -⟩ := rdU_own o1
      obtain ⟨ln1, hln1⟩ : ∃ ln, (css[k]?.getD []).length = ln := ⟨_, rfl⟩
      rw [hln1] at hv1
      subst hv1
      have O1 : Hid (w1.ownsRow w.heap.size 65 1 (.slice bo1 ln1 bc1) (css[k]?.getD []).length (uJ (css[k]?.getD []))) := owns_monoJ o1 HI.out.2.1.size
      have L1 : Hid (OfL w1 w.heap.size [] [] [] (css.take k) (.slice none 0 0) (.slice none 0 0) (.slice none 0 0) u3 gl ∧ Below w.heap.size w w1 ∧ gl.length = k) := ⟨HI.out.1.later b1, to_call HI.out.2.1 b1, HI.out.2.2⟩
      clear o1 b1 gg RG HI hln1
      have A1 : Below w1.heap.size w1 (w1.alloc (.cells #[.slice bo1 ln1 bc1] 30)) := (Below.refl _ w1).alloc (Nat.le_refl _) _
      have Lz : Hid (OfL (w1.alloc (.cells #[.slice bo1 ln1 bc1] 30)) w.heap.size [] [] [] (css.take k) (.slice none 0 0) (.slice none 0 0) (.slice none 0 0) u3 gl) := L1.out.1.later A1
      have Oz : Hid ((w1.alloc (.cells #[.slice bo1 ln1 bc1] 30)).ownsRow w.heap.size 65 1 (.slice bo1 ln1 bc1) (css[k]?.getD []).length (uJ (css[k]?.getD []))) := World.ownsRow.alloc O1.out _
      go_wp2_with (first
        | (at_builtin; refine append_gsJ Try.underlying31 Try.infoUsM rfl (by decide) (by decide) _ (by rfl) _ _ (by rfl) w.heap.size _ gl.length gl (by rfl) Lz.out.g ⟨w1.heap.size, 0, none⟩ 1 1 [.slice bo1 ln1 bc1] (by rfl) rfl (news_oneJ (heap_alloc_new w1 _)) (oneI _ (own_valJ O1.out).1) (by have := L1.out.2.2; omega) (by have := L1.out.2.1.size; simp only [alloc_size]; omega) ?_; intro v6 w6 o6 g6))
      have HI2 : Hid (OfL w6 w.heap.size [] [] [] (css.take (k + 1)) (.slice none 0 0) (.slice none 0 0) (.slice none 0 0) v6 (gl ++ [Value.slice bo1 ln1 bc1]) ∧ Below w.heap.size w w6 ∧ (gl ++ [Value.slice bo1 ln1 bc1]).length = k + 1) := by
        refine ⟨?_, (to_call L1.out.2.1 A1).trans (g6.below (fun k hk => (World.ownsRow.lt Lz.out.g k hk).1) (to_call L1.out.2.1 A1).size), by rw [List.length_append, L1.out.2.2]; rfl⟩
        rw [HTK.out]
        exact Lz.out.pushG g6 o6 Oz.out
      clear o6 g6 A1 Lz Oz O1 L1 HTK
      go_roundg g
      case measure => omega
      case rel => exact ⟨k + 1, by go_num, by have := HIG.out; omega, gl ++ [Value.slice bo1 ln1 bc1], HI2⟩
    · have hd : decide ((k : Int) < (l : Int)) = false := decide_eq_false (by omega)
      have hd' : decide (k < l) = false := decide_eq_false (by omega)
      have h9 := HI.out.1
      rw [List.take_of_length_le (by rw [HLN.out]; omega)] at h9
      obtain ⟨go, gc, gv', e9, r9⟩ := h9.guM
      rw [HLN.out] at e9 r9
      have HR9 : Hid (RdGu wr go l gc gv' css) := r9
      subst e9
      clear h9 r9
      go_wp2_with fail
      go_ret
      exact ⟨⟨go, gc, gv', rfl, HR9⟩, HI.out.2.1⟩
end Go.Proofs.Ytaloaholmhcflaa

namespace Go.Proofs.Ytaloaholmhcflaa
open Go.RowKit Go.Shelf
set_option linter.unusedVariables false
set_option linter.unusedSimpArgs false
theorem MgR.lt {z : ZD} {us : List Nat} {u : Nat} {b : Bool} (h : MgR z us u b) : u < 18446744073709551616 := by
  cases hc : clB z us with
  | true =>
    have h1 := h.1 hc
    cases ho : leO z us with
    | none => rw [ho] at h1; rw [h1.1]; decide
    | some v =>
      rw [ho] at h1
      obtain ⟨a, ha⟩ : ∃ a : Nat, a = 1166 := ⟨_, rfl⟩
      exact (tell_fin (h1 a ha)).2
  | false => rw [(h.2 hc).1]; decide
theorem WoK.lt {z : ZD} {css : List (List Nat)} : ∀ {k a u : Nat}, WoK z css k a u → u < 18446744073709551616
  | 0, a, u, h => by rw [h.2]; decide
  | k + 1, a, u, ⟨a9, u9, v, h1, h2, h3⟩ => by
    rcases h3 with ⟨_, e, _⟩ | ⟨_, e, _⟩
    · rw [e]; exact h2.lt
    · rw [e]; exact WoK.lt h1
end Go.Proofs.Ytaloaholmhcflaa

