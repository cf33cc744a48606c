import Derived.Test.YtaloaholmhcflaaMLb4
import Ieee.Arith
import Derived.Test.YtaloaholmhcflaaChecked
import Derived.WalkKit
import Derived.WalkSmall
import Derived.WalkLawsBesides
import Derived.Lib.EndianBits
import Derived.Laws.Bits128
import Derived.Laws.BitsAll
import Derived.BigQuiet
import Derived.RangeFuncNested
import Derived.RangeFuncBound
import Derived.RangeFuncCalls
import Derived.RangeFuncLeaves
import Derived.RangeFuncFrom
import Derived.RangeFuncWrites
import Derived.Shelf.Abstract
import Derived.Shelf.RegionOpen
import Derived.OwnWalkIn
import Derived.TacticsInMore
import Derived.LoopNIn
import Derived.LoopIn
import Derived.Deep.WholeRow
import Derived.Deep.MidRow
import Derived.Laws.CopyOwn
import Derived.Deep.RegionHeld3
import Derived.Deep.QuietTactic
import Derived.Deep.RegionWith
import Derived.Deep.DeepCutAuto
import Derived.Laws.Externs
import Derived.Deep.DeepMust
import Derived.Laws.MakeOwn
import Derived.Laws.OwnMore
import Derived.ArgAppend
import Derived.OwnWalk
import Derived.Orders
import Derived.RegionTactic
import Derived.Below
import Derived.Deep.CutRange
import Derived.Laws.AppendOwnNone
import Derived.Test.YtaloaholmhcflaaRows
import Derived.Deep.Slices
import Derived.OpenShut
import Derived.Lib.SmallJoins
import Derived.ChangeSame
namespace Go.Proofs.Ytaloaholmhcflaa
open Go.RowKit Go.Shelf
set_option linter.unusedVariables false
set_option linter.unusedSimpArgs false
set_option maxRecDepth 100000 in
set_option maxHeartbeats 4000000 in
theorem bits6_any (ao : Option Addr) (len cap : Nat) (us : List Nat) (w : World) (hr : RdF w ao len cap us) (hl : len ≤ 1050000) :
    Calls Try.prog 18 #[.slice ao len cap] w fun e w' => ∃ v, e = .returned v ∧ w'.ownsRow w.heap.size 65 1 v us.length (uJ us) ∧ Below w.heap.size w w' := by
  have HR : Hid _ := hr
  have HLN : Hid _ := hr.length
  clear hr
  go_enter Try.func18, Try.ntmps18
  go_wp2_with fail
  go_loopg [3, 4] len (fun g v u wx => ∃ (i : Nat), u = .int .i64 i ∧ i + g = len ∧ Hid (wx.ownsRow w.heap.size 65 1 v i (uJ (us.take i))) ∧ Hid (Below w.heap.size w wx))
  case atStart => exact ⟨0, rfl, by omega, World.ownsRow_nil _ _ _ _, Below.refl _ _⟩
  case round =>
    obtain ⟨i, rfl, hi, HO, HB⟩ := hrel
    have hsr := HB.out.size
    by_cases hlt : i < len
    · have hd : decide ((i : Int) < (len : Int)) = true := decide_eq_true (by omega)
      obtain ⟨g, rfl⟩ : ∃ g, gk = g + 1 := ⟨gk - 1, by omega⟩
      rcases (HR.out.later HB.out).cells with h0 | ⟨b, off, rfl, hc⟩
      · omega
      have g0 := hc i hlt
      have HTS : Hid _ := take_snocJ (us := us) (k := i) (by rw [HLN.out]; exact hlt)
      obtain ⟨x, hx⟩ : ∃ x, us[i]?.getD 0 = x := ⟨_, rfl⟩
      rw [hx] at g0 HTS
      have HIG : Hid _ := hi
      clear hc hi hx
      go_wp2_with (first
        | (go_at_call 33; refine Calls.mono (apiBits_any x _) ?_; rintro e w' ⟨rfl, hw⟩; rw [hw]; clear hw)
        | (at_builtin; refine append_gsJ Try.underlying30 Try.infoUJ rfl (by decide) (by decide) _ (by rfl) _ _ (by rfl) w.heap.size _ _ _ (by rfl) (World.ownsRow.alloc HO.out _) ⟨wr.heap.size, 0, none⟩ 1 1 [.int .u64 (x : Int)] (by rfl) rfl (news_oneJ (heap_alloc_new wr _)) (oneI _ rfl) (by omega) (by simp only [alloc_size]; omega) ?_; intro v5 w5 o5 g5))
      have B5 : Hid (Below w.heap.size w w5) := (HB.out.alloc hsr _).trans (g5.below (fun k hk => (World.ownsRow.lt HO.out k hk).1) (by simp only [alloc_size]; omega))
      have O5 : Hid _ := o5
      clear o5 g5
      go_roundg g
      case measure => omega
      case rel =>
        refine ⟨i + 1, by go_num, by have := HIG.out; omega, ?_, B5⟩
        unfold Hid
        rw [HTS.out, uJ_snoc]
        exact O5.out
    · have hd : decide ((i : Int) < (len : Int)) = false := decide_eq_false (by omega)
      have HO2 : Hid (wr.ownsRow w.heap.size 65 1 u3 us.length (uJ us)) := by
        have := HO.out
        rw [List.take_of_length_le (by rw [HLN.out]; omega), show i = us.length by rw [HLN.out]; omega] at this
        exact this
      go_wp2
      go_ret
      exact ⟨_, rfl, HO2.out, HB.out⟩
set_option maxRecDepth 100000 in
set_option maxHeartbeats 4000000 in
theorem bitsOf6_any (ao : Option Addr) (l c : Nat) (gv : Nat → Option Addr × Nat × Nat) (css : List (List Nat)) (w : World) (ha : RdGs w ao l c gv css) (hl : l ≤ 1050000) (hll : ∀ k, k < l → (gv k).2.1 ≤ 1050000) :
    Calls Try.prog 19 #[.slice ao l c] w fun e w' => (∃ (go : Option Addr) (gc : Nat) (gl : List Value), e = .returned (.slice go l gc) ∧ Hid (OfL w' w.heap.size [] [] [] css (.slice none 0 0) (.slice none 0 0) (.slice none 0 0) (.slice go l gc) gl)) ∧ Below w.heap.size w w' := by
  have HA : Hid (∀ W', Below w.heap.size w W' → RdGs W' ao l c gv css) := fun W' hb => ha.later hb
  have HLN : Hid (css.length = l) := ha.length
  have HLL : Hid (∀ k, k < l → (gv k).2.1 ≤ 1050000) := hll
  clear ha hll
  go_enter Try.func19, Try.ntmps19
  go_wp2_with fail
  go_loopg [3, 4] l (fun g v3 v4 wx => ∃ k : Nat, v4 = .int .i64 k ∧ k + g = l ∧ ∃ gl : List Value, Hid (OfL wx w.heap.size [] [] [] (css.take k) (.slice none 0 0) (.slice none 0 0) (.slice none 0 0) v3 gl ∧ Below w.heap.size w wx ∧ gl.length = k))
  case atStart => exact ⟨0, rfl, by omega, [], ⟨OfL.nilM _ _, Below.refl _ _, rfl⟩⟩
  case round =>
    obtain ⟨k, rfl, hk, gl, HI⟩ := hrel
    by_cases hlt : k < l
    · have hd : decide ((k : Int) < (l : Int)) = true := decide_eq_true (by omega)
      obtain ⟨g, rfl⟩ : ∃ g, gk = g + 1 := ⟨gk - 1, by omega⟩
      have HIG : Hid (k + (g + 1) = l) := hk
      have hlt' : (k : Int) < (l : Int) := by omega
      have rx := HA.out _ HI.out.2.1
      rcases rx.cells with h0 | ⟨gb, goff, ego, hcg⟩
      · omega
      subst ego
      have gg := hcg k hlt
      have rg := rx.each k hlt
      have hl2 := HLL.out k hlt
      obtain ⟨x1, ex1⟩ : ∃ t, (gv k).1 = t := ⟨_, rfl⟩
      obtain ⟨x2, ex2⟩ : ∃ t, (gv k).2.1 = t := ⟨_, rfl⟩
      obtain ⟨x3, ex3⟩ : ∃ t, (gv k).2.2 = t := ⟨_, rfl⟩
      rw [ex1, ex2, ex3] at rg gg
      rw [ex2] at hl2
      have RG : Hid (RdF wr x1 x2 x3 (css[k]?.getD [])) := rg
      have HTK : Hid (css.take (k + 1) = css.take k ++ [css[k]?.getD []]) := by
        have hkl : k < css.length := by rw [HLN.out]; exact hlt
        unfold Hid
        rw [List.take_succ_eq_append_getElem hkl, List.getElem?_eq_getElem hkl]; rfl
      clear rx hcg rg ex1 ex2 ex3 hk
      go_wp2_with fail
      refine Calls.mono (bits6_any x1 x2 x3 _ _ RG.out hl2) ?_
      rintro e w1 ⟨v1, rfl, o1, b1⟩
      obtain ⟨bo1, bc1, hv1, -⟩ := rdU_own o1
      obtain ⟨ln1, hln1⟩ : ∃ ln, (css[k]?.getD []).length = ln := ⟨_, rfl⟩
      rw [hln1] at hv1
      subst hv1
      have O1 : Hid (w1.ownsRow w.heap.size 65 1 (.slice bo1 ln1 bc1) (css[k]?.getD []).length (uJ (css[k]?.getD []))) := owns_monoJ o1 HI.out.2.1.size
      have L1 : Hid (OfL w1 w.heap.size [] [] [] (css.take k) (.slice none 0 0) (.slice none 0 0) (.slice none 0 0) u3 gl ∧ Below w.heap.size w w1 ∧ gl.length = k) := ⟨HI.out.1.later b1, to_call HI.out.2.1 b1, HI.out.2.2⟩
      clear o1 b1 gg RG HI hln1
      have A1 : Below w1.heap.size w1 (w1.alloc (.cells #[.slice bo1 ln1 bc1] 30)) := (Below.refl _ w1).alloc (Nat.le_refl _) _
      have Lz : Hid (OfL (w1.alloc (.cells #[.slice bo1 ln1 bc1] 30)) w.heap.size [] [] [] (css.take k) (.slice none 0 0) (.slice none 0 0) (.slice none 0 0) u3 gl) := L1.out.1.later A1
      have Oz : Hid ((w1.alloc (.cells #[.slice bo1 ln1 bc1] 30)).ownsRow w.heap.size 65 1 (.slice bo1 ln1 bc1) (css[k]?.getD []).length (uJ (css[k]?.getD []))) := World.ownsRow.alloc O1.out _
      go_wp2_with (first
        | (at_builtin; refine append_gsJ Try.underlying31 Try.infoUsM rfl (by decide) (by decide) _ (by rfl) _ _ (by rfl) w.heap.size _ gl.length gl (by rfl) Lz.out.g ⟨w1.heap.size, 0, none⟩ 1 1 [.slice bo1 ln1 bc1] (by rfl) rfl (news_oneJ (heap_alloc_new w1 _)) (oneI _ (own_valJ O1.out).1) (by have := L1.out.2.2; omega) (by have := L1.out.2.1.size; simp only [alloc_size]; omega) ?_; intro v6 w6 o6 g6))
      have HI2 : Hid (OfL w6 w.heap.size [] [] [] (css.take (k + 1)) (.slice none 0 0) (.slice none 0 0) (.slice none 0 0) v6 (gl ++ [Value.slice bo1 ln1 bc1]) ∧ Below w.heap.size w w6 ∧ (gl ++ [Value.slice bo1 ln1 bc1]).length = k + 1) := by
        refine ⟨?_, (to_call L1.out.2.1 A1).trans (g6.below (fun k hk => (World.ownsRow.lt Lz.out.g k hk).1) (to_call L1.out.2.1 A1).size), by rw [List.length_append, L1.out.2.2]; rfl⟩
        rw [HTK.out]
        exact Lz.out.pushG g6 o6 Oz.out
      clear o6 g6 A1 Lz Oz O1 L1 HTK
      go_roundg g
      case measure => omega
      case rel => exact ⟨k + 1, by go_num, by have := HIG.out; omega, gl ++ [Value.slice bo1 ln1 bc1], HI2⟩
    · have hd : decide ((k : Int) < (l : Int)) = false := decide_eq_false (by omega)
      have hd' : decide (k < l) = false := decide_eq_false (by omega)
      have h9 := HI.out.1
      rw [List.take_of_length_le (by rw [HLN.out]; omega)] at h9
      obtain ⟨go, gc, gv', e9, r9⟩ := h9.guM
      rw [HLN.out] at e9 r9
      subst e9
      have HR9 : Hid (OfL wr w.heap.size [] [] [] css (.slice none 0 0) (.slice none 0 0) (.slice none 0 0) (.slice go l gc) gl) := h9
      clear h9 r9
      go_wp2_with fail
      go_ret
      exact ⟨⟨go, gc, gl, rfl, HR9⟩, HI.out.2.1⟩
set_option maxRecDepth 100000 in
set_option maxHeartbeats 4000000 in
theorem sameList6_any (ao bo : Option Addr) (n m c d : Nat) (is js : List Nat) (w : World) (h : RdUs w ao n c is) (k : RdUs w bo m d js) :
    Calls Try.prog 23 #[.slice ao n c, .slice bo m d] w fun e w' => e = .returned (.bool (decide (is = js))) ∧ Below w.heap.size w w' := by
  have HR : Hid (∀ W', Below w.heap.size w W' → RdUs W' ao n c is ∧ RdUs W' bo m d js) := fun W' hb => ⟨h.later hb, k.later hb⟩
  have hm1 := Nat.le_trans h.max maxLen_le
  have hm2 := Nat.le_trans k.max maxLen_le
  have HL : Hid (is.length = n ∧ js.length = m) := ⟨h.length, k.length⟩
  clear h k
  by_cases hn : n = m
  · subst hn
    have hb : ((n : Int) != (n : Int)) = false := by simp
    go_enter Try.func23, Try.ntmps23
    go_wp2_with fail
    go_loopg [5] n (fun g iv wx => ∃ k : Nat, iv = .int .i64 k ∧ k + g = n ∧ Hid (Below w.heap.size w wx) ∧ Hid (is.take k = js.take k))
    case atStart => exact ⟨0, rfl, by omega, Below.refl _ _, rfl⟩
    case round =>
      obtain ⟨k, rfl, hk, HB, HI⟩ := hrel
      by_cases h1 : k < n
      · have hd1 : decide ((k : Int) < (n : Int)) = true := decide_eq_true (by omega)
        obtain ⟨q, rfl⟩ : ∃ q, gk = q + 1 := ⟨gk - 1, by omega⟩
        have HIG : Hid (k + (q + 1) = n) := hk
        have h1' : (k : Int) < (n : Int) := by omega
        clear hk
        obtain ⟨r1, r2⟩ := HR.out wr HB.out
        rcases r1.cells with h0 | ⟨ab, aoff, rfl, hca⟩
        · omega
        rcases r2.cells with h0 | ⟨bb, boff, rfl, hcb⟩
        · omega
        have ga := hca k h1
        have gb := hcb k h1
        have HK1 : Hid (is.take (k + 1) = is.take k ++ [is[k]?.getD 0] ∧ js.take (k + 1) = js.take k ++ [js[k]?.getD 0] ∧ (is[k]?.getD 0 ≠ js[k]?.getD 0 → is ≠ js)) := by
          have e1 : k < is.length := by rw [HL.out.1]; exact h1
          have e2 : k < js.length := by rw [HL.out.2]; exact h1
          refine ⟨by rw [List.take_succ_eq_append_getElem e1, List.getElem?_eq_getElem e1]; rfl, by rw [List.take_succ_eq_append_getElem e2, List.getElem?_eq_getElem e2]; rfl, fun hne e => hne (by rw [e])⟩
        obtain ⟨x, hx⟩ : ∃ x, is[k]?.getD 0 = x := ⟨_, rfl⟩
        obtain ⟨y, hy⟩ : ∃ y, js[k]?.getD 0 = y := ⟨_, rfl⟩
        rw [hx] at ga HK1
        rw [hy] at gb HK1
        clear hca hcb hx hy r1 r2
        go_upto_region 6 with fail
        have hS : (fun V => V.cell? ⟨ab, aoff + k, none⟩ = some (.int .u64 (x : Int)) ∧ V.cell? ⟨bb, boff + k, none⟩ = some (.int .u64 (y : Int))) wr.drew := ⟨ga, gb⟩
        refine wp_region_noPanic ?_
        refine wp_region_held_drew (S := (fun V => V.cell? ⟨ab, aoff + k, none⟩ = some (.int .u64 (x : Int)) ∧ V.cell? ⟨bb, boff + k, none⟩ = some (.int .u64 (y : Int)))) (by kernel_rfl) hS (fun _ => ?_)
        refine takeH 17 (i := 0) (v := ?_) rfl rfl (by kernel_rfl) (by kernel_rfl) (by kernel_rfl) (fun _ _ _ h => h) (Or.inl ⟨by kernel_rfl, ?_⟩) hS ?_
        rotate_left
        · intro w' hSw; obtain ⟨s0, s1⟩ := hSw; go_simp; try with_reducible rfl
        try simp only [Act.put, List.setIfInBounds_toArray, List.set_cons_zero, List.set_cons_succ]
        refine takeH 18 (i := 1) (v := ?_) rfl rfl (by kernel_rfl) (by kernel_rfl) (by kernel_rfl) (fun _ _ _ h => h) (Or.inl ⟨by kernel_rfl, ?_⟩) hS ?_
        rotate_left
        · intro w' hSw; obtain ⟨s0, s1⟩ := hSw; go_simp; try with_reducible rfl
        try simp only [Act.put, List.setIfInBounds_toArray, List.set_cons_zero, List.set_cons_succ]
        refine takeH 19 (i := 2) (v := ?_) rfl rfl (by kernel_rfl) (by kernel_rfl) (by kernel_rfl) (fun _ _ _ h => h) (Or.inl ⟨by kernel_rfl, ?_⟩) hS ?_
        rotate_left
        · intro w' hSw; obtain ⟨s0, s1⟩ := hSw; go_simp; try with_reducible rfl
        try simp only [Act.put, List.setIfInBounds_toArray, List.set_cons_zero, List.set_cons_succ]
        refine takeH 20 (i := 3) (v := ?_) rfl rfl (by kernel_rfl) (by kernel_rfl) (by kernel_rfl) (fun _ _ _ h => h) (Or.inl ⟨by kernel_rfl, ?_⟩) hS ?_
        rotate_left
        · intro w' hSw; obtain ⟨s0, s1⟩ := hSw; go_simp; try with_reducible rfl
        try simp only [Act.put, List.setIfInBounds_toArray, List.set_cons_zero, List.set_cons_succ]
        refine takeH 21 (i := 4) (v := ?_) rfl rfl (by kernel_rfl) (by kernel_rfl) (by kernel_rfl) (fun _ _ _ h => h) (Or.inl ⟨by kernel_rfl, ?_⟩) hS ?_
        rotate_left
        · intro w' hSw; obtain ⟨s0, s1⟩ := hSw; go_simp; try with_reducible rfl
        try simp only [Act.put, List.setIfInBounds_toArray, List.set_cons_zero, List.set_cons_succ]
        refine takeH 22 (i := 5) (v := ?_) rfl rfl (by kernel_rfl) (by kernel_rfl) (by kernel_rfl) (fun _ _ _ h => h) (Or.inl ⟨by kernel_rfl, ?_⟩) hS ?_
        rotate_left
        · intro w' hSw; obtain ⟨s0, s1⟩ := hSw; go_simp; try with_reducible rfl
        try simp only [Act.put, List.setIfInBounds_toArray, List.set_cons_zero, List.set_cons_succ]
        refine takeH 23 (i := 6) (v := ?_) rfl rfl (by kernel_rfl) (by kernel_rfl) (by kernel_rfl) (fun _ _ _ h => h) (Or.inl ⟨by kernel_rfl, ?_⟩) hS ?_
        rotate_left
        · intro w' hSw; obtain ⟨s0, s1⟩ := hSw; go_simp; try with_reducible rfl
        try simp only [Act.put, List.setIfInBounds_toArray, List.set_cons_zero, List.set_cons_succ]
        refine takeH 24 (i := 7) (v := ?_) rfl rfl (by kernel_rfl) (by kernel_rfl) (by kernel_rfl) (fun _ _ _ h => h) (Or.inl ⟨by kernel_rfl, ?_⟩) hS ?_
        rotate_left
        · intro w' hSw; obtain ⟨s0, s1⟩ := hSw; go_simp; try with_reducible rfl
        try simp only [Act.put, List.setIfInBounds_toArray, List.set_cons_zero, List.set_cons_succ]
        refine takeH 25 (i := 8) (v := ?_) rfl rfl (by kernel_rfl) (by kernel_rfl) (by kernel_rfl) (fun _ _ _ h => h) (Or.inl ⟨by kernel_rfl, ?_⟩) hS ?_
        rotate_left
        · intro w' hSw; obtain ⟨s0, s1⟩ := hSw; go_simp; try with_reducible rfl
        try simp only [Act.put, List.setIfInBounds_toArray, List.set_cons_zero, List.set_cons_succ]
        refine wpAnyH_done (by kernel_rfl) ?_ _
        refine NoPanic.normal ?_
        try simp only [Act.put, List.setIfInBounds_toArray, List.set_cons_zero, List.set_cons_succ]
        have HB2 : Hid (Below w.heap.size w wr.drew) := HB.out.drew
        by_cases hxy : x = y
        · have hd2 : (x != y) = false := by simp [hxy]
          have hd3 : (x == y) = true := by simp [hxy]
          have HI2 : Hid (is.take (k + 1) = js.take (k + 1)) := by unfold Hid; rw [HK1.out.1, HK1.out.2.1, HI.out, hxy]
          subst hxy
          clear hS ga gb
          go_wp2_with fail
          go_roundg q
          case measure => omega
          case rel => exact ⟨k + 1, by go_num, by have := HIG.out; omega, HB2, HI2⟩
        · have hd2 : (x != y) = true := by simpa using hxy
          have hd3 : (x == y) = false := by simpa using hxy
          have HN : Hid (decide (is = js) = false) := decide_eq_false (HK1.out.2.2 hxy)
          clear hS ga gb hxy
          go_wp2_with fail
          go_ret
          exact ⟨by rw [HN.out]; rfl, HB2.out⟩
      · have hd1 : decide ((k : Int) < (n : Int)) = false := decide_eq_false (by omega)
        have hd2 : decide (k < n) = false := decide_eq_false (by omega)
        have HN : Hid (decide (is = js) = true) := by
          have h9 := HI.out
          rw [List.take_of_length_le (by rw [HL.out.1]; omega), List.take_of_length_le (by rw [HL.out.2]; omega)] at h9
          exact decide_eq_true h9
        go_wp2_with fail
        go_ret
        exact ⟨by rw [HN.out]; rfl, HB.out⟩
  · have hb : ((n : Int) != (m : Int)) = true := by simp; omega
    have hb2 : ((n : Int) == (m : Int)) = false := by simp; omega
    have HN : Hid (decide (is = js) = false) := decide_eq_false (fun e => hn (by rw [← HL.out.1, ← HL.out.2, e]))
    clear hn
    go_enter Try.func23, Try.ntmps23
    go_wp2_with fail
    go_ret
    exact ⟨by rw [HN.out]; rfl, Below.refl _ _⟩
theorem sameSelf6 (ao bo : Option Addr) (n m c d : Nat) (is : List Nat) (w : World) (h : RdUs w ao n c is) (k : RdUs w bo m d is) :
    Calls Try.prog 23 #[.slice ao n c, .slice bo m d] w fun e w' => e = .returned (.bool true) ∧ Below w.heap.size w w' := by
  have h9 := sameList6_any ao bo n m c d is is w h k
  rw [decide_eq_true rfl] at h9
  exact h9
set_option maxRecDepth 100000 in
set_option maxHeartbeats 4000000 in
theorem sameLists6_any (ao bo : Option Addr) (l c d : Nat) (gv hv : Nat → Option Addr × Nat × Nat) (us : List (List Nat)) (w : World) (h : RdGu w ao l c gv us) (k : RdGu w bo l d hv us) :
    Calls Try.prog 8 #[.slice ao l c, .slice bo l d] w fun e w' => e = .returned (.bool true) ∧ Below w.heap.size w w' := by
  have HR : Hid (∀ W', Below w.heap.size w W' → RdGu W' ao l c gv us ∧ RdGu W' bo l d hv us) := fun W' hb => ⟨h.later hb, k.later hb⟩
  have hm1 := Nat.le_trans h.max maxLen_le
  clear h k
  have hb : ((l : Int) != (l : Int)) = false := by simp
  go_enter Try.func8, Try.ntmps8
  go_wp2_with fail
  go_loopg [5] l (fun g iv wx => ∃ k : Nat, iv = .int .i64 k ∧ k + g = l ∧ Hid (Below w.heap.size w wx))
  case atStart => exact ⟨0, rfl, by omega, Below.refl _ _⟩
  case round =>
    obtain ⟨k, rfl, hk, HB⟩ := hrel
    by_cases h1 : k < l
    · have hd1 : decide ((k : Int) < (l : Int)) = true := decide_eq_true (by omega)
      obtain ⟨q, rfl⟩ : ∃ q, gk = q + 1 := ⟨gk - 1, by omega⟩
      have HIG : Hid (k + (q + 1) = l) := hk
      have h1' : (k : Int) < (l : Int) := by omega
      clear hk
      obtain ⟨r1, r2⟩ := HR.out wr HB.out
      rcases r1.cells with h0 | ⟨ab, aoff, rfl, hca⟩
      · omega
      rcases r2.cells with h0 | ⟨bb, boff, rfl, hcb⟩
      · omega
      have ga := hca k h1
      have gb := hcb k h1
      have ra := r1.each k h1
      have rb := r2.each k h1
      obtain ⟨x1, ex1⟩ : ∃ t, (gv k).1 = t := ⟨_, rfl⟩
      obtain ⟨x2, ex2⟩ : ∃ t, (gv k).2.1 = t := ⟨_, rfl⟩
      obtain ⟨x3, ex3⟩ : ∃ t, (gv k).2.2 = t := ⟨_, rfl⟩
      obtain ⟨y1, ey1⟩ : ∃ t, (hv k).1 = t := ⟨_, rfl⟩
      obtain ⟨y2, ey2⟩ : ∃ t, (hv k).2.1 = t := ⟨_, rfl⟩
      obtain ⟨y3, ey3⟩ : ∃ t, (hv k).2.2 = t := ⟨_, rfl⟩
      rw [ex1, ex2, ex3] at ga ra
      rw [ey1, ey2, ey3] at gb rb
      have RA : Hid (RdUs wr x1 x2 x3 (us[k]?.getD [])) := ra
      have RB : Hid (RdUs wr y1 y2 y3 (us[k]?.getD [])) := rb
      have CA : Hid (wr.cell? ⟨ab, aoff + k, none⟩ = some (.slice x1 x2 x3)) := ga
      have CB : Hid (wr.cell? ⟨bb, boff + k, none⟩ = some (.slice y1 y2 y3)) := gb
      clear r1 r2 hca hcb ga gb ra rb ex1 ex2 ex3 ey1 ey2 ey3
      go_upto_region 6 with fail
      have bX : Below wr.heap.size wr wr.drew := (Below.refl _ _).drew
      refine wp_region_noPanic ?_
      refine wp_region_held_drew (S := (fun V => Below wr.heap.size wr V)) (by kernel_rfl) bX (fun _ => ?_)
      refine takeH 17 (i := 0) (v := ?_) rfl rfl (by kernel_rfl) (by kernel_rfl) (by kernel_rfl) (fun _ _ _ h => h) (Or.inl ⟨by kernel_rfl, ?_⟩) bX ?_
      rotate_left
      · intro w' hSw; have s0 := cell_later CA.out hSw; have s1 := cell_later CB.out hSw; go_simp; try with_reducible rfl
      try simp only [Act.put, List.setIfInBounds_toArray, List.set_cons_zero, List.set_cons_succ]
      refine takeH 18 (i := 1) (v := ?_) rfl rfl (by kernel_rfl) (by kernel_rfl) (by kernel_rfl) (fun _ _ _ h => h) (Or.inl ⟨by kernel_rfl, ?_⟩) bX ?_
      rotate_left
      · intro w' hSw; have s0 := cell_later CA.out hSw; have s1 := cell_later CB.out hSw; go_simp; try with_reducible rfl
      try simp only [Act.put, List.setIfInBounds_toArray, List.set_cons_zero, List.set_cons_succ]
      refine takeH 19 (i := 2) (v := ?_) rfl rfl (by kernel_rfl) (by kernel_rfl) (by kernel_rfl) (fun _ _ _ h => h) (Or.inl ⟨by kernel_rfl, ?_⟩) bX ?_
      rotate_left
      · intro w' hSw; have s0 := cell_later CA.out hSw; have s1 := cell_later CB.out hSw; go_simp; try with_reducible rfl
      try simp only [Act.put, List.setIfInBounds_toArray, List.set_cons_zero, List.set_cons_succ]
      refine takeH 20 (i := 3) (v := ?_) rfl rfl (by kernel_rfl) (by kernel_rfl) (by kernel_rfl) (fun _ _ _ h => h) (Or.inl ⟨by kernel_rfl, ?_⟩) bX ?_
      rotate_left
      · intro w' hSw; have s0 := cell_later CA.out hSw; have s1 := cell_later CB.out hSw; go_simp; try with_reducible rfl
      try simp only [Act.put, List.setIfInBounds_toArray, List.set_cons_zero, List.set_cons_succ]
      refine takeH 21 (i := 4) (v := ?_) rfl rfl (by kernel_rfl) (by kernel_rfl) (by kernel_rfl) (fun _ _ _ h => h) (Or.inl ⟨by kernel_rfl, ?_⟩) bX ?_
      rotate_left
      · intro w' hSw; have s0 := cell_later CA.out hSw; have s1 := cell_later CB.out hSw; go_simp; try with_reducible rfl
      try simp only [Act.put, List.setIfInBounds_toArray, List.set_cons_zero, List.set_cons_succ]
      refine takeH 22 (i := 5) (v := ?_) rfl rfl (by kernel_rfl) (by kernel_rfl) (by kernel_rfl) (fun _ _ _ h => h) (Or.inl ⟨by kernel_rfl, ?_⟩) bX ?_
      rotate_left
      · intro w' hSw; have s0 := cell_later CA.out hSw; have s1 := cell_later CB.out hSw; go_simp; try with_reducible rfl
      try simp only [Act.put, List.setIfInBounds_toArray, List.set_cons_zero, List.set_cons_succ]
      refine takeH 23 (i := 6) (v := ?_) rfl rfl (by kernel_rfl) (by kernel_rfl) (by kernel_rfl) (fun _ _ _ h => h) (Or.inl ⟨by kernel_rfl, ?_⟩) bX ?_
      rotate_left
      · intro w' hSw; have s0 := cell_later CA.out hSw; have s1 := cell_later CB.out hSw; go_simp; try with_reducible rfl
      try simp only [Act.put, List.setIfInBounds_toArray, List.set_cons_zero, List.set_cons_succ]
      refine takeH 24 (i := 7) (v := ?_) rfl rfl (by kernel_rfl) (by kernel_rfl) (by kernel_rfl) (fun _ _ _ h => h) (Or.inl ⟨by kernel_rfl, ?_⟩) bX ?_
      rotate_left
      · intro w' hSw; have s0 := cell_later CA.out hSw; have s1 := cell_later CB.out hSw; go_simp; try with_reducible rfl
      try simp only [Act.put, List.setIfInBounds_toArray, List.set_cons_zero, List.set_cons_succ]
      refine wpAnyH_ready (rs := [8]) (by kernel_rfl) (by simp) ?_
      refine consH _ rfl (hopCd 25 rfl (by kernel_rfl) rfl (by kernel_rfl) (Calls.mono (sameSelf6 x1 y1 x2 y2 x3 y3 (us[k]?.getD []) _ (RA.out.later bX) (RB.out.later bX)) ?_)) AllReadyH.nil
      rintro e V1 ⟨rfl, b1⟩
      have bX : Below wr.heap.size wr V1 := to_call bX b1
      clear b1
      refine ⟨_, rfl, bX, ?_⟩
      try simp only [Act.put, List.setIfInBounds_toArray, List.set_cons_zero, List.set_cons_succ]
      refine takeH 26 (i := 9) (v := ?_) rfl rfl (by kernel_rfl) (by kernel_rfl) (by kernel_rfl) (fun _ _ _ h => h) (Or.inl ⟨by kernel_rfl, ?_⟩) bX ?_
      rotate_left
      · intro w' hSw; skip; go_simp; try with_reducible rfl
      try simp only [Act.put, List.setIfInBounds_toArray, List.set_cons_zero, List.set_cons_succ]
      refine wpAnyH_done (by kernel_rfl) ?_ _
      refine NoPanic.normal ?_
      try simp only [Act.put, List.setIfInBounds_toArray, List.set_cons_zero, List.set_cons_succ]
      have HB1 : Hid (Below w.heap.size w V1) := to_call HB.out bX
      clear bX HB RA RB CA CB
      go_wp2_with fail
      go_roundg q
      case measure => omega
      case rel => exact ⟨k + 1, by go_num, by have := HIG.out; omega, HB1⟩
    · have hd1 : decide ((k : Int) < (l : Int)) = false := decide_eq_false (by omega)
      have hd2 : decide (k < l) = false := decide_eq_false (by omega)
      clear hk
      go_wp2_with fail
      go_ret
      exact ⟨rfl, HB.out⟩
end Go.Proofs.Ytaloaholmhcflaa

namespace Go.Proofs.Ytaloaholmhcflaa
open Go.RowKit Go.Shelf
set_option linter.unusedVariables false
set_option linter.unusedSimpArgs false
theorem OfL.keepP {w w' : World} {base : Nat} {cs rs : List Nat} {ids : List Int} {gs : List (List Nat)} {vc vr vi vg : Value} {gl : List Value} (h : OfL w base cs rs ids gs vc vr vi vg gl) (hk : ∀ (k : Nat) (cur : Array Value) (t : TypeId), t ≠ 36 → w.heap[k]? = some (.cells cur t) → w'.heap[k]? = w.heap[k]?) : OfL w' base cs rs ids gs vc vr vi vg gl :=
  ⟨owns_keepT h.c fun k cur => hk k cur _ (by decide), owns_keepT h.r fun k cur => hk k cur _ (by decide), owns_keepT h.i fun k cur => hk k cur _ (by decide), owns_keepT h.g fun k cur => hk k cur _ (by decide), h.len, fun j u hj => owns_keepT (h.col j u hj) fun k cur => hk k cur _ (by decide)⟩
theorem OfL.guS {w : World} {base l gc : Nat} {go : Option Addr} {gs : List (List Nat)} {gl : List Value} (h : OfL w base [] [] [] gs (.slice none 0 0) (.slice none 0 0) (.slice none 0 0) (.slice go l gc) gl) : ∃ gv, RdGu w go l gc gv gs := by
  obtain ⟨go', gc', gv, e, r⟩ := h.guM
  injection e with e1 e2 e3
  subst e1 e2 e3
  exact ⟨gv, r⟩
theorem Try.infoRefPropM : (Try.prog.info? 36).map (·.size) = some 7 := by kernel_rfl
theorem one7M (o1 o2 o3 : Option Addr) (n1 c1 n2 c2 n3 c3 : Nat) (t K D L : Int) : (#[.slice o1 n1 c1, .slice o2 n2 c2, .int .i64 t, .slice o3 n3 c3, .int .i64 K, .int .i64 D, .int .i64 L] : Array Value).all (·.oneCell') = true := by simp [Value.oneCell']
theorem res_propM (f : Func) (i : Nat) (hf : f.results = #[ResultVar.cell i 36]) (tmps : Array Value) (W : World) (B : Nat) (c : Array Value) (hp : tmps[i]? = some (.pointer (some ⟨B, 0, none⟩)))
    (hc : c.size = 7) (h : W.heap[B]? = some (.cells c 36)) : (results f tmps).run Try.prog W = .ok (.agg c) W := by
  have hr : W.rangeAt B 0 c.toList := by
    have := World.rangeAt_of_block h 0 c.size
    simpa using this
  have hl := run_loadVar_mid (P := Try.prog) W B 0 36 c.toList _ hr Try.underlying36 rfl (by rw [Try.infoRefPropM]; simp [hc])
  have hl2 : (loadVar 36 ⟨B, 0, none⟩).run Try.prog W = .ok (.agg c) W := by simpa using hl
  simp [results, hf, hp, hl2, asAddr]
set_option maxRecDepth 100000 in
set_option maxHeartbeats 4000000 in
/-- OfProp: what Claims asks of its answer. -/
theorem ofProp6_any (co go lo : Option Addr) (cn cc gn gc ln lc : Nat) (gvg gvl : Nat → Option Addr × Nat × Nat) (cs : List Nat) (gs ls : List (List Nat)) (t K D L : Int) (w : World)
    (hc : RdF w co cn cc cs) (hg : RdGs w go gn gc gvg gs) (hl : RdGs w lo ln lc gvl ls) (hcn : cn ≤ 1050000) (hgn : gn ≤ 1050000) (hln : ln ≤ 1050000) (hgl : ∀ k, k < gn → (gvg k).2.1 ≤ 1050000) (hll : ∀ k, k < ln → (gvl k).2.1 ≤ 1050000) :
    Calls Try.prog 6 #[.agg #[.slice co cn cc, .slice go gn gc, .int .i64 t, .slice lo ln lc, .int .i64 K, .int .i64 D, .int .i64 L]] w fun e w' => (∃ (o1 o2 o3 : Option Addr) (l1 c1 c2 c3 : Nat) (gv3 : Nat → Option Addr × Nat × Nat), e = .returned (.agg #[.slice o1 l1 c1, .slice o2 gn c2, .int .i64 t, .slice o3 ln c3, .int .i64 K, .int .i64 D, .int .i64 L]) ∧ Hid (RdGu w' o3 ln c3 gv3 ls)) ∧ Below w.heap.size w w' := by
  have HC : Hid (∀ W', Below w.heap.size w W' → RdF W' co cn cc cs) := fun W' hb => hc.later hb
  have HG : Hid (∀ W', Below w.heap.size w W' → RdGs W' go gn gc gvg gs) := fun W' hb => hg.later hb
  have HL : Hid (∀ W', Below w.heap.size w W' → RdGs W' lo ln lc gvl ls) := fun W' hb => hl.later hb
  have HGL : Hid (∀ k, k < gn → (gvg k).2.1 ≤ 1050000) := hgl
  have HLL : Hid (∀ k, k < ln → (gvl k).2.1 ≤ 1050000) := hll
  have X0 : Below w.heap.size w ((w.alloc (.cells #[.slice co cn cc, .slice go gn gc, .int .i64 t, .slice lo ln lc, .int .i64 K, .int .i64 D, .int .i64 L] 28)).alloc (.cells #[.slice none 0 0, .slice none 0 0, .int .i64 0, .slice none 0 0, .int .i64 0, .int .i64 0, .int .i64 0] 36)) := ((Below.refl _ w).alloc (Nat.le_refl _) _).alloc (by simp only [alloc_size]; omega) _
  have Y0 : ((w.alloc (.cells #[.slice co cn cc, .slice go gn gc, .int .i64 t, .slice lo ln lc, .int .i64 K, .int .i64 D, .int .i64 L] 28)).alloc (.cells #[.slice none 0 0, .slice none 0 0, .int .i64 0, .slice none 0 0, .int .i64 0, .int .i64 0, .int .i64 0] 36)).heap[w.heap.size]? = some (.cells #[.slice co cn cc, .slice go gn gc, .int .i64 t, .slice lo ln lc, .int .i64 K, .int .i64 D, .int .i64 L] 28) := alloc_kept (heap_alloc_new w _) _
  have Y1 : ((w.alloc (.cells #[.slice co cn cc, .slice go gn gc, .int .i64 t, .slice lo ln lc, .int .i64 K, .int .i64 D, .int .i64 L] 28)).alloc (.cells #[.slice none 0 0, .slice none 0 0, .int .i64 0, .slice none 0 0, .int .i64 0, .int .i64 0, .int .i64 0] 36)).heap[w.heap.size + 1]? = some (.cells #[.slice none 0 0, .slice none 0 0, .int .i64 0, .slice none 0 0, .int .i64 0, .int .i64 0, .int .i64 0] 36) := heap_at _ _ (w.heap.size + 1) (by simp only [alloc_size])
  clear hc hg hl hgl hll
  go_enter Try.func6, Try.ntmps6
  go_upto_region 1 with fail
  obtain ⟨X, hX⟩ : ∃ X, ((w.alloc (.cells #[.slice co cn cc, .slice go gn gc, .int .i64 t, .slice lo ln lc, .int .i64 K, .int .i64 D, .int .i64 L] 28)).alloc (.cells #[.slice none 0 0, .slice none 0 0, .int .i64 0, .slice none 0 0, .int .i64 0, .int .i64 0, .int .i64 0] 36)) = X := ⟨_, rfl⟩
  rw [hX] at X0 Y0 Y1 ⊢
  have PX : Hid (Below w.heap.size w X ∧ X.heap[w.heap.size]? = some (.cells #[.slice co cn cc, .slice go gn gc, .int .i64 t, .slice lo ln lc, .int .i64 K, .int .i64 D, .int .i64 L] 28) ∧ X.heap[w.heap.size + 1]? = some (.cells #[.slice none 0 0, .slice none 0 0, .int .i64 0, .slice none 0 0, .int .i64 0, .int .i64 0, .int .i64 0] 36)) := ⟨X0, Y0, Y1⟩
  clear hX X0 Y0 Y1
  have SX : Below X.heap.size X X.drew := (Below.refl _ _).drew
  refine wp_region_noPanic ?_
  refine wp_region_P (S := (fun V => Below X.heap.size X V)) (s := 18) (by kernel_rfl) ?_
  refine takeP 3 (i := 0) (v := ?_) rfl rfl (by kernel_rfl) (by kernel_rfl) (by kernel_rfl) (by kernel_rfl) rfl (by kernel_rfl) (fun _ _ _ h => h) (Or.inl ⟨by kernel_rfl, ?_⟩) SX ?_
  rotate_left
  · intro w' hSw; have s0 := cellAtJ (kept hSw PX.out.2.1) 0 _ rfl; have s1 := cellAtJ (kept hSw PX.out.2.1) 1 _ rfl; have s2 := cellAtJ (kept hSw PX.out.2.1) 2 _ rfl; have s3 := cellAtJ (kept hSw PX.out.2.1) 3 _ rfl; have s4 := cellAtJ (kept hSw PX.out.2.1) 4 _ rfl; have s5 := cellAtJ (kept hSw PX.out.2.1) 5 _ rfl; have s6 := cellAtJ (kept hSw PX.out.2.1) 6 _ rfl; go_simp; try with_reducible rfl
  try simp only [Act.put, List.setIfInBounds_toArray, List.set_cons_zero, List.set_cons_succ]
  refine takeP 4 (i := 1) (v := ?_) rfl rfl (by kernel_rfl) (by kernel_rfl) (by kernel_rfl) (by kernel_rfl) rfl (by kernel_rfl) (fun _ _ _ h => h) (Or.inl ⟨by kernel_rfl, ?_⟩) SX ?_
  rotate_left
  · intro w' hSw; have s0 := cellAtJ (kept hSw PX.out.2.1) 0 _ rfl; have s1 := cellAtJ (kept hSw PX.out.2.1) 1 _ rfl; have s2 := cellAtJ (kept hSw PX.out.2.1) 2 _ rfl; have s3 := cellAtJ (kept hSw PX.out.2.1) 3 _ rfl; have s4 := cellAtJ (kept hSw PX.out.2.1) 4 _ rfl; have s5 := cellAtJ (kept hSw PX.out.2.1) 5 _ rfl; have s6 := cellAtJ (kept hSw PX.out.2.1) 6 _ rfl; go_simp; try with_reducible rfl
  try simp only [Act.put, List.setIfInBounds_toArray, List.set_cons_zero, List.set_cons_succ]
  refine takeP 6 (i := 3) (v := ?_) rfl rfl (by kernel_rfl) (by kernel_rfl) (by kernel_rfl) (by kernel_rfl) rfl (by kernel_rfl) (fun _ _ _ h => h) (Or.inl ⟨by kernel_rfl, ?_⟩) SX ?_
  rotate_left
  · intro w' hSw; have s0 := cellAtJ (kept hSw PX.out.2.1) 0 _ rfl; have s1 := cellAtJ (kept hSw PX.out.2.1) 1 _ rfl; have s2 := cellAtJ (kept hSw PX.out.2.1) 2 _ rfl; have s3 := cellAtJ (kept hSw PX.out.2.1) 3 _ rfl; have s4 := cellAtJ (kept hSw PX.out.2.1) 4 _ rfl; have s5 := cellAtJ (kept hSw PX.out.2.1) 5 _ rfl; have s6 := cellAtJ (kept hSw PX.out.2.1) 6 _ rfl; go_simp; try with_reducible rfl
  try simp only [Act.put, List.setIfInBounds_toArray, List.set_cons_zero, List.set_cons_succ]
  refine takeP 7 (i := 4) (v := ?_) rfl rfl (by kernel_rfl) (by kernel_rfl) (by kernel_rfl) (by kernel_rfl) rfl (by kernel_rfl) (fun _ _ _ h => h) (Or.inl ⟨by kernel_rfl, ?_⟩) SX ?_
  rotate_left
  · intro w' hSw; have s0 := cellAtJ (kept hSw PX.out.2.1) 0 _ rfl; have s1 := cellAtJ (kept hSw PX.out.2.1) 1 _ rfl; have s2 := cellAtJ (kept hSw PX.out.2.1) 2 _ rfl; have s3 := cellAtJ (kept hSw PX.out.2.1) 3 _ rfl; have s4 := cellAtJ (kept hSw PX.out.2.1) 4 _ rfl; have s5 := cellAtJ (kept hSw PX.out.2.1) 5 _ rfl; have s6 := cellAtJ (kept hSw PX.out.2.1) 6 _ rfl; go_simp; try with_reducible rfl
  try simp only [Act.put, List.setIfInBounds_toArray, List.set_cons_zero, List.set_cons_succ]
  refine takeP 9 (i := 6) (v := ?_) rfl rfl (by kernel_rfl) (by kernel_rfl) (by kernel_rfl) (by kernel_rfl) rfl (by kernel_rfl) (fun _ _ _ h => h) (Or.inl ⟨by kernel_rfl, ?_⟩) SX ?_
  rotate_left
  · intro w' hSw; have s0 := cellAtJ (kept hSw PX.out.2.1) 0 _ rfl; have s1 := cellAtJ (kept hSw PX.out.2.1) 1 _ rfl; have s2 := cellAtJ (kept hSw PX.out.2.1) 2 _ rfl; have s3 := cellAtJ (kept hSw PX.out.2.1) 3 _ rfl; have s4 := cellAtJ (kept hSw PX.out.2.1) 4 _ rfl; have s5 := cellAtJ (kept hSw PX.out.2.1) 5 _ rfl; have s6 := cellAtJ (kept hSw PX.out.2.1) 6 _ rfl; go_simp; try with_reducible rfl
  try simp only [Act.put, List.setIfInBounds_toArray, List.set_cons_zero, List.set_cons_succ]
  refine takeP 10 (i := 7) (v := ?_) rfl rfl (by kernel_rfl) (by kernel_rfl) (by kernel_rfl) (by kernel_rfl) rfl (by kernel_rfl) (fun _ _ _ h => h) (Or.inl ⟨by kernel_rfl, ?_⟩) SX ?_
  rotate_left
  · intro w' hSw; have s0 := cellAtJ (kept hSw PX.out.2.1) 0 _ rfl; have s1 := cellAtJ (kept hSw PX.out.2.1) 1 _ rfl; have s2 := cellAtJ (kept hSw PX.out.2.1) 2 _ rfl; have s3 := cellAtJ (kept hSw PX.out.2.1) 3 _ rfl; have s4 := cellAtJ (kept hSw PX.out.2.1) 4 _ rfl; have s5 := cellAtJ (kept hSw PX.out.2.1) 5 _ rfl; have s6 := cellAtJ (kept hSw PX.out.2.1) 6 _ rfl; go_simp; try with_reducible rfl
  try simp only [Act.put, List.setIfInBounds_toArray, List.set_cons_zero, List.set_cons_succ]
  refine takeP 11 (i := 8) (v := ?_) rfl rfl (by kernel_rfl) (by kernel_rfl) (by kernel_rfl) (by kernel_rfl) rfl (by kernel_rfl) (fun _ _ _ h => h) (Or.inl ⟨by kernel_rfl, ?_⟩) SX ?_
  rotate_left
  · intro w' hSw; have s0 := cellAtJ (kept hSw PX.out.2.1) 0 _ rfl; have s1 := cellAtJ (kept hSw PX.out.2.1) 1 _ rfl; have s2 := cellAtJ (kept hSw PX.out.2.1) 2 _ rfl; have s3 := cellAtJ (kept hSw PX.out.2.1) 3 _ rfl; have s4 := cellAtJ (kept hSw PX.out.2.1) 4 _ rfl; have s5 := cellAtJ (kept hSw PX.out.2.1) 5 _ rfl; have s6 := cellAtJ (kept hSw PX.out.2.1) 6 _ rfl; go_simp; try with_reducible rfl
  try simp only [Act.put, List.setIfInBounds_toArray, List.set_cons_zero, List.set_cons_succ]
  refine takeP 12 (i := 9) (v := ?_) rfl rfl (by kernel_rfl) (by kernel_rfl) (by kernel_rfl) (by kernel_rfl) rfl (by kernel_rfl) (fun _ _ _ h => h) (Or.inl ⟨by kernel_rfl, ?_⟩) SX ?_
  rotate_left
  · intro w' hSw; have s0 := cellAtJ (kept hSw PX.out.2.1) 0 _ rfl; have s1 := cellAtJ (kept hSw PX.out.2.1) 1 _ rfl; have s2 := cellAtJ (kept hSw PX.out.2.1) 2 _ rfl; have s3 := cellAtJ (kept hSw PX.out.2.1) 3 _ rfl; have s4 := cellAtJ (kept hSw PX.out.2.1) 4 _ rfl; have s5 := cellAtJ (kept hSw PX.out.2.1) 5 _ rfl; have s6 := cellAtJ (kept hSw PX.out.2.1) 6 _ rfl; go_simp; try with_reducible rfl
  try simp only [Act.put, List.setIfInBounds_toArray, List.set_cons_zero, List.set_cons_succ]
  refine takeP 14 (i := 11) (v := ?_) rfl rfl (by kernel_rfl) (by kernel_rfl) (by kernel_rfl) (by kernel_rfl) rfl (by kernel_rfl) (fun _ _ _ h => h) (Or.inl ⟨by kernel_rfl, ?_⟩) SX ?_
  rotate_left
  · intro w' hSw; have s0 := cellAtJ (kept hSw PX.out.2.1) 0 _ rfl; have s1 := cellAtJ (kept hSw PX.out.2.1) 1 _ rfl; have s2 := cellAtJ (kept hSw PX.out.2.1) 2 _ rfl; have s3 := cellAtJ (kept hSw PX.out.2.1) 3 _ rfl; have s4 := cellAtJ (kept hSw PX.out.2.1) 4 _ rfl; have s5 := cellAtJ (kept hSw PX.out.2.1) 5 _ rfl; have s6 := cellAtJ (kept hSw PX.out.2.1) 6 _ rfl; go_simp; try with_reducible rfl
  try simp only [Act.put, List.setIfInBounds_toArray, List.set_cons_zero, List.set_cons_succ]
  refine takeP 15 (i := 12) (v := ?_) rfl rfl (by kernel_rfl) (by kernel_rfl) (by kernel_rfl) (by kernel_rfl) rfl (by kernel_rfl) (fun _ _ _ h => h) (Or.inl ⟨by kernel_rfl, ?_⟩) SX ?_
  rotate_left
  · intro w' hSw; have s0 := cellAtJ (kept hSw PX.out.2.1) 0 _ rfl; have s1 := cellAtJ (kept hSw PX.out.2.1) 1 _ rfl; have s2 := cellAtJ (kept hSw PX.out.2.1) 2 _ rfl; have s3 := cellAtJ (kept hSw PX.out.2.1) 3 _ rfl; have s4 := cellAtJ (kept hSw PX.out.2.1) 4 _ rfl; have s5 := cellAtJ (kept hSw PX.out.2.1) 5 _ rfl; have s6 := cellAtJ (kept hSw PX.out.2.1) 6 _ rfl; go_simp; try with_reducible rfl
  try simp only [Act.put, List.setIfInBounds_toArray, List.set_cons_zero, List.set_cons_succ]
  refine takeP 16 (i := 13) (v := ?_) rfl rfl (by kernel_rfl) (by kernel_rfl) (by kernel_rfl) (by kernel_rfl) rfl (by kernel_rfl) (fun _ _ _ h => h) (Or.inl ⟨by kernel_rfl, ?_⟩) SX ?_
  rotate_left
  · intro w' hSw; have s0 := cellAtJ (kept hSw PX.out.2.1) 0 _ rfl; have s1 := cellAtJ (kept hSw PX.out.2.1) 1 _ rfl; have s2 := cellAtJ (kept hSw PX.out.2.1) 2 _ rfl; have s3 := cellAtJ (kept hSw PX.out.2.1) 3 _ rfl; have s4 := cellAtJ (kept hSw PX.out.2.1) 4 _ rfl; have s5 := cellAtJ (kept hSw PX.out.2.1) 5 _ rfl; have s6 := cellAtJ (kept hSw PX.out.2.1) 6 _ rfl; go_simp; try with_reducible rfl
  try simp only [Act.put, List.setIfInBounds_toArray, List.set_cons_zero, List.set_cons_succ]
  refine takeP 17 (i := 14) (v := ?_) rfl rfl (by kernel_rfl) (by kernel_rfl) (by kernel_rfl) (by kernel_rfl) rfl (by kernel_rfl) (fun _ _ _ h => h) (Or.inl ⟨by kernel_rfl, ?_⟩) SX ?_
  rotate_left
  · intro w' hSw; have s0 := cellAtJ (kept hSw PX.out.2.1) 0 _ rfl; have s1 := cellAtJ (kept hSw PX.out.2.1) 1 _ rfl; have s2 := cellAtJ (kept hSw PX.out.2.1) 2 _ rfl; have s3 := cellAtJ (kept hSw PX.out.2.1) 3 _ rfl; have s4 := cellAtJ (kept hSw PX.out.2.1) 4 _ rfl; have s5 := cellAtJ (kept hSw PX.out.2.1) 5 _ rfl; have s6 := cellAtJ (kept hSw PX.out.2.1) 6 _ rfl; go_simp; try with_reducible rfl
  try simp only [Act.put, List.setIfInBounds_toArray, List.set_cons_zero, List.set_cons_succ]
  refine takeP 18 (i := 15) (v := ?_) rfl rfl (by kernel_rfl) (by kernel_rfl) (by kernel_rfl) (by kernel_rfl) rfl (by kernel_rfl) (fun _ _ _ h => h) (Or.inl ⟨by kernel_rfl, ?_⟩) SX ?_
  rotate_left
  · intro w' hSw; have s0 := cellAtJ (kept hSw PX.out.2.1) 0 _ rfl; have s1 := cellAtJ (kept hSw PX.out.2.1) 1 _ rfl; have s2 := cellAtJ (kept hSw PX.out.2.1) 2 _ rfl; have s3 := cellAtJ (kept hSw PX.out.2.1) 3 _ rfl; have s4 := cellAtJ (kept hSw PX.out.2.1) 4 _ rfl; have s5 := cellAtJ (kept hSw PX.out.2.1) 5 _ rfl; have s6 := cellAtJ (kept hSw PX.out.2.1) 6 _ rfl; go_simp; try with_reducible rfl
  try simp only [Act.put, List.setIfInBounds_toArray, List.set_cons_zero, List.set_cons_succ]
  refine takeP 19 (i := 16) (v := ?_) rfl rfl (by kernel_rfl) (by kernel_rfl) (by kernel_rfl) (by kernel_rfl) rfl (by kernel_rfl) (fun _ _ _ h => h) (Or.inl ⟨by kernel_rfl, ?_⟩) SX ?_
  rotate_left
  · intro w' hSw; have s0 := cellAtJ (kept hSw PX.out.2.1) 0 _ rfl; have s1 := cellAtJ (kept hSw PX.out.2.1) 1 _ rfl; have s2 := cellAtJ (kept hSw PX.out.2.1) 2 _ rfl; have s3 := cellAtJ (kept hSw PX.out.2.1) 3 _ rfl; have s4 := cellAtJ (kept hSw PX.out.2.1) 4 _ rfl; have s5 := cellAtJ (kept hSw PX.out.2.1) 5 _ rfl; have s6 := cellAtJ (kept hSw PX.out.2.1) 6 _ rfl; go_simp; try with_reducible rfl
  try simp only [Act.put, List.setIfInBounds_toArray, List.set_cons_zero, List.set_cons_succ]
  refine wpAnyP_ready (rs := [2]) (by kernel_rfl) (by simp) ?_
  refine consP _ rfl (hopCd 5 rfl (by kernel_rfl) rfl (by kernel_rfl) (Calls.mono (bits6_any co cn cc cs _ (HC.out _ (to_call PX.out.1 SX)) hcn) ?_)) AllReadyP.nil
  rintro e V1 ⟨v1, rfl, ho1, b1⟩
  have SX : Below X.heap.size X V1 := to_call SX b1
  obtain ⟨o1, c1, rfl, -⟩ := rdU_own ho1
  clear ho1 b1
  obtain ⟨l1, hl1⟩ : ∃ l1, cs.length = l1 := ⟨_, rfl⟩
  rw [hl1]
  refine ⟨_, rfl, SX, ?_⟩
  try simp only [Act.put, List.setIfInBounds_toArray, List.set_cons_zero, List.set_cons_succ]
  refine wpAnyP_ready (rs := [5]) (by kernel_rfl) (by simp) ?_
  refine consP _ rfl (hopCd 8 rfl (by kernel_rfl) rfl (by kernel_rfl) (Calls.mono (bitsOf6_any go gn gc gvg gs _ (HG.out _ (to_call PX.out.1 SX)) hgn HGL.out) ?_)) AllReadyP.nil
  rintro e V2 ⟨⟨o2, c2, gl2, rfl, -⟩, b2⟩
  have SX : Below X.heap.size X V2 := to_call SX b2
  clear b2
  refine ⟨_, rfl, SX, ?_⟩
  try simp only [Act.put, List.setIfInBounds_toArray, List.set_cons_zero, List.set_cons_succ]
  refine wpAnyP_ready (rs := [10]) (by kernel_rfl) (by simp) ?_
  refine consP _ rfl (hopCd 13 rfl (by kernel_rfl) rfl (by kernel_rfl) (Calls.mono (bitsOf6_any lo ln lc gvl ls _ (HL.out _ (to_call PX.out.1 SX)) hln HLL.out) ?_)) AllReadyP.nil
  rintro e V3 ⟨⟨o3, c3, gl3, rfl, hq3⟩, b3⟩
  have SX : Below X.heap.size X V3 := to_call SX b3
  clear b3
  refine ⟨_, rfl, SX, ?_⟩
  try simp only [Act.put, List.setIfInBounds_toArray, List.set_cons_zero, List.set_cons_succ]
  refine takeP 20 (i := 17) (v := ?_) rfl rfl (by kernel_rfl) (by kernel_rfl) (by kernel_rfl) (by kernel_rfl) rfl (by kernel_rfl) (fun _ _ _ h => h) (Or.inl ⟨by kernel_rfl, ?_⟩) SX ?_
  rotate_left
  · intro w' hSw; skip; go_simp; try with_reducible rfl
  try simp only [Act.put, List.setIfInBounds_toArray, List.set_cons_zero, List.set_cons_succ]
  refine wpAnyP_ready (rs := [18]) (by kernel_rfl) (by simp) ?_
  refine consPs _ rfl (by kernel_rfl) (hopL rfl (wpList_store_row (by rfl) 36 _ _ (by rfl) w w.heap.size (w.heap.size + 1) #[.slice o1 l1 c1, .slice o2 gn c2, .int .i64 t, .slice o3 ln c3, .int .i64 K, .int .i64 D, .int .i64 L] _ (by kernel_rfl) (by kernel_rfl) (kept SX PX.out.2.2) (to_call PX.out.1 SX) (Nat.le_succ _) 7 Try.infoRefPropM rfl rfl (one7M _ _ _ _ _ _ _ _ _ _ _ _ _) fun W9 e9 b9 s9 o9 => ?_)) AllReadyP.nil
  refine ⟨trivial, ?_⟩
  try simp only [Act.put, List.setIfInBounds_toArray, List.set_cons_zero, List.set_cons_succ]
  refine wpAnyP_done (by kernel_rfl) ?_ _
  refine NoPanic.normal ?_
  try simp only [Act.put, List.setIfInBounds_toArray, List.set_cons_zero, List.set_cons_succ]
  have HL9 : Hid (OfL W9 V2.heap.size [] [] [] ls (.slice none 0 0) (.slice none 0 0) (.slice none 0 0) (.slice o3 ln c3) gl3) := by
    refine hq3.out.keepP fun k cur ty ht hc => o9 k fun e => ht ?_
    have h9 := kept SX PX.out.2.2
    rw [e] at hc
    rw [h9] at hc
    injection hc with hc
    injection hc with _ hc
    exact hc.symm
  obtain ⟨gv3, hr9⟩ := HL9.out.guS
  have HR9 : Hid (RdGu W9 o3 ln c3 gv3 ls) := hr9
  have E9 : Hid (W9.heap[w.heap.size + 1]? = some (.cells #[.slice o1 l1 c1, .slice o2 gn c2, .int .i64 t, .slice o3 ln c3, .int .i64 K, .int .i64 D, .int .i64 L] 36)) := e9
  have B9 : Hid (Below w.heap.size w W9) := b9
  clear SX e9 b9 s9 o9 hq3 HL9 hr9 PX
  go_wp2_with fail
  refine bodyPost_ret (res_propM _ 2 (by kernel_rfl) _ _ (w.heap.size + 1) _ (by rfl) rfl E9.out) rfl ?_
  exact ⟨⟨o1, o2, o3, l1, c1, c2, c3, gv3, rfl, HR9⟩, B9.out⟩
end Go.Proofs.Ytaloaholmhcflaa

namespace Go.Proofs.Ytaloaholmhcflaa
open Go.RowKit Go.Shelf
set_option linter.unusedVariables false
set_option linter.unusedSimpArgs false
def fF (u : Nat) : Value := .float .f64 u
theorem fF_cells (x : Nat) : (fF x).cells.toList = [fF x] := rfl
theorem mapC_set (f : Nat → Value) (hf : ∀ x, (f x).cells.toList = [f x]) (us : List Nat) (j x : Nat) (h : j < us.length) : ((us.map f).toArray.toList.take j ++ (f x).cells.toList ++ (us.map f).toArray.toList.drop (j + 1)).toArray = ((us.set j x).map f).toArray := by
  rw [hf]
  congr 1
  show (List.map f us).take j ++ [f x] ++ (List.map f us).drop (j + 1) = _
  rw [List.map_set, List.set_eq_take_append_cons_drop, if_pos (by rw [List.length_map]; exact h), List.append_assoc]
  rfl
theorem mapC_zero (f : Nat → Value) (n : Nat) : madeCells #[f 0] n = ((List.replicate n 0).map f).toArray := by
  apply Array.ext_getElem?
  intro j
  by_cases h : j < n
  · unfold madeCells
    simp [h, Nat.mod_one]
  · rw [Array.getElem?_eq_none (by unfold madeCells; simp; omega), Array.getElem?_eq_none (by simp; omega)]
theorem own_blkC {W : World} {B base : Nat} {E : TypeId} {us : List Nat} {f : Nat → Value} (h : W.heap[B]? = some (.cells (us.map f).toArray E)) (hb : base ≤ B) (hm : us.length ≤ maxLen) : W.ownsRow base E 1 (.slice (some ⟨B, 0, none⟩) us.length us.length) us.length (us.map f) :=
  ⟨by simp, .inr ⟨B, us.length, _, rfl, hb, h, Nat.le_refl _, hm, by simp, by rw [Nat.mul_one]; exact List.take_of_length_le (by simp)⟩⟩
/-- The row of a target t above output j. -/
def abR (m t j : Nat) : List Nat := ((List.replicate (m + 1) 0).set t 4607182418800017408).set j 13830554455654793216
theorem abR_len (m t j : Nat) : (abR m t j).length = m + 1 := by unfold abR; simp
theorem one_fF (x : Nat) : ∀ u ∈ (fF x).cells.toList, u.oneCell' = true := by
  intro u hu
  rw [fF_cells] at hu
  rw [List.mem_singleton.1 hu]; rfl
theorem makeFM (n : Nat) (hn : n ≤ 1000000) (w : World) :
    (Instr.makeSlice 22 (.int .i64 ((n : Int) + 1)) (.int .i64 ((n : Int) + 1))).run Try.prog w = .ok (.slice (some ⟨w.heap.size, 0, none⟩) (n + 1) (n + 1)) (w.alloc (.cells ((List.replicate (n + 1) 0).map fF).toArray 50)) := by
  obtain ⟨i0, hi, hz0, hz1, hz2⟩ := info3J Try.infoFJ
  have h := run_makeSlice (P := Try.prog) w 22 50 i0 (.float .f64 0) Try.underlying22 hi hz0 .i64 .i64 ((n + 1 : Nat) : Int) ((n + 1 : Nat) : Int) (by omega) (by omega) (by rw [hz1, Int.toNat_natCast]; omega) (by rw [hz2]; omega) (by omega)
  rw [Int.toNat_natCast, hz1, Nat.mul_one] at h
  rw [← mapC_zero fF]
  exact h
set_option maxRecDepth 100000 in
set_option maxHeartbeats 4000000 in
theorem above_any17 (t j m : Nat) (ht : t ≤ m) (hj : j ≤ m) (hm : m ≤ 256) (w : World) : Calls Try.prog 21 #[.int .i64 (t : Int), .int .i64 (j : Int), .int .i64 (m : Int)] w fun e w' => e = .returned (.slice (some ⟨w.heap.size, 0, none⟩) (m + 1) (m + 1)) ∧ w'.ownsRow w.heap.size 50 1 (.slice (some ⟨w.heap.size, 0, none⟩) (m + 1) (m + 1)) (abR m t j).length ((abR m t j).map fF) ∧ Below w.heap.size w w' := by
  have hmk := makeFM m (by omega)
  obtain ⟨C0, hC0⟩ : ∃ C0 : Array Value, ((List.replicate (m + 1) 0).map fF).toArray = C0 := ⟨_, rfl⟩
  rw [hC0] at hmk
  have HC0 : Hid (((List.replicate (m + 1) 0).map fF).toArray = C0) := hC0
  clear hC0
  have hwm : IntKind.i64.wrap ((m : Int) + 1) = (m : Int) + 1 := by rw [IntKind.wrap_i64]; omega
  have Y0 : (w.alloc (.cells C0 50)).heap[w.heap.size]? = some (.cells C0 50) := heap_alloc_new w _
  have X0 : Below w.heap.size w (w.alloc (.cells C0 50)) := (Below.refl _ w).alloc (Nat.le_refl _) _
  have hti : (t : Int) < (m : Int) + 1 := by omega
  have hji : (j : Int) < (m : Int) + 1 := by omega
  have htn : t < m + 1 := by omega
  have hjn : j < m + 1 := by omega
  have HM : Hid (m + 1 ≤ maxLen) := Nat.le_trans (show m + 1 ≤ 1000000 by omega) (by decide)
  go_enter Try.func21, Try.ntmps21
  go_upto_region 2 with fail
  obtain ⟨X, hX⟩ : ∃ X, (w.alloc (.cells C0 50)) = X := ⟨_, rfl⟩
  rw [hX] at Y0 X0 ⊢
  have PX : Hid (X.heap[w.heap.size]? = some (.cells C0 50) ∧ Below w.heap.size w X) := ⟨Y0, X0⟩
  clear hX hmk X0 Y0
  go_wp2_with (first
    | (refine wpList_store_at (by rfl) 50 _ _ (by rfl) w w.heap.size w.heap.size t (fF 4607182418800017408) _ (((List.replicate (m + 1) 0).set t 4607182418800017408).map fF).toArray 50 (by kernel_rfl) (by kernel_rfl) PX.out.1 PX.out.2 (Nat.le_refl _) 1 Try.szFM rfl (by rw [← HC0.out]; simp; omega) (one_fF _) (by rw [← HC0.out]; exact mapC_set fF fF_cells _ t 4607182418800017408 (by simp; omega)) ?_; intro W2 e2 b2 s2 o2)
    | (refine wpList_store_at (by rfl) 50 _ _ (by rfl) w w.heap.size w.heap.size j (fF 13830554455654793216) _ ((abR m t j).map fF).toArray 50 (by kernel_rfl) (by kernel_rfl) e2 b2 (Nat.le_refl _) 1 Try.szFM rfl (by simp; omega) (one_fF _) (mapC_set fF fF_cells _ j 13830554455654793216 (by simp; omega)) ?_; intro W3 e3 b3 s3 o3))
  have P3 : Hid (W3.heap[w.heap.size]? = some (.cells ((abR m t j).map fF).toArray 50) ∧ Below w.heap.size w W3) := ⟨e3, b3⟩
  clear e3 b3 s3 o3
  go_wp2_with fail
  go_ret
  refine ⟨rfl, ?_, P3.out.2⟩
  have h9 := own_blkC (base := w.heap.size) P3.out.1 (Nat.le_refl _) (by rw [abR_len]; exact HM.out)
  rw [abR_len] at h9 ⊢
  exact h9
end Go.Proofs.Ytaloaholmhcflaa

namespace Go.Proofs.Ytaloaholmhcflaa
open Go.RowKit Go.Shelf
set_option linter.unusedVariables false
set_option linter.unusedSimpArgs false
theorem any_take_snoc {p : List Nat → Bool} {css : List (List Nat)} {k : Nat} (h : k < css.length) : (css.take (k + 1)).any p = ((css.take k).any p || p (css[k]?.getD [])) := by
  rw [List.take_succ_eq_append_getElem h, List.getElem?_eq_getElem h, List.any_append]
  simp
theorem any_of_at {p : List Nat → Bool} {css : List (List Nat)} {k : Nat} (h : k < css.length) (hp : p (css[k]?.getD []) = true) : css.any p = true := by
  rw [List.any_eq_true]
  rw [List.getElem?_eq_getElem h] at hp
  exact ⟨_, List.getElem_mem h, hp⟩
set_option maxRecDepth 100000 in
set_option maxHeartbeats 4000000 in
theorem indexLA (B : Nat) (p : List Nat → Bool) (ao : Option Addr) (len cap : Nat) (gv : Nat → Option Addr × Nat × Nat) (css : List (List Nat)) (w : World) (h : RdGs w ao len cap gv css) (hcl : (∀ x1 x2 x3 us, RdF w x1 x2 x3 us → Calls Try.prog 34 #[.slice x1 x2 x3, .pointer (some ⟨B, 0, none⟩)] w fun e w' => e = .returned (.bool (p us)) ∧ w' = w)) :
    Calls Try.prog 52 #[.slice ao len cap, .func (.func 34) #[] #[.pointer (some ⟨B, 0, none⟩)]] w fun e w' => (∃ i : Int, e = .returned (.int .i64 i) ∧ Hid (decide (i ≥ 0) = css.any p)) ∧ w' = w := by
  have HR : Hid (RdGs w ao len cap gv css) := h
  have HCL : Hid (∀ x1 x2 x3 us, RdF w x1 x2 x3 us → Calls Try.prog 34 #[.slice x1 x2 x3, .pointer (some ⟨B, 0, none⟩)] w fun e w' => e = .returned (.bool (p us)) ∧ w' = w) := hcl
  have hmx : len ≤ 9223372036854775807 := Nat.le_trans h.max maxLen_le
  have HLN : Hid (css.length = len) := h.length
  clear h hcl
  go_enter Try.func52, Try.ntmps52
  go_wp2_with fail
  go_loopg [8] len (fun g iv wx => ∃ k : Nat, iv = .int .i64 k ∧ k + g = len ∧ Hid (wx = w) ∧ Hid ((css.take k).any p = false))
  case atStart => exact ⟨0, rfl, by omega, rfl, rfl⟩
  case round =>
    obtain ⟨k, rfl, hk, HW, HF⟩ := hrel
    have e0 : wr = w := HW.out
    subst e0
    by_cases hlt : k < len
    · have hd : decide ((k : Int) < (len : Int)) = true := decide_eq_true (by omega)
      obtain ⟨g, rfl⟩ : ∃ g, gk = g + 1 := ⟨gk - 1, by omega⟩
      rcases HR.out.cells with h0 | ⟨ab, aoff, rfl, hca⟩
      · omega
      have ga := hca k hlt
      have ra := HR.out.each k hlt
      have HKL : Hid (k < css.length) := by unfold Hid; rw [HLN.out]; exact hlt
      have HIG : Hid (k + (g + 1) = len) := hk
      obtain ⟨x1, ex1⟩ : ∃ t, (gv k).1 = t := ⟨_, rfl⟩
      obtain ⟨x2, ex2⟩ : ∃ t, (gv k).2.1 = t := ⟨_, rfl⟩
      obtain ⟨x3, ex3⟩ : ∃ t, (gv k).2.2 = t := ⟨_, rfl⟩
      rw [ex1, ex2, ex3] at ga ra
      have HC1 := HCL.out x1 x2 x3 _ ra
      obtain ⟨b, hb⟩ : ∃ b, p (css[k]?.getD []) = b := ⟨_, rfl⟩
      rw [hb] at HC1
      have HB : Hid (p (css[k]?.getD []) = b) := hb
      clear hca ra ex1 ex2 ex3 hk hb
      cases b with
      | false =>
        go_wp2_with (go_at_call 34; refine HC1.mono ?_; rintro e w' ⟨rfl, rfl⟩)
        go_roundg g
        case measure => omega
        case rel => exact ⟨k + 1, by go_num, by have := HIG.out; omega, rfl, by unfold Hid; rw [any_take_snoc HKL.out, HF.out, HB.out]; rfl⟩
      | true =>
        go_wp2_with (go_at_call 34; refine HC1.mono ?_; rintro e w' ⟨rfl, rfl⟩)
        go_ret
        exact ⟨⟨_, rfl, by unfold Hid; rw [any_of_at HKL.out HB.out]; exact decide_eq_true (by omega)⟩, rfl⟩
    · have hd : decide ((k : Int) < (len : Int)) = false := decide_eq_false (by omega)
      have hd' : decide (k < len) = false := decide_eq_false (by omega)
      have HE : Hid (css.any p = false) := by
        have h9 := HF.out
        rw [List.take_of_length_le (by rw [HLN.out]; omega)] at h9
        exact h9
      go_wp2_with fail
      go_ret
      exact ⟨⟨_, rfl, by unfold Hid; rw [HE.out]; rfl⟩, rfl⟩
theorem containsLA (B : Nat) (p : List Nat → Bool) (ao : Option Addr) (len cap : Nat) (gv : Nat → Option Addr × Nat × Nat) (css : List (List Nat)) (w : World) (h : RdGs w ao len cap gv css) (hcl : (∀ x1 x2 x3 us, RdF w x1 x2 x3 us → Calls Try.prog 34 #[.slice x1 x2 x3, .pointer (some ⟨B, 0, none⟩)] w fun e w' => e = .returned (.bool (p us)) ∧ w' = w)) :
    Calls Try.prog 35 #[.slice ao len cap, .func (.func 34) #[] #[.pointer (some ⟨B, 0, none⟩)]] w fun e w' => e = .returned (.bool (css.any p)) ∧ w' = w := by
  have HR : Hid (RdGs w ao len cap gv css) := h
  have HCL : Hid (∀ x1 x2 x3 us, RdF w x1 x2 x3 us → Calls Try.prog 34 #[.slice x1 x2 x3, .pointer (some ⟨B, 0, none⟩)] w fun e w' => e = .returned (.bool (p us)) ∧ w' = w) := hcl
  clear h hcl
  go_enter Try.func35, Try.ntmps35
  go_wp2_with (go_at_call 52; refine (indexLA B p ao len cap gv css _ HR.out HCL.out).mono ?_; rintro e w' ⟨⟨i, rfl, hi⟩, rfl⟩)
  go_ret
  exact ⟨by rw [← hi.out]; rfl, rfl⟩
set_option maxRecDepth 100000 in
set_option maxHeartbeats 4000000 in
theorem indexLB (p : List Nat → Bool) (ao : Option Addr) (len cap : Nat) (gv : Nat → Option Addr × Nat × Nat) (css : List (List Nat)) (w : World) (h : RdGs w ao len cap gv css) (hcl : (∀ x1 x2 x3 us, RdF w x1 x2 x3 us → Calls Try.prog 36 #[.slice x1 x2 x3] w fun e w' => e = .returned (.bool (p us)) ∧ w' = w)) :
    Calls Try.prog 52 #[.slice ao len cap, .func (.func 36) #[] #[]] w fun e w' => (∃ i : Int, e = .returned (.int .i64 i) ∧ Hid (decide (i ≥ 0) = css.any p)) ∧ w' = w := by
  have HR : Hid (RdGs w ao len cap gv css) := h
  have HCL : Hid (∀ x1 x2 x3 us, RdF w x1 x2 x3 us → Calls Try.prog 36 #[.slice x1 x2 x3] w fun e w' => e = .returned (.bool (p us)) ∧ w' = w) := hcl
  have hmx : len ≤ 9223372036854775807 := Nat.le_trans h.max maxLen_le
  have HLN : Hid (css.length = len) := h.length
  clear h hcl
  go_enter Try.func52, Try.ntmps52
  go_wp2_with fail
  go_loopg [8] len (fun g iv wx => ∃ k : Nat, iv = .int .i64 k ∧ k + g = len ∧ Hid (wx = w) ∧ Hid ((css.take k).any p = false))
  case atStart => exact ⟨0, rfl, by omega, rfl, rfl⟩
  case round =>
    obtain ⟨k, rfl, hk, HW, HF⟩ := hrel
    have e0 : wr = w := HW.out
    subst e0
    by_cases hlt : k < len
    · have hd : decide ((k : Int) < (len : Int)) = true := decide_eq_true (by omega)
      obtain ⟨g, rfl⟩ : ∃ g, gk = g + 1 := ⟨gk - 1, by omega⟩
      rcases HR.out.cells with h0 | ⟨ab, aoff, rfl, hca⟩
      · omega
      have ga := hca k hlt
      have ra := HR.out.each k hlt
      have HKL : Hid (k < css.length) := by unfold Hid; rw [HLN.out]; exact hlt
      have HIG : Hid (k + (g + 1) = len) := hk
      obtain ⟨x1, ex1⟩ : ∃ t, (gv k).1 = t := ⟨_, rfl⟩
      obtain ⟨x2, ex2⟩ : ∃ t, (gv k).2.1 = t := ⟨_, rfl⟩
      obtain ⟨x3, ex3⟩ : ∃ t, (gv k).2.2 = t := ⟨_, rfl⟩
      rw [ex1, ex2, ex3] at ga ra
      have HC1 := HCL.out x1 x2 x3 _ ra
      obtain ⟨b, hb⟩ : ∃ b, p (css[k]?.getD []) = b := ⟨_, rfl⟩
      rw [hb] at HC1
      have HB : Hid (p (css[k]?.getD []) = b) := hb
      clear hca ra ex1 ex2 ex3 hk hb
      cases b with
      | false =>
        go_wp2_with (go_at_call 36; refine HC1.mono ?_; rintro e w' ⟨rfl, rfl⟩)
        go_roundg g
        case measure => omega
        case rel => exact ⟨k + 1, by go_num, by have := HIG.out; omega, rfl, by unfold Hid; rw [any_take_snoc HKL.out, HF.out, HB.out]; rfl⟩
      | true =>
        go_wp2_with (go_at_call 36; refine HC1.mono ?_; rintro e w' ⟨rfl, rfl⟩)
        go_ret
        exact ⟨⟨_, rfl, by unfold Hid; rw [any_of_at HKL.out HB.out]; exact decide_eq_true (by omega)⟩, rfl⟩
    · have hd : decide ((k : Int) < (len : Int)) = false := decide_eq_false (by omega)
      have hd' : decide (k < len) = false := decide_eq_false (by omega)
      have HE : Hid (css.any p = false) := by
        have h9 := HF.out
        rw [List.take_of_length_le (by rw [HLN.out]; omega)] at h9
        exact h9
      go_wp2_with fail
      go_ret
      exact ⟨⟨_, rfl, by unfold Hid; rw [HE.out]; rfl⟩, rfl⟩
theorem containsLB (p : List Nat → Bool) (ao : Option Addr) (len cap : Nat) (gv : Nat → Option Addr × Nat × Nat) (css : List (List Nat)) (w : World) (h : RdGs w ao len cap gv css) (hcl : (∀ x1 x2 x3 us, RdF w x1 x2 x3 us → Calls Try.prog 36 #[.slice x1 x2 x3] w fun e w' => e = .returned (.bool (p us)) ∧ w' = w)) :
    Calls Try.prog 35 #[.slice ao len cap, .func (.func 36) #[] #[]] w fun e w' => e = .returned (.bool (css.any p)) ∧ w' = w := by
  have HR : Hid (RdGs w ao len cap gv css) := h
  have HCL : Hid (∀ x1 x2 x3 us, RdF w x1 x2 x3 us → Calls Try.prog 36 #[.slice x1 x2 x3] w fun e w' => e = .returned (.bool (p us)) ∧ w' = w) := hcl
  clear h hcl
  go_enter Try.func35, Try.ntmps35
  go_wp2_with (go_at_call 52; refine (indexLB p ao len cap gv css _ HR.out HCL.out).mono ?_; rintro e w' ⟨⟨i, rfl, hi⟩, rfl⟩)
  go_ret
  exact ⟨by rw [← hi.out]; rfl, rfl⟩
def unl (m : Int) (us : List Nat) : Bool := (us.length : Int) != m + 1
theorem unlike_any (B : Nat) (m : Int) (hm : -100000 ≤ m ∧ m ≤ 100000) (x1 : Option Addr) (x2 x3 : Nat) (us : List Nat) (w : World) (h : RdF w x1 x2 x3 us) (hB : w.cell? ⟨B, 0, none⟩ = some (.int .i64 m)) :
    Calls Try.prog 34 #[.slice x1 x2 x3, .pointer (some ⟨B, 0, none⟩)] w fun e w' => e = .returned (.bool (unl m us)) ∧ w' = w := by
  have hw : IntKind.i64.wrap (m + 1) = m + 1 := by rw [IntKind.wrap_i64]; omega
  have hmx : x2 ≤ 9223372036854775807 := Nat.le_trans h.max maxLen_le
  have HLN : Hid (us.length = x2) := h.length
  clear h
  go_enter Try.func34, Try.ntmps34
  go_wp2_with fail
  go_ret
  exact ⟨by unfold unl; rw [HLN.out]; rfl, rfl⟩
end Go.Proofs.Ytaloaholmhcflaa

namespace Go.Proofs.Ytaloaholmhcflaa
open Go.RowKit Go.Shelf
set_option linter.unusedVariables false
set_option linter.unusedSimpArgs false
/-- What mayClaim tells. -/
def mayE (m t : Int) (ls : List (List Nat)) : Int :=
  if m < 1 ∨ 256 < m ∨ t < -1 ∨ m ≤ t then 68 else if ls.length = 0 ∧ (t = -1 ∨ m = 1) then 68 else if ls.any (unl m) = true then 63 else if ls.any (fun a => !numsB a) = true then 64 else 0
set_option maxRecDepth 100000 in
set_option maxHeartbeats 4000000 in
theorem may17_any (co go lo : Option Addr) (cn cc gn gc ln lc : Nat) (gv : Nat → Option Addr × Nat × Nat) (ls : List (List Nat)) (t K D L m : Int) (w : World) (hl : RdGs w lo ln lc gv ls) :
    Calls Try.prog 20 #[.agg #[.slice co cn cc, .slice go gn gc, .int .i64 t, .slice lo ln lc, .int .i64 K, .int .i64 D, .int .i64 L], .int .i64 m] w fun e w' => e = .returned (.int .i64 (mayE m t ls)) ∧ Below w.heap.size w w' := by
  have X0 : Below w.heap.size w ((w.alloc (.cells #[.slice co cn cc, .slice go gn gc, .int .i64 t, .slice lo ln lc, .int .i64 K, .int .i64 D, .int .i64 L] 28)).alloc (.cells #[.int .i64 m] 3)) := ((Below.refl _ w).alloc (Nat.le_refl _) _).alloc (by simp only [alloc_size]; omega) _
  have Y0 : ((w.alloc (.cells #[.slice co cn cc, .slice go gn gc, .int .i64 t, .slice lo ln lc, .int .i64 K, .int .i64 D, .int .i64 L] 28)).alloc (.cells #[.int .i64 m] 3)).heap[w.heap.size]? = some (.cells #[.slice co cn cc, .slice go gn gc, .int .i64 t, .slice lo ln lc, .int .i64 K, .int .i64 D, .int .i64 L] 28) := alloc_kept (heap_alloc_new w _) _
  have Y1 : ((w.alloc (.cells #[.slice co cn cc, .slice go gn gc, .int .i64 t, .slice lo ln lc, .int .i64 K, .int .i64 D, .int .i64 L] 28)).alloc (.cells #[.int .i64 m] 3)).heap[w.heap.size + 1]? = some (.cells #[.int .i64 m] 3) := heap_at _ _ (w.heap.size + 1) (by simp only [alloc_size])
  have RL0 : Hid (∀ W', Below w.heap.size w W' → RdGs W' lo ln lc gv ls) := fun W' hb => hl.later hb
  have hmx : ln ≤ 9223372036854775807 := Nat.le_trans hl.max maxLen_le
  have HLN : Hid (ls.length = ln) := hl.length
  clear hl
  go_enter Try.func20, Try.ntmps20
  go_upto_region 1 with fail
  obtain ⟨X, hX⟩ : ∃ X, ((w.alloc (.cells #[.slice co cn cc, .slice go gn gc, .int .i64 t, .slice lo ln lc, .int .i64 K, .int .i64 D, .int .i64 L] 28)).alloc (.cells #[.int .i64 m] 3)) = X := ⟨_, rfl⟩
  rw [hX] at X0 Y0 Y1 ⊢
  clear hX
  have RL : Hid (RdGs X lo ln lc gv ls) := RL0.out _ X0
  have X0 : Hid (Below w.heap.size w X) := X0
  have c2 := cellAtJ Y0 2 _ rfl
  have c3 := cellAtJ Y0 3 _ rfl
  have d0 := cellAtJ Y1 0 _ rfl
  have D0 : Hid (X.cell? ⟨w.heap.size + 1, 0, none⟩ = some (.int .i64 m)) := d0
  clear Y0 Y1 RL0
  by_cases h1 : m < 1
  · have hd1 : decide (m < 1) = true := decide_eq_true h1
    have HV : Hid (mayE m t ls = 68) := by unfold Hid mayE; exact if_pos (by omega)
    go_wp2_with fail
    go_ret
    exact ⟨by rw [HV.out]; rfl, X0.out⟩
  have hd1 : decide (m < 1) = false := decide_eq_false h1
  by_cases h2 : m > 256
  · have hd2 : decide (m > 256) = true := decide_eq_true h2
    have HV : Hid (mayE m t ls = 68) := by unfold Hid mayE; exact if_pos (by omega)
    go_wp2_with fail
    go_ret
    exact ⟨by rw [HV.out]; rfl, X0.out⟩
  have hd2 : decide (m > 256) = false := decide_eq_false h2
  by_cases h3 : t < -1
  · have hd3 : decide (t < -1) = true := decide_eq_true h3
    have HV : Hid (mayE m t ls = 68) := by unfold Hid mayE; exact if_pos (by omega)
    go_wp2_with fail
    go_ret
    exact ⟨by rw [HV.out]; rfl, X0.out⟩
  have hd3 : decide (t < -1) = false := decide_eq_false h3
  by_cases h4 : t ≥ m
  · have hd4 : decide (t ≥ m) = true := decide_eq_true h4
    have HV : Hid (mayE m t ls = 68) := by unfold Hid mayE; exact if_pos (by omega)
    go_wp2_with fail
    go_ret
    exact ⟨by rw [HV.out]; rfl, X0.out⟩
  have hd4 : decide (t ≥ m) = false := decide_eq_false h4
  have HMB : Hid (-100000 ≤ m ∧ m ≤ 100000) := by unfold Hid; omega
  have H1 : Hid (mayE m t ls = if ls.length = 0 ∧ (t = -1 ∨ m = 1) then 68 else if ls.any (unl m) = true then 63 else if ls.any (fun a => !numsB a) = true then 64 else 0) := by unfold Hid mayE; exact if_neg (by omega)
  by_cases h5 : ln = 0
  · have hd5 : ((ln : Int) == 0) = true := by rw [h5]; rfl
    have H5 : Hid (ls.length = 0) := HLN.out.trans h5
    clear h5
    by_cases h6 : t = -1
    · have hd6 : (t == -1) = true := by rw [h6]; rfl
      have HV : Hid (mayE m t ls = 68) := by unfold Hid; rw [H1.out]; exact if_pos ⟨H5.out, .inl h6⟩
      clear h6
      go_wp2_with fail
      go_ret
      exact ⟨by rw [HV.out]; rfl, X0.out⟩
    have hd6 : (t == -1) = false := by rw [beq_eq_false_iff_ne]; exact h6
    by_cases h7 : m = 1
    · have hd7 : (m == 1) = true := by rw [h7]; rfl
      have HV : Hid (mayE m t ls = 68) := by unfold Hid; rw [H1.out]; exact if_pos ⟨H5.out, .inr h7⟩
      clear h7
      go_wp2_with fail
      go_ret
      exact ⟨by rw [HV.out]; rfl, X0.out⟩
    have hd7 : (m == 1) = false := by rw [beq_eq_false_iff_ne]; exact h7
    have HV : Hid (mayE m t ls = 0) := by
      unfold Hid
      have e : ls = [] := List.eq_nil_of_length_eq_zero H5.out
      rw [H1.out, if_neg (by rintro ⟨_, h | h⟩; exact h6 h; exact h7 h), e]
      rfl
    have HA1 : Hid (ls.any (unl m) = false ∧ ls.any (fun a => !numsB a) = false) := by
      have e : ls = [] := List.eq_nil_of_length_eq_zero H5.out
      rw [e]; exact ⟨rfl, rfl⟩
    have a1 := HA1.out.1
    have a2 := HA1.out.2
    go_wp2_with (first | (go_at_call 35; refine (containsLA (w.heap.size + 1) (unl m) lo ln lc gv ls X RL.out (fun x1 x2 x3 us h => unlike_any (w.heap.size + 1) m HMB.out x1 x2 x3 us X h D0.out)).mono ?_; rintro e w1 ⟨rfl, hw1⟩; rw [hw1]; clear hw1) | (go_at_call 35; refine (containsLB (fun a => !numsB a) lo ln lc gv ls X RL.out (fun x1 x2 x3 us h => hasNo_any x1 x2 x3 us X h)).mono ?_; rintro e w1 ⟨rfl, hw1⟩; rw [hw1]; clear hw1))
    go_ret
    exact ⟨by rw [HV.out]; rfl, X0.out⟩
  have hd5 : ((ln : Int) == 0) = false := by rw [beq_eq_false_iff_ne]; omega
  have hn5 : ¬ ls.length = 0 := by rw [HLN.out]; exact h5
  have H2 : Hid (mayE m t ls = if ls.any (unl m) = true then 63 else if ls.any (fun a => !numsB a) = true then 64 else 0) := by unfold Hid; rw [H1.out]; exact if_neg fun h => hn5 h.1
  clear H1 hn5
  cases a1 : ls.any (unl m) with
  | true =>
    have HV : Hid (mayE m t ls = 63) := by unfold Hid; rw [H2.out]; exact if_pos a1
    go_wp2_with (first | (go_at_call 35; refine (containsLA (w.heap.size + 1) (unl m) lo ln lc gv ls X RL.out (fun x1 x2 x3 us h => unlike_any (w.heap.size + 1) m HMB.out x1 x2 x3 us X h D0.out)).mono ?_; rintro e w1 ⟨rfl, hw1⟩; rw [hw1]; clear hw1) | (go_at_call 35; refine (containsLB (fun a => !numsB a) lo ln lc gv ls X RL.out (fun x1 x2 x3 us h => hasNo_any x1 x2 x3 us X h)).mono ?_; rintro e w1 ⟨rfl, hw1⟩; rw [hw1]; clear hw1))
    go_ret
    exact ⟨by rw [HV.out]; rfl, X0.out⟩
  | false =>
    cases a2 : ls.any (fun a => !numsB a) with
    | true =>
      have HV : Hid (mayE m t ls = 64) := by unfold Hid; rw [H2.out, if_neg (by rw [a1]; decide)]; exact if_pos a2
      go_wp2_with (first | (go_at_call 35; refine (containsLA (w.heap.size + 1) (unl m) lo ln lc gv ls X RL.out (fun x1 x2 x3 us h => unlike_any (w.heap.size + 1) m HMB.out x1 x2 x3 us X h D0.out)).mono ?_; rintro e w1 ⟨rfl, hw1⟩; rw [hw1]; clear hw1) | (go_at_call 35; refine (containsLB (fun a => !numsB a) lo ln lc gv ls X RL.out (fun x1 x2 x3 us h => hasNo_any x1 x2 x3 us X h)).mono ?_; rintro e w1 ⟨rfl, hw1⟩; rw [hw1]; clear hw1))
      go_ret
      exact ⟨by rw [HV.out]; rfl, X0.out⟩
    | false =>
      have HV : Hid (mayE m t ls = 0) := by unfold Hid; rw [H2.out, if_neg (by rw [a1]; decide), if_neg (by rw [a2]; decide)]
      go_wp2_with (first | (go_at_call 35; refine (containsLA (w.heap.size + 1) (unl m) lo ln lc gv ls X RL.out (fun x1 x2 x3 us h => unlike_any (w.heap.size + 1) m HMB.out x1 x2 x3 us X h D0.out)).mono ?_; rintro e w1 ⟨rfl, hw1⟩; rw [hw1]; clear hw1) | (go_at_call 35; refine (containsLB (fun a => !numsB a) lo ln lc gv ls X RL.out (fun x1 x2 x3 us h => hasNo_any x1 x2 x3 us X h)).mono ?_; rintro e w1 ⟨rfl, hw1⟩; rw [hw1]; clear hw1))
      go_ret
      exact ⟨by rw [HV.out]; rfl, X0.out⟩
end Go.Proofs.Ytaloaholmhcflaa

namespace Go.Proofs.Ytaloaholmhcflaa
open Go.RowKit Go.Shelf
set_option linter.unusedVariables false
set_option linter.unusedSimpArgs false
/-- The rows of a target above the first k outputs. -/
def tgL (m t : Nat) : Nat → List (List Nat)
  | 0 => []
  | j + 1 => if j = t then tgL m t j else tgL m t j ++ [abR m t j]
def tgT (m : Nat) (t : Int) (k : Nat) : List (List Nat) := if t < 0 then [] else tgL m t.toNat k
theorem tgL_len (m t : Nat) : ∀ k, (tgL m t k).length ≤ k
  | 0 => Nat.le_refl _
  | k + 1 => by
    have := tgL_len m t k
    unfold tgL
    split
    · omega
    · rw [List.length_append]; simp; omega
theorem tgT_len (m : Nat) (t : Int) (k : Nat) : (tgT m t k).length ≤ k := by
  unfold tgT; split
  · exact Nat.zero_le _
  · exact tgL_len _ _ _
/-- Rows of floats, each in a block of its own. -/
structure FlL (w : World) (base : Nat) (gs : List (List Nat)) (vg : Value) (gl : List Value) : Prop where
  g : w.ownsRow base 22 1 vg gl.length gl
  len : gl.length = gs.length
  col : ∀ (j : Nat) (u : Value), gl[j]? = some u → w.ownsRow base 50 1 u (gs[j]?.getD []).length ((gs[j]?.getD []).map fF)
  nd : ∀ (i j : Nat) (u v : Value), i < j → gl[i]? = some u → gl[j]? = some v → ∀ k, u.ownBlock = some k → v.ownBlock ≠ some k
theorem FlL.nil (w : World) (base : Nat) : FlL w base [] (.slice none 0 0) [] := ⟨World.ownsRow_nil _ _ _ _, rfl, (fun j u hj => by simp at hj), fun i j u v _ hu => by simp at hu⟩
theorem FlL.later {w w' : World} {base : Nat} {gs : List (List Nat)} {vg : Value} {gl : List Value} (h : FlL w base gs vg gl) (hb : Below w.heap.size w w') : FlL w' base gs vg gl :=
  ⟨owns_keepT h.g fun k cur hc => hb.block k (blk_lt hc), h.len, fun j u hj => owns_keepT (h.col j u hj) fun k cur hc => hb.block k (blk_lt hc), h.nd⟩
theorem FlL.push {w w' : World} {base : Nat} {us : List Nat} {gs : List (List Nat)} {vg vg' v : Value} {gl : List Value} (h : FlL w base gs vg gl) (hg : Grw w w' vg.ownBlock vg'.ownBlock)
    (ho : w'.ownsRow base 22 1 vg' (gl.length + 1) (gl ++ [v])) (hv : w.ownsRow base 50 1 v us.length (us.map fF)) (hn : ∀ (j : Nat) (u : Value), gl[j]? = some u → ∀ k, u.ownBlock = some k → v.ownBlock ≠ some k) : FlL w' base (gs ++ [us]) vg' (gl ++ [v]) := by
  have hk := grw_types h.g hg
  refine ⟨by simpa using ho, by simp [h.len], fun j u hj => ?_, fun i j u x hij hu hx k e => ?_⟩
  rotate_left
  · have hl := (List.getElem?_eq_some_iff.1 hx).1
    rw [List.getElem?_append_left (by simp at hl; omega)] at hu
    by_cases e2 : j < gl.length
    · rw [List.getElem?_append_left e2] at hx
      exact h.nd i j u x hij hu hx k e
    · have ej : j = gl.length := by simp at hl; omega
      subst ej
      rw [List.getElem?_append_right (Nat.le_refl _), Nat.sub_self, List.getElem?_cons_zero] at hx
      cases hx
      exact hn i u hu k e
  by_cases e : j < gl.length
  · rw [List.getElem?_append_left e] at hj
    rw [List.getElem?_append_left (by rw [← h.len]; exact e)]
    exact owns_keepT (h.col j u hj) fun k cur => hk k cur _ (by decide)
  · have hl := (List.getElem?_eq_some_iff.1 hj).1
    have ej : j = gl.length := by simp at hl; omega
    subst ej
    rw [List.getElem?_append_right (Nat.le_refl _), Nat.sub_self, List.getElem?_cons_zero] at hj
    cases hj
    rw [List.getElem?_append_right (by rw [h.len]; exact Nat.le_refl _), h.len, Nat.sub_self, List.getElem?_cons_zero]
    exact owns_keepT hv fun k cur => hk k cur _ (by decide)
theorem own_rdF {w : World} {base : Nat} {v : Value} {us : List Nat} (h : w.ownsRow base 50 1 v us.length (us.map fF)) (hlt : ∀ u ∈ us, u < 18446744073709551616) : ∃ ao c, v = .slice ao us.length c ∧ RdF w ao us.length c us := by
  obtain ⟨ao, c, rfl, hm, h1⟩ := owns_slice h
  refine ⟨ao, c, rfl, rfl, hm, hlt, ?_⟩
  rcases h1 with h0 | ⟨g, rfl, h2⟩
  · exact .inl h0
  · refine .inr ⟨g, 0, rfl, fun j hj => ?_⟩
    rw [Nat.zero_add, h2 j hj, List.getElem?_map, List.getElem?_eq_getElem hj]
    rfl
theorem FlL.rd {w : World} {base : Nat} {gs : List (List Nat)} {vg : Value} {gl : List Value} (h : FlL w base gs vg gl) (hlt : ∀ us ∈ gs, ∀ u ∈ us, u < 18446744073709551616) : ∃ (go : Option Addr) (gc : Nat) (gv : Nat → Option Addr × Nat × Nat), vg = .slice go gs.length gc ∧ RdGs w go gs.length gc gv gs ∧ ∀ j, j < gs.length → (gv j).2.1 = (gs[j]?.getD []).length := by
  have hg := h.g
  rw [h.len] at hg
  obtain ⟨go, gc, rfl, hm, h1⟩ := owns_slice hg
  have hx : ∀ j : Nat, ∃ p : Option Addr × Nat, j < gs.length → gl[j]? = some (.slice p.1 (gs[j]?.getD []).length p.2) ∧ RdF w p.1 (gs[j]?.getD []).length p.2 (gs[j]?.getD []) := fun j => by
    by_cases hj : j < gs.length
    · have hjv : j < gl.length := by rw [h.len]; exact hj
      obtain ⟨ao, c, e1, e2⟩ := own_rdF (h.col j _ (List.getElem?_eq_getElem hjv)) (by rw [List.getElem?_eq_getElem hj]; exact hlt _ (List.getElem_mem hj))
      exact ⟨(ao, c), fun _ => ⟨by rw [List.getElem?_eq_getElem hjv, e1], e2⟩⟩
    · exact ⟨(none, 0), fun h => absurd h hj⟩
  refine ⟨go, gc, fun j => ((Classical.choose (hx j)).1, (gs[j]?.getD []).length, (Classical.choose (hx j)).2), rfl, ⟨rfl, hm, ?_, fun j hj => (Classical.choose_spec (hx j) hj).2⟩, fun j hj => rfl⟩
  rcases h1 with h0 | ⟨g, rfl, h2⟩
  · exact .inl h0
  · exact .inr ⟨g, 0, rfl, fun j hj => by rw [Nat.zero_add, h2 j hj]; exact (Classical.choose_spec (hx j) hj).1⟩
theorem Try.infoFM3 : (Try.prog.info? 50).map (fun i => (i.zero, i.size, i.bytes)) = some (some (.float .f64 0), 1, 8) := by kernel_rfl
set_option maxRecDepth 100000 in
set_option maxHeartbeats 4000000 in
theorem clone_any (b off len cap : Nat) (us : List Nat) (w : World) (h : RdF w (some ⟨b, off, none⟩) len cap us) (h0 : 0 < len) (hl : len ≤ 1050000) :
    Calls Try.prog 22 #[.slice (some ⟨b, off, none⟩) len cap] w fun e w' => (∃ (ao : Option Addr) (c : Nat), e = .returned (.slice ao len c) ∧ w'.ownsRow w.heap.size 50 1 (.slice ao len c) us.length (us.map fF)) ∧ Below w.heap.size w w' := by
  have HLN : Hid (us.length = len) := h.length
  have HNW : Hid (∀ W', Below w.heap.size w W' → ∀ (j : Nat) (u : Value), (us.map fF)[j]? = some u → W'.cell? ((⟨b, off, none⟩ : Addr).add j) = some u) := by
    intro W' hb j u hj
    have hjl : j < len := by have := (List.getElem?_eq_some_iff.1 hj).1; rw [List.length_map, HLN.out] at this; exact this
    rcases (h.later hb).cells with h9 | ⟨b9, off9, e9, hc⟩
    · omega
    injection e9 with e9
    injection e9 with e91 e92
    subst e91 e92
    have h8 := hc j hjl
    rw [List.getElem?_map, List.getElem?_eq_getElem (by rw [HLN.out]; exact hjl)] at hj
    rw [List.getElem?_eq_getElem (by rw [HLN.out]; exact hjl)] at h8
    cases hj
    by_cases hj0 : j = 0
    · subst hj0; simpa [Addr.add, fF] using h8
    · simpa [Addr.add, fF, hj0] using h8
  have B0 : Below w.heap.size w (w.alloc (.cells #[] 50)) := (Below.refl _ w).alloc (Nat.le_refl _) _
  have HO : Hid ((w.alloc (.cells #[] 50)).ownsRow w.heap.size 50 1 (.slice (some ⟨w.heap.size, 0, none⟩) 0 0) 0 []) := ⟨rfl, .inr ⟨w.heap.size, 0, #[], rfl, Nat.le_refl _, heap_alloc_new w _, Nat.le_refl _, Nat.zero_le _, rfl, rfl⟩⟩
  have HB0 : Hid _ := B0
  have heq : ∀ W : World, (binOp .eql 22 (.slice (some ⟨b, off, none⟩) len cap) (.slice none 0 0)).run Try.prog W = .ok (.bool false) W := by intro W; kernel_rfl
  clear h B0
  go_enter Try.func22, Try.ntmps22
  go_wp2_with (first
    | (at_builtin; refine append_gsJ Try.underlying22 Try.infoFM3 rfl (by decide) (by decide) _ (by rfl) _ _ (by rfl) w.heap.size _ 0 [] (by rfl) HO.out ⟨b, off, none⟩ len cap (us.map fF) (by rfl) (by rw [List.length_map, HLN.out, Nat.mul_one]) (HNW.out _ HB0.out) (fun u hu => by obtain ⟨x, -, rfl⟩ := List.mem_map.1 hu; rfl) (by omega) (by simp only [alloc_size]; omega) ?_; intro v6 w6 o6 g6))
  have P6 : Hid (w6.ownsRow w.heap.size 50 1 v6 len (us.map fF)) := by rw [Nat.zero_add] at o6; exact o6
  have B6 : Hid (Below w.heap.size w w6) := HB0.out.trans (g6.below (fun k hk => (World.ownsRow.lt HO.out k hk).1) HB0.out.size)
  clear o6 g6
  obtain ⟨ao6, c6, hv6, -⟩ := owns_slice P6.out
  subst hv6
  go_wp2_with fail
  go_ret
  exact ⟨⟨ao6, c6, rfl, by rw [HLN.out]; exact P6.out⟩, B6.out⟩
end Go.Proofs.Ytaloaholmhcflaa

namespace Go.Proofs.Ytaloaholmhcflaa
open Go.RowKit Go.Shelf
set_option linter.unusedVariables false
set_option linter.unusedSimpArgs false
theorem mayE_ok {m t : Int} {ls : List (List Nat)} (h : mayE m t ls = 0) : 1 ≤ m ∧ m ≤ 256 ∧ -1 ≤ t ∧ t < m ∧ ls.any (unl m) = false ∧ ls.any (fun a => !numsB a) = false := by
  unfold mayE at h
  split at h
  · cases h
  · rename_i h1
    split at h
    · cases h
    · split at h
      · cases h
      · rename_i h3
        split at h
        · cases h
        · rename_i h4
          exact ⟨by omega, by omega, by omega, by omega, by simpa using h3, by simpa using h4⟩
/-- The claims. -/
def clL (m t : Int) (ls : List (List Nat)) : List (List Nat) := if mayE m t ls = 0 then tgT m.toNat t m.toNat ++ ls else []
theorem take_snocL {css : List (List Nat)} {k : Nat} (h : k < css.length) : css.take (k + 1) = css.take k ++ [css[k]?.getD []] := by
  rw [List.take_succ_eq_append_getElem h, List.getElem?_eq_getElem h]; rfl
set_option maxRecDepth 100000 in
set_option maxHeartbeats 4000000 in
theorem claims17_any (co go lo : Option Addr) (cn cc gn gc ln lc : Nat) (gv : Nat → Option Addr × Nat × Nat) (ls : List (List Nat)) (t K D L m : Int) (w : World) (hl : RdGs w lo ln lc gv ls) (hln : ln ≤ 1050000) :
    Calls Try.prog 7 #[.agg #[.slice co cn cc, .slice go gn gc, .int .i64 t, .slice lo ln lc, .int .i64 K, .int .i64 D, .int .i64 L], .int .i64 m] w fun e w' => (∃ (vg : Value) (gl : List Value), e = .returned (.tuple #[vg, .int .i64 (mayE m t ls)]) ∧ Hid (FlL w' w.heap.size (clL m t ls) vg gl)) ∧ Below w.heap.size w w' := by
  have HL : Hid (∀ W', Below w.heap.size w W' → RdGs W' lo ln lc gv ls) := fun W' hb => hl.later hb
  have HLN : Hid (ls.length = ln) := hl.length
  have hmx : ln ≤ 9223372036854775807 := Nat.le_trans hl.max maxLen_le
  have X0 : Below w.heap.size w (w.alloc (.cells #[.slice co cn cc, .slice go gn gc, .int .i64 t, .slice lo ln lc, .int .i64 K, .int .i64 D, .int .i64 L] 28)) := (Below.refl _ w).alloc (Nat.le_refl _) _
  have Y0 : (w.alloc (.cells #[.slice co cn cc, .slice go gn gc, .int .i64 t, .slice lo ln lc, .int .i64 K, .int .i64 D, .int .i64 L] 28)).heap[w.heap.size]? = some (.cells #[.slice co cn cc, .slice go gn gc, .int .i64 t, .slice lo ln lc, .int .i64 K, .int .i64 D, .int .i64 L] 28) := heap_alloc_new w _
  clear hl
  go_enter Try.func7, Try.ntmps7
  go_upto_region 1 with fail
  obtain ⟨X, hX⟩ : ∃ X, (w.alloc (.cells #[.slice co cn cc, .slice go gn gc, .int .i64 t, .slice lo ln lc, .int .i64 K, .int .i64 D, .int .i64 L] 28)) = X := ⟨_, rfl⟩
  rw [hX] at X0 Y0 ⊢
  have PX : Hid (Below w.heap.size w X ∧ X.heap[w.heap.size]? = some (.cells #[.slice co cn cc, .slice go gn gc, .int .i64 t, .slice lo ln lc, .int .i64 K, .int .i64 D, .int .i64 L] 28)) := ⟨X0, Y0⟩
  clear hX X0 Y0
  go_wp2_with (first | (refine wpList_load_row (by rfl) 28 _ (by rfl) w.heap.size _ (by rfl) PX.out.2 _ Try.underlying28 rfl 7 Try.infoPM (by rfl) ?_))
  refine Calls.mono (may17_any co go lo cn cc gn gc ln lc gv ls t K D L m _ (HL.out _ PX.out.1)) ?_
  rintro e w1 ⟨rfl, b1⟩
  have P1 : Hid (Below w.heap.size w w1 ∧ w1.heap[w.heap.size]? = some (.cells #[.slice co cn cc, .slice go gn gc, .int .i64 t, .slice lo ln lc, .int .i64 K, .int .i64 D, .int .i64 L] 28)) := ⟨to_call PX.out.1 b1, kept b1 PX.out.2⟩
  clear b1 PX
  obtain ⟨er, her⟩ : ∃ er, mayE m t ls = er := ⟨_, rfl⟩
  have HER : Hid (mayE m t ls = er) := her
  rw [her]
  by_cases h0 : er = 0
  · subst h0
    obtain ⟨q1, q2, q3, q4, q5, q6⟩ := mayE_ok her
    obtain ⟨M, rfl⟩ : ∃ M : Nat, m = M := ⟨m.toNat, by omega⟩
    have HCL : Hid (clL (M : Int) t ls = tgT M t M ++ ls) := by unfold Hid clL; rw [if_pos her, Int.toNat_natCast]
    have HRL : Hid (∀ k, k < ln → (ls[k]?.getD []).length = M + 1) := by
      intro k hk
      rw [List.any_eq_false] at q5
      have hkl : k < ls.length := by rw [HLN.out]; exact hk
      have h9 := q5 _ (List.getElem_mem hkl)
      rw [List.getElem?_eq_getElem hkl]
      show ls[k].length = M + 1
      unfold unl at h9
      simp only [bne_iff_ne, ne_eq, Decidable.not_not] at h9
      omega
    have hM : M ≤ 256 := by omega
    have hM1 : 1 ≤ M := by omega
    clear her q5 q6 q2
    go_wp2_with fail
    go_loopg [7, 18] M (fun g v7 iv wx => ∃ (k : Nat) (gl : List Value), iv = .int .i64 k ∧ k + g = M ∧ Hid (FlL wx w.heap.size (tgT M t k) v7 gl ∧ Below w.heap.size w wx ∧ wx.heap[w.heap.size]? = some (.cells #[.slice co cn cc, .slice go gn gc, .int .i64 t, .slice lo ln lc, .int .i64 K, .int .i64 D, .int .i64 L] 28)))
    case atStart =>
      refine ⟨0, [], rfl, by omega, ?_, P1.out.1, P1.out.2⟩
      have e : tgT M t 0 = [] := by unfold tgT tgL; split <;> rfl
      rw [e]; exact FlL.nil _ _
    case round =>
      clear P1
      obtain ⟨k, gl, rfl, hk, HI⟩ := hrel
      have c2 := cellAtJ HI.out.2.2 2 _ rfl
      by_cases hlt : k < M
      · have hd : decide ((k : Int) < (M : Int)) = true := decide_eq_true (by omega)
        obtain ⟨g, rfl⟩ : ∃ g, gk = g + 1 := ⟨gk - 1, by omega⟩
        have HIG : Hid (k + (g + 1) = M) := hk
        clear hk
        by_cases ht : t < 0
        · have hdt : decide (t ≥ 0) = false := decide_eq_false (by omega)
          have HI2 : Hid (FlL wr w.heap.size (tgT M t (k + 1)) u7 gl ∧ Below w.heap.size w wr ∧ wr.heap[w.heap.size]? = some (.cells #[.slice co cn cc, .slice go gn gc, .int .i64 t, .slice lo ln lc, .int .i64 K, .int .i64 D, .int .i64 L] 28)) := by
            have e : tgT M t (k + 1) = tgT M t k := by unfold tgT; rw [if_pos ht, if_pos ht]
            unfold Hid; rw [e]; exact HI.out
          clear HI
          go_wp2_with fail
          go_roundg g
          case measure => omega
          case rel => exact ⟨k + 1, gl, by go_num, by have := HIG.out; omega, HI2⟩
        · obtain ⟨T, rfl⟩ : ∃ T : Nat, t = T := ⟨t.toNat, by omega⟩
          have hdt : decide ((T : Int) ≥ 0) = true := decide_eq_true (by omega)
          have HTG : Hid (∀ j, tgT M (T : Int) j = tgL M T j) := fun j => by unfold tgT; rw [if_neg ht, Int.toNat_natCast]
          clear ht
          by_cases hkt : k = T
          · have hne : ((k : Int) != (T : Int)) = false := by rw [hkt]; simp
            have HI2 : Hid (FlL wr w.heap.size (tgT M (T : Int) (k + 1)) u7 gl ∧ Below w.heap.size w wr ∧ wr.heap[w.heap.size]? = some (.cells #[.slice co cn cc, .slice go gn gc, .int .i64 (T : Int), .slice lo ln lc, .int .i64 K, .int .i64 D, .int .i64 L] 28)) := by
              have e : tgT M (T : Int) (k + 1) = tgT M (T : Int) k := by rw [HTG.out, HTG.out, tgL, if_pos hkt]
              unfold Hid; rw [e]; exact HI.out
            clear HI hkt
            go_wp2_with fail
            go_roundg g
            case measure => omega
            case rel => exact ⟨k + 1, gl, by go_num, by have := HIG.out; omega, HI2⟩
          · have hne : ((k : Int) != (T : Int)) = true := by rw [bne_iff_ne]; omega
            have HTK : Hid (tgT M (T : Int) (k + 1) = tgT M (T : Int) k ++ [abR M T k]) := by unfold Hid; rw [HTG.out, HTG.out, tgL, if_neg hkt]
            have hTM : T ≤ M := by omega
            go_wp2_with fail
            refine Calls.mono (above_any17 T k M hTM (by omega) hM _) ?_
            rintro e w3 ⟨rfl, o3, b3⟩
            have L1 : Hid (FlL w3 w.heap.size (tgT M (T : Int) k) u7 gl ∧ Below w.heap.size w w3 ∧ w3.heap[w.heap.size]? = some (.cells #[.slice co cn cc, .slice go gn gc, .int .i64 (T : Int), .slice lo ln lc, .int .i64 K, .int .i64 D, .int .i64 L] 28)) := ⟨HI.out.1.later b3, to_call HI.out.2.1 b3, kept b3 HI.out.2.2⟩
            have O1 : Hid (w3.ownsRow w.heap.size 50 1 (Value.slice (some ⟨wr.heap.size, 0, none⟩) (M + 1) (M + 1)) (abR M T k).length ((abR M T k).map fF)) := owns_monoJ o3 HI.out.2.1.size
            have HNW : Hid (∀ (j : Nat) (u : Value), gl[j]? = some u → ∀ k, u.ownBlock = some k → (Value.slice (some ⟨wr.heap.size, 0, none⟩) (M + 1) (M + 1)).ownBlock ≠ some k) := fun j u hu k e e' => by have h1 := (World.ownsRow.lt (HI.out.1.col j u hu) k e).2; have h2 := (World.ownsRow.lt o3 k e').1; omega
            clear o3 b3 c2
            have A1 : Below w3.heap.size w3 (w3.alloc (.cells #[Value.slice (some ⟨wr.heap.size, 0, none⟩) (M + 1) (M + 1)] 22)) := (Below.refl _ w3).alloc (Nat.le_refl _) _
            have Lz : Hid (FlL (w3.alloc (.cells #[Value.slice (some ⟨wr.heap.size, 0, none⟩) (M + 1) (M + 1)] 22)) w.heap.size (tgT M (T : Int) k) u7 gl) := L1.out.1.later A1
            have Oz : Hid ((w3.alloc (.cells #[Value.slice (some ⟨wr.heap.size, 0, none⟩) (M + 1) (M + 1)] 22)).ownsRow w.heap.size 50 1 (Value.slice (some ⟨wr.heap.size, 0, none⟩) (M + 1) (M + 1)) (abR M T k).length ((abR M T k).map fF)) := World.ownsRow.alloc O1.out _
            have hgl : gl.length ≤ 2000000 := by have h1 := HI.out.1.len; have h2 := tgT_len M (T : Int) k; omega
            go_wp2_with (first
              | (at_builtin; refine append_gsJ Try.underlying24 Try.infoFsM rfl (by decide) (by decide) _ (by rfl) _ _ (by rfl) w.heap.size _ gl.length gl (by rfl) Lz.out.g ⟨w3.heap.size, 0, none⟩ 1 1 [Value.slice (some ⟨wr.heap.size, 0, none⟩) (M + 1) (M + 1)] (by rfl) rfl (news_oneJ (heap_alloc_new w3 _)) (oneI _ (own_valJ O1.out).1) (by omega) (by have := L1.out.2.1.size; simp only [alloc_size]; omega) ?_; intro v6 w6 o6 g6))
            have b6 : Below w.heap.size w w6 := (to_call L1.out.2.1 A1).trans (g6.below (fun k hk => (World.ownsRow.lt Lz.out.g k hk).1) (to_call L1.out.2.1 A1).size)
            have HI2 : Hid (FlL w6 w.heap.size (tgT M (T : Int) k ++ [abR M T k]) v6 (gl ++ [Value.slice (some ⟨wr.heap.size, 0, none⟩) (M + 1) (M + 1)]) ∧ Below w.heap.size w w6 ∧ w6.heap[w.heap.size]? = some (.cells #[.slice co cn cc, .slice go gn gc, .int .i64 (T : Int), .slice lo ln lc, .int .i64 K, .int .i64 D, .int .i64 L] 28)) := by
              refine ⟨Lz.out.push g6 o6 Oz.out HNW.out, b6, ?_⟩
              have h9 := kept A1 L1.out.2.2
              have hk := grw_types Lz.out.g g6
              exact (hk w.heap.size _ _ (by decide) h9).trans h9
            clear o6 g6 A1 Lz Oz O1 L1 b6 hgl
            have HI3 : Hid (FlL w6 w.heap.size (tgT M (T : Int) (k + 1)) v6 (gl ++ [Value.slice (some ⟨wr.heap.size, 0, none⟩) (M + 1) (M + 1)]) ∧ Below w.heap.size w w6 ∧ w6.heap[w.heap.size]? = some (.cells #[.slice co cn cc, .slice go gn gc, .int .i64 (T : Int), .slice lo ln lc, .int .i64 K, .int .i64 D, .int .i64 L] 28)) := by unfold Hid; rw [HTK.out]; exact HI2.out
            clear HI2 HI
            go_roundg g
            case measure => omega
            case rel => exact ⟨k + 1, _, by go_num, by have := HIG.out; omega, HI3⟩
      · have hd : decide ((k : Int) < (M : Int)) = false := decide_eq_false (by omega)
        have hd' : decide (k < M) = false := decide_eq_false (by omega)
        have ek : k = M := by omega
        have HI0 : Hid (FlL wr w.heap.size (tgT M t M ++ ls.take 0) u7 gl ∧ Below w.heap.size w wr ∧ wr.heap[w.heap.size]? = some (.cells #[.slice co cn cc, .slice go gn gc, .int .i64 t, .slice lo ln lc, .int .i64 K, .int .i64 D, .int .i64 L] 28)) := by
          unfold Hid; rw [List.take_zero, List.append_nil, ← ek]; exact ek ▸ HI.out
        have c3 := cellAtJ HI.out.2.2 3 _ rfl
        clear HI hk ek
        go_wp2_with fail
        clear c2 c3 hd hd'
        go_loopg [7, 42] ln (fun g v7 iv wx => ∃ (k : Nat) (gl : List Value), iv = .int .i64 k ∧ k + g = ln ∧ Hid (FlL wx w.heap.size (tgT M t M ++ ls.take k) v7 gl ∧ Below w.heap.size w wx ∧ wx.heap[w.heap.size]? = some (.cells #[.slice co cn cc, .slice go gn gc, .int .i64 t, .slice lo ln lc, .int .i64 K, .int .i64 D, .int .i64 L] 28)))
        case atStart => exact ⟨0, gl, rfl, by omega, HI0⟩
        case round =>
          clear HI0
          obtain ⟨k, gl, rfl, hk, HI⟩ := hrel
          by_cases hlt2 : k < ln
          · have hd : decide ((k : Int) < (ln : Int)) = true := decide_eq_true (by omega)
            obtain ⟨g, rfl⟩ : ∃ g, gk = g + 1 := ⟨gk - 1, by omega⟩
            have HIG : Hid (k + (g + 1) = ln) := hk
            have hlt' : (k : Int) < (ln : Int) := by omega
            have rx := HL.out _ HI.out.2.1
            rcases rx.cells with h0 | ⟨gb, goff, ego, hcg⟩
            · omega
            subst ego
            have gg := hcg k hlt2
            have rg := rx.each k hlt2
            have hxl := rg.length
            rw [HRL.out k hlt2] at hxl
            obtain ⟨x1, ex1⟩ : ∃ t, (gv k).1 = t := ⟨_, rfl⟩
            obtain ⟨x2, ex2⟩ : ∃ t, (gv k).2.1 = t := ⟨_, rfl⟩
            obtain ⟨x3, ex3⟩ : ∃ t, (gv k).2.2 = t := ⟨_, rfl⟩
            rw [ex1, ex2, ex3] at rg gg
            rw [ex2] at hxl
            subst hxl
            rcases rg.cells with h0 | ⟨xb, xoff, ex, -⟩
            · omega
            subst ex
            have HTK : Hid (ls.take (k + 1) = ls.take k ++ [ls[k]?.getD []]) := take_snocL (by rw [HLN.out]; exact hlt2)
            have RG : Hid (RdF wr (some ⟨xb, xoff, none⟩) (M + 1) x3 (ls[k]?.getD [])) := rg
            clear rx hcg rg ex1 ex2 ex3 hk
            go_wp2_with fail
            refine Calls.mono (clone_any xb xoff (M + 1) x3 (ls[k]?.getD []) _ RG.out (by omega) (by omega)) ?_
            rintro e w3 ⟨⟨ao2, c2, rfl, o3⟩, b3⟩
            have L1 : Hid (FlL w3 w.heap.size (tgT M t M ++ ls.take k) u7 gl ∧ Below w.heap.size w w3 ∧ w3.heap[w.heap.size]? = some (.cells #[.slice co cn cc, .slice go gn gc, .int .i64 t, .slice (some ⟨gb, goff, none⟩) ln lc, .int .i64 K, .int .i64 D, .int .i64 L] 28)) := ⟨HI.out.1.later b3, to_call HI.out.2.1 b3, kept b3 HI.out.2.2⟩
            have O1 : Hid (w3.ownsRow w.heap.size 50 1 (Value.slice ao2 (M + 1) c2) (ls[k]?.getD []).length ((ls[k]?.getD []).map fF)) := owns_monoJ o3 HI.out.2.1.size
            have HNW : Hid (∀ (j : Nat) (u : Value), gl[j]? = some u → ∀ k, u.ownBlock = some k → (Value.slice ao2 (M + 1) c2).ownBlock ≠ some k) := fun j u hu k e e' => by have h1 := (World.ownsRow.lt (HI.out.1.col j u hu) k e).2; have h2 := (World.ownsRow.lt o3 k e').1; omega
            clear o3 b3 RG gg
            have A1 : Below w3.heap.size w3 (w3.alloc (.cells #[Value.slice ao2 (M + 1) c2] 22)) := (Below.refl _ w3).alloc (Nat.le_refl _) _
            have Lz : Hid (FlL (w3.alloc (.cells #[Value.slice ao2 (M + 1) c2] 22)) w.heap.size (tgT M t M ++ ls.take k) u7 gl) := L1.out.1.later A1
            have Oz : Hid ((w3.alloc (.cells #[Value.slice ao2 (M + 1) c2] 22)).ownsRow w.heap.size 50 1 (Value.slice ao2 (M + 1) c2) (ls[k]?.getD []).length ((ls[k]?.getD []).map fF)) := World.ownsRow.alloc O1.out _
            have hgl : gl.length ≤ 2000000 := by have h1 := HI.out.1.len; have h2 := tgT_len M t M; rw [List.length_append, List.length_take] at h1; omega
            go_wp2_with (first
              | (at_builtin; refine append_gsJ Try.underlying24 Try.infoFsM rfl (by decide) (by decide) _ (by rfl) _ _ (by rfl) w.heap.size _ gl.length gl (by rfl) Lz.out.g ⟨w3.heap.size, 0, none⟩ 1 1 [Value.slice ao2 (M + 1) c2] (by rfl) rfl (news_oneJ (heap_alloc_new w3 _)) (oneI _ (own_valJ O1.out).1) (by omega) (by have := L1.out.2.1.size; simp only [alloc_size]; omega) ?_; intro v6 w6 o6 g6))
            have b6 : Below w.heap.size w w6 := (to_call L1.out.2.1 A1).trans (g6.below (fun k hk => (World.ownsRow.lt Lz.out.g k hk).1) (to_call L1.out.2.1 A1).size)
            have HI2 : Hid (FlL w6 w.heap.size (tgT M t M ++ ls.take k ++ [ls[k]?.getD []]) v6 (gl ++ [Value.slice ao2 (M + 1) c2]) ∧ Below w.heap.size w w6 ∧ w6.heap[w.heap.size]? = some (.cells #[.slice co cn cc, .slice go gn gc, .int .i64 t, .slice (some ⟨gb, goff, none⟩) ln lc, .int .i64 K, .int .i64 D, .int .i64 L] 28)) := by
              refine ⟨Lz.out.push g6 o6 Oz.out HNW.out, b6, ?_⟩
              have h9 := kept A1 L1.out.2.2
              have hk := grw_types Lz.out.g g6
              exact (hk w.heap.size _ _ (by decide) h9).trans h9
            clear o6 g6 A1 Lz Oz O1 L1 b6 hgl
            have HI3 : Hid (FlL w6 w.heap.size (tgT M t M ++ ls.take (k + 1)) v6 (gl ++ [Value.slice ao2 (M + 1) c2]) ∧ Below w.heap.size w w6 ∧ w6.heap[w.heap.size]? = some (.cells #[.slice co cn cc, .slice go gn gc, .int .i64 t, .slice (some ⟨gb, goff, none⟩) ln lc, .int .i64 K, .int .i64 D, .int .i64 L] 28)) := by unfold Hid; rw [HTK.out, ← List.append_assoc]; exact HI2.out
            clear HI2 HI
            go_roundg g
            case measure => omega
            case rel => exact ⟨k + 1, _, by go_num, by have := HIG.out; omega, HI3⟩
          · have hd : decide ((k : Int) < (ln : Int)) = false := decide_eq_false (by omega)
            have hd' : decide (k < ln) = false := decide_eq_false (by omega)
            have HF : Hid (FlL wr w.heap.size (clL (M : Int) t ls) u7 gl) := by
              have h9 := HI.out.1
              rw [List.take_of_length_le (by rw [HLN.out]; omega)] at h9
              unfold Hid; rw [HCL.out]; exact h9
            go_wp2_with fail
            refine bodyPost_ret (v := .tuple #[u7, .int .i64 0]) (res_tmp2J _ 4 5 (by kernel_rfl) _ _ _ _ (by rfl) (by rfl)) rfl ?_
            exact ⟨⟨u7, gl, by rw [HER.out], HF⟩, HI.out.2.1⟩
  · have hne : (er != 0) = true := by rw [bne_iff_ne]; exact h0
    have HF : Hid (FlL w1 w.heap.size (clL m t ls) (.slice none 0 0) []) := by
      unfold Hid clL; rw [if_neg (by rw [her]; exact h0)]; exact FlL.nil _ _
    clear her h0
    go_wp2_with fail
    refine bodyPost_ret (v := .tuple #[.slice none 0 0, .int .i64 er]) (res_tmp2J _ 4 5 (by kernel_rfl) _ _ _ _ (by rfl) (by rfl)) rfl ?_
    exact ⟨⟨_, [], by rw [HER.out], HF⟩, P1.out.1⟩
end Go.Proofs.Ytaloaholmhcflaa

namespace Go.Proofs.Ytaloaholmhcflaa
open Go.ChangeShapes Go.WideShapes Go.ChangeAt Go.RowKit Go.Joins Go.Deep
set_option linter.unusedVariables false
section
variable {H : Type} {enc : TypeId × Value → H} {P : Program} {w : World} {base : Nat} {spare : Nat → Bool} {held : Bool}
theorem trodJ_float {t : TypeId} {k : FloatKind} {fuel : Nat} {cs : List Value} {x : DataW H × List MemPlace} (ht : P.underlying t = some (.float k)) (h : DataW.trod enc P w base spare held fuel t cs = some x) : ∃ n, cs = [.float k n] ∧ (Lit.float k n).wf = true := by
  cases fuel with
  | zero => simp [DataW.trod] at h
  | succ n =>
    unfold DataW.trod at h
    rw [ht] at h
    split at h <;> simp_all
theorem trodJ_bool {t : TypeId} {fuel : Nat} {cs : List Value} {x : DataW H × List MemPlace} (ht : P.underlying t = some .bool) (h : DataW.trod enc P w base spare held fuel t cs = some x) : ∃ b, cs = [.bool b] := by
  cases fuel with
  | zero => simp [DataW.trod] at h
  | succ n =>
    unfold DataW.trod at h
    rw [ht] at h
    split at h <;> simp_all
end
theorem bulkJ_one {H : Type} (d : DataW H) : 1 ≤ Rows.uptoBulk d := by
  cases d with
  | lit l => cases l <;> simp [Rows.uptoBulk]
  | nil => simp [Rows.uptoBulk]
  | ptr d => simp [Rows.uptoBulk]
  | slice elems spare => simp [Rows.uptoBulk]
  | agg parts => simp [Rows.uptoBulk]
  | iface t d => simp [Rows.uptoBulk]
  | map entries => simp [Rows.uptoBulk]
  | held h => simp [Rows.uptoBulk]
theorem bulkJ_len {H : Type} (l : List (DataW H)) : l.length ≤ Rows.uptoBulkAll l := by
  induction l with
  | nil => simp [Rows.uptoBulkAll]
  | cons x r ih => have := bulkJ_one x; simp only [Rows.uptoBulkAll, List.length_cons]; omega
theorem bulkJ_mem {H : Type} (l : List (DataW H)) {d : DataW H} (h : d ∈ l) : Rows.uptoBulk d ≤ Rows.uptoBulkAll l := by
  induction l with
  | nil => cases h
  | cons x r ih =>
    simp only [Rows.uptoBulkAll]
    rcases List.mem_cons.1 h with rfl | h
    · omega
    · have := ih h; omega
theorem bulkJ_slice {H : Type} (l s : List (DataW H)) : l.length ≤ Rows.uptoBulk (.slice l s) ∧ ∀ d ∈ l, Rows.uptoBulk d ≤ Rows.uptoBulk (.slice l s) := by
  rw [Rows.uptoBulk]
  refine ⟨by have := bulkJ_len l; omega, fun d hd => by have := bulkJ_mem l hd; omega⟩
theorem bulkJ_agg {H : Type} (l : List (DataW H)) : ∀ d ∈ l, Rows.uptoBulk d ≤ Rows.uptoBulk (.agg l) := by
  rw [Rows.uptoBulk]
  exact fun d hd => by have := bulkJ_mem l hd; omega
def flOfJ : Value → Nat
  | .float _ u => u
  | _ => 0
def inOfJ : Value → Int
  | .int _ u => u
  | _ => 0
/-- A slice of floats that came in. -/
theorem floatsJ_open {P : Program} {H : Type} {enc : TypeId × Value → H} {W : World} {T E : TypeId} {fuel : Nat} {cs : List Value} {x : DataW H × List MemPlace}
    (hT : P.underlying T = some (.slice E)) (hE : P.underlying E = some (.float .f64)) (hc : P.cellsOf E = 1) (h : DataW.trod enc P W 0 (fun _ => true) true fuel T cs = some x) :
    ∃ ao len cap us, cs = [.slice ao len cap] ∧ RdF W ao len cap us ∧ (ao = none → len = 0 ∧ cap = 0) ∧ len ≤ Rows.uptoBulk x.1 := by
  rcases open_slice1 hT hc h with ⟨hcs, _⟩ | ⟨a, len, cap, m, n, V, D, Pl, hcs, _, hl, hm, hmm, hxx, hx⟩
  · exact ⟨none, 0, 0, [], hcs, ⟨rfl, Nat.zero_le _, (fun _ h => by cases h), .inl rfl⟩, fun _ => ⟨rfl, rfl⟩, Nat.zero_le _⟩
  · simp only [if_true] at hmm
    subst hmm
    have hv : ∀ i, i < m → ∃ u, V i = .float .f64 u ∧ u < 18446744073709551616 := by
      intro i hi
      obtain ⟨u, hu, hw⟩ := trodJ_float hE (hx i hi).2
      simp only [List.cons.injEq, and_true] at hu
      exact ⟨u, hu, by simpa [Lit.wf] using hw⟩
    have hbk : len ≤ Rows.uptoBulk x.1 := by
      rw [hxx]
      have := (bulkJ_slice ((List.range len).map D) ((List.range (m - len)).map fun j => D (len + j))).1
      rw [List.length_map, List.length_range] at this
      exact this
    refine ⟨some a, len, m, (List.range len).map fun i => flOfJ (V i), hcs, ⟨by simp, Nat.le_trans hl hm, ?_, ?_⟩, (fun h => by cases h), hbk⟩
    · intro u hu
      simp only [List.mem_map, List.mem_range] at hu
      obtain ⟨i, hi, rfl⟩ := hu
      obtain ⟨y, hy, hlt⟩ := hv i (by omega)
      rw [hy]; exact hlt
    · by_cases h0 : len = 0
      · exact .inl h0
      · right
        obtain ⟨b, off, spot⟩ := a
        have hspot : spot = none := by simpa [Addr.add] using World.cell?_spot (hx 0 (by omega)).1
        subst hspot
        refine ⟨b, off, rfl, fun j hj => ?_⟩
        have g := (hx j (by omega)).1
        obtain ⟨y, hy, _⟩ := hv j (by omega)
        rw [Addr.add_lit, hy] at g
        rw [g]
        simp [hj, hy, flOfJ]
/-- A slice of whole numbers that came in. -/
theorem intsJ_open {P : Program} {H : Type} {enc : TypeId × Value → H} {W : World} {T E : TypeId} {fuel : Nat} {cs : List Value} {x : DataW H × List MemPlace}
    (hT : P.underlying T = some (.slice E)) (hE : P.underlying E = some (.int .i64)) (hc : P.cellsOf E = 1) (h : DataW.trod enc P W 0 (fun _ => true) true fuel T cs = some x) :
    ∃ ao len cap is, cs = [.slice ao len cap] ∧ RdIs W ao len cap is ∧ (ao = none → len = 0 ∧ cap = 0) ∧ len ≤ Rows.uptoBulk x.1 := by
  rcases open_slice1 hT hc h with ⟨hcs, _⟩ | ⟨a, len, cap, m, n, V, D, Pl, hcs, _, hl, hm, hmm, hxx, hx⟩
  · exact ⟨none, 0, 0, [], hcs, ⟨rfl, Nat.zero_le _, .inl rfl⟩, fun _ => ⟨rfl, rfl⟩, Nat.zero_le _⟩
  · simp only [if_true] at hmm
    subst hmm
    have hv : ∀ i, i < m → ∃ u, V i = .int .i64 u := by
      intro i hi
      obtain ⟨u, hu, _, _⟩ := DataW.trod_int hE (hx i hi).2
      simp only [List.cons.injEq, and_true] at hu
      exact ⟨u, hu⟩
    have hbk : len ≤ Rows.uptoBulk x.1 := by
      rw [hxx]
      have := (bulkJ_slice ((List.range len).map D) ((List.range (m - len)).map fun j => D (len + j))).1
      rw [List.length_map, List.length_range] at this
      exact this
    refine ⟨some a, len, m, (List.range len).map fun i => inOfJ (V i), hcs, ⟨by simp, Nat.le_trans hl hm, ?_⟩, (fun h => by cases h), hbk⟩
    by_cases h0 : len = 0
    · exact .inl h0
    · right
      obtain ⟨b, off, spot⟩ := a
      have hspot : spot = none := by simpa [Addr.add] using World.cell?_spot (hx 0 (by omega)).1
      subst hspot
      refine ⟨b, off, rfl, fun j hj => ?_⟩
      have g := (hx j (by omega)).1
      obtain ⟨y, hy⟩ := hv j (by omega)
      rw [Addr.add_lit, hy] at g
      rw [g]
      simp [hj, hy, inOfJ]
/-- A slice of slices of floats that came in. -/
theorem rowsJ_open {P : Program} {H : Type} {enc : TypeId × Value → H} {W : World} {T E Q : TypeId} {fuel : Nat} {cs : List Value} {x : DataW H × List MemPlace}
    (hT : P.underlying T = some (.slice E)) (hE : P.underlying E = some (.slice Q)) (hQ : P.underlying Q = some (.float .f64)) (hc : P.cellsOf E = 1) (hq : P.cellsOf Q = 1) (h : DataW.trod enc P W 0 (fun _ => true) true fuel T cs = some x) :
    ∃ ao len cap gv gs, cs = [.slice ao len cap] ∧ RdGs W ao len cap gv gs ∧ len ≤ Rows.uptoBulk x.1 ∧ (∀ k, k < len → ((gv k).1 = none → (gv k).2.1 = 0 ∧ (gv k).2.2 = 0) ∧ (gv k).2.1 ≤ Rows.uptoBulk x.1) := by
  rcases open_slice1 hT hc h with ⟨hcs, _⟩ | ⟨a, len, cap, m, n, V, D, Pl, hcs, _, hl, hm, hmm, hxx, hx⟩
  · exact ⟨none, 0, 0, fun _ => (none, 0, 0), [], hcs, ⟨rfl, Nat.zero_le _, .inl rfl, fun j hj => absurd hj (Nat.not_lt_zero _)⟩, Nat.zero_le _, fun k hk => absurd hk (Nat.not_lt_zero _)⟩
  · simp only [if_true] at hmm
    subst hmm
    have hv : ∀ i : Nat, ∃ q : (Option Addr × Nat × Nat) × List Nat, i < m → V i = .slice q.1.1 q.1.2.1 q.1.2.2 ∧ RdF W q.1.1 q.1.2.1 q.1.2.2 q.2 ∧ (q.1.1 = none → q.1.2.1 = 0 ∧ q.1.2.2 = 0) ∧ q.1.2.1 ≤ Rows.uptoBulk (D i) := by
      intro i
      by_cases hi : i < m
      · obtain ⟨ao, l, c, us, hu, r1, r2, r3⟩ := floatsJ_open hE hQ hq (hx i hi).2
        simp only [List.cons.injEq, and_true] at hu
        exact ⟨((ao, l, c), us), fun _ => ⟨hu, r1, r2, r3⟩⟩
      · exact ⟨((none, 0, 0), []), fun h => absurd h hi⟩
    obtain ⟨F, hF⟩ := Classical.axiomOfChoice hv
    have hb := bulkJ_slice ((List.range len).map D) ((List.range (m - len)).map fun j => D (len + j))
    have hbk : len ≤ Rows.uptoBulk x.1 := by
      rw [hxx]
      have := hb.1
      rw [List.length_map, List.length_range] at this
      exact this
    refine ⟨some a, len, m, fun i => (F i).1, (List.range len).map fun i => (F i).2, hcs, ⟨by simp, Nat.le_trans hl hm, ?_, fun j hj => ?_⟩, hbk, fun k hk => ?_⟩
    · by_cases h0 : len = 0
      · exact .inl h0
      · right
        obtain ⟨b, off, spot⟩ := a
        have hspot : spot = none := by simpa [Addr.add] using World.cell?_spot (hx 0 (by omega)).1
        subst hspot
        refine ⟨b, off, rfl, fun j hj => ?_⟩
        have g := (hx j (by omega)).1
        rw [Addr.add_lit, (hF j (by omega)).1] at g
        exact g
    · have e : ((List.range len).map fun i => (F i).2)[j]?.getD [] = (F j).2 := by simp [hj]
      rw [e]
      exact (hF j (by omega)).2.1
    · obtain ⟨_, _, h3, h4⟩ := hF k (by omega)
      refine ⟨h3, Nat.le_trans h4 ?_⟩
      rw [hxx]
      exact hb.2 _ (List.mem_map.2 ⟨k, List.mem_range.2 hk, rfl⟩)
theorem array6 {α : Type} {cs : Array α} (h : cs.size = 6) : ∃ c0 c1 c2 c3 c4 c5, cs = #[c0, c1, c2, c3, c4, c5] := by
  obtain ⟨l⟩ := cs
  match l, h with
  | [c0, c1, c2, c3, c4, c5], _ => exact ⟨c0, c1, c2, c3, c4, c5, rfl⟩
/-- A struct of six fields of one cell each, opened. -/
theorem agg6 {P : Program} {H : Type} {enc : TypeId × Value → H} {W : World} {base b0 : Nat} {r : Reach} {spare : Nat → Bool} {held : Bool} {t : TypeId} {f0 f1 f2 f3 f4 f5 : Field} {v : Value} {d : DataW H} {p : List MemPlace}
    (hs : P.underlying t = some (.struct #[f0, f1, f2, f3, f4, f5])) (hone : oneCellFields P #[f0, f1, f2, f3, f4, f5] = true) (hC : P.cellsOf t = 6) (hv : Value.okWide P W r b0 t v) (h : DataW.Trod enc P W base spare held t v d p) :
    ∃ (v0 v1 v2 v3 v4 v5 : Value) (y0 y1 y2 y3 y4 y5 : DataW H × List MemPlace) (n : Nat), v = .agg #[v0, v1, v2, v3, v4, v5] ∧ (∀ y ∈ [y0, y1, y2, y3, y4, y5], Rows.uptoBulk y.1 ≤ Rows.uptoBulk d) ∧
      DataW.trod enc P W base spare held n f0.type [v0] = some y0 ∧ DataW.trod enc P W base spare held n f1.type [v1] = some y1 ∧ DataW.trod enc P W base spare held n f2.type [v2] = some y2 ∧ DataW.trod enc P W base spare held n f3.type [v3] = some y3 ∧ DataW.trod enc P W base spare held n f4.type [v4] = some y4 ∧ DataW.trod enc P W base spare held n f5.type [v5] = some y5 := by
  obtain ⟨cs, rfl, hsz⟩ := okWide_struct hs hv
  obtain ⟨c0, c1, c2, c3, c4, c5, rfl⟩ := array6 (hsz.trans hC)
  obtain ⟨fuel, hf⟩ := h
  obtain ⟨xs, n, _, hx, hl, hlen, hff⟩ := DataW.trod_struct hs hf
  simp only [Prod.mk.injEq] at hx
  obtain ⟨o0, k0⟩ := hone_of hone 0 f0 rfl
  obtain ⟨o1, k1⟩ := hone_of hone 1 f1 rfl
  obtain ⟨o2, k2⟩ := hone_of hone 2 f2 rfl
  obtain ⟨o3, k3⟩ := hone_of hone 3 f3 rfl
  obtain ⟨o4, k4⟩ := hone_of hone 4 f4 rfl
  obtain ⟨o5, k5⟩ := hone_of hone 5 f5 rfl
  match xs, hlen with
  | [y0, y1, y2, y3, y4, y5], _ =>
    exact ⟨c0, c1, c2, c3, c4, c5, y0, y1, y2, y3, y4, y5, n, rfl, fun y hy => by rw [hx.1]; exact bulkJ_agg _ _ (List.mem_map.2 ⟨y, hy, rfl⟩), by simpa [Value.cells, o0, k0] using hff 0 f0 rfl, by simpa [Value.cells, o1, k1] using hff 1 f1 rfl, by simpa [Value.cells, o2, k2] using hff 2 f2 rfl, by simpa [Value.cells, o3, k3] using hff 3 f3 rfl, by simpa [Value.cells, o4, k4] using hff 4 f4 rfl, by simpa [Value.cells, o5, k5] using hff 5 f5 rfl⟩
set_option maxRecDepth 100000 in
/-- A zonotope that came in. -/
theorem zono_openD {H : Type} {enc : TypeId × Value → H} {W : World} {b0 : Nat} {v : Value} {d : DataW H} {p : List MemPlace}
    (hv : Value.okWide Try.prog W .any b0 26 v) (h : DataW.Trod enc Try.prog W 0 (fun _ => true) true 26 v d p) (hk : Rows.uptoBulk d ≤ 1048576) :
    ∃ z : ZD, v = .agg (zRow z) ∧ ZR W z ∧ ZW z ∧ z.dn ≤ 1048576 := by
  obtain ⟨v0, v1, v2, v3, v4, v5, y0, y1, y2, y3, y4, y5, m, rfl, hb, g0, g1, g2, g3, g4, g5⟩ := agg6 Try.underlying26 (by kernel_rfl) (by kernel_rfl) hv h
  obtain ⟨N, e0, _, _⟩ := DataW.trod_int Try.underlying3 g0
  obtain ⟨co, cn, cc, cs, e1, r1, s1, t1⟩ := floatsJ_open Try.underlying22 Try.underlying50 (by kernel_rfl) g1
  obtain ⟨io, dn, dc, ids, e2, r2, s2, t2⟩ := intsJ_open Try.underlying23 Try.underlying3 (by kernel_rfl) g2
  obtain ⟨go, gn, gc, gv, gs, e3, r3, s3, t3⟩ := rowsJ_open Try.underlying24 Try.underlying22 Try.underlying50 (by kernel_rfl) (by kernel_rfl) g3
  obtain ⟨ro, rn, rc, rs, e4, r4, s4, t4⟩ := floatsJ_open Try.underlying22 Try.underlying50 (by kernel_rfl) g4
  obtain ⟨bad, e5⟩ := trodJ_bool Try.underlying4 g5
  simp only [List.cons.injEq, and_true] at e0 e1 e2 e3 e4 e5
  subst e0 e1 e2 e3 e4 e5
  have b1 := hb y1 (by simp)
  have b2 := hb y2 (by simp)
  have b3 := hb y3 (by simp)
  have b4 := hb y4 (by simp)
  exact ⟨⟨N, co, cn, cc, io, dn, dc, go, gn, gc, ro, rn, rc, bad, cs, ids, gv, gs, rs⟩, rfl, ⟨r1, r2, r3, r4⟩, ⟨s1, s2, s4, fun k hk' => (t3 k hk').1, by dsimp only; omega, by dsimp only; omega, by dsimp only; omega, by dsimp only; omega, fun k hk' => by have := (t3 k hk').2; dsimp only; omega⟩, by dsimp only; omega⟩
end Go.Proofs.Ytaloaholmhcflaa

namespace Go.Proofs.Ytaloaholmhcflaa
open Go.ChangeShapes Go.WideShapes Go.ChangeAt Go.RowKit Go.Joins Go.Deep
set_option linter.unusedVariables false
theorem array7 {cs : Array Value} (h : cs.size = 7) : ∃ c0 c1 c2 c3 c4 c5 c6, cs = #[c0, c1, c2, c3, c4, c5, c6] := by
  obtain ⟨l⟩ := cs
  match l, h with
  | [c0, c1, c2, c3, c4, c5, c6], _ => exact ⟨c0, c1, c2, c3, c4, c5, c6, rfl⟩
theorem agg7 {P : Program} {H : Type} {enc : TypeId × Value → H} {W : World} {base b0 : Nat} {r : Reach} {spare : Nat → Bool} {held : Bool} {t : TypeId} {f0 f1 f2 f3 f4 f5 f6 : Field} {v : Value} {d : DataW H} {p : List MemPlace}
    (hs : P.underlying t = some (.struct #[f0, f1, f2, f3, f4, f5, f6])) (hone : oneCellFields P #[f0, f1, f2, f3, f4, f5, f6] = true) (hC : P.cellsOf t = 7) (hv : Value.okWide P W r b0 t v) (h : DataW.Trod enc P W base spare held t v d p) :
    ∃ (v0 v1 v2 v3 v4 v5 v6 : Value) (y0 y1 y2 y3 y4 y5 y6 : DataW H × List MemPlace) (n : Nat), v = .agg #[v0, v1, v2, v3, v4, v5, v6] ∧ (∀ y ∈ [y0, y1, y2, y3, y4, y5, y6], Rows.uptoBulk y.1 ≤ Rows.uptoBulk d) ∧
      DataW.trod enc P W base spare held n f0.type [v0] = some y0 ∧ DataW.trod enc P W base spare held n f1.type [v1] = some y1 ∧ DataW.trod enc P W base spare held n f2.type [v2] = some y2 ∧ DataW.trod enc P W base spare held n f3.type [v3] = some y3 ∧ DataW.trod enc P W base spare held n f4.type [v4] = some y4 ∧ DataW.trod enc P W base spare held n f5.type [v5] = some y5 ∧ DataW.trod enc P W base spare held n f6.type [v6] = some y6 := by
  obtain ⟨cs, rfl, hsz⟩ := okWide_struct hs hv
  obtain ⟨c0, c1, c2, c3, c4, c5, c6, rfl⟩ := array7 (hsz.trans hC)
  obtain ⟨fuel, hf⟩ := h
  obtain ⟨xs, n, _, hx, hl, hlen, hff⟩ := DataW.trod_struct hs hf
  simp only [Prod.mk.injEq] at hx
  obtain ⟨o0, k0⟩ := hone_of hone 0 f0 rfl
  obtain ⟨o1, k1⟩ := hone_of hone 1 f1 rfl
  obtain ⟨o2, k2⟩ := hone_of hone 2 f2 rfl
  obtain ⟨o3, k3⟩ := hone_of hone 3 f3 rfl
  obtain ⟨o4, k4⟩ := hone_of hone 4 f4 rfl
  obtain ⟨o5, k5⟩ := hone_of hone 5 f5 rfl
  obtain ⟨o6, k6⟩ := hone_of hone 6 f6 rfl
  match xs, hlen with
  | [y0, y1, y2, y3, y4, y5, y6], _ =>
    exact ⟨c0, c1, c2, c3, c4, c5, c6, y0, y1, y2, y3, y4, y5, y6, n, rfl, fun y hy => by rw [hx.1]; exact bulkJ_agg _ _ (List.mem_map.2 ⟨y, hy, rfl⟩), by simpa [Value.cells, o0, k0] using hff 0 f0 rfl, by simpa [Value.cells, o1, k1] using hff 1 f1 rfl, by simpa [Value.cells, o2, k2] using hff 2 f2 rfl, by simpa [Value.cells, o3, k3] using hff 3 f3 rfl, by simpa [Value.cells, o4, k4] using hff 4 f4 rfl, by simpa [Value.cells, o5, k5] using hff 5 f5 rfl, by simpa [Value.cells, o6, k6] using hff 6 f6 rfl⟩
set_option maxRecDepth 100000 in
theorem prop_openD {H : Type} {enc : TypeId × Value → H} {W : World} {b0 : Nat} {v : Value} {d : DataW H} {p : List MemPlace}
    (hv : Value.okWide Try.prog W .any b0 28 v) (h : DataW.Trod enc Try.prog W 0 (fun _ => true) true 28 v d p) (hk : Rows.uptoBulk d ≤ 1048576) :
    ∃ (co go lo : Option Addr) (cn cc gn gc ln lc : Nat) (gvg gvl : Nat → Option Addr × Nat × Nat) (cs : List Nat) (gs ls : List (List Nat)) (t K D L : Int), v = .agg #[.slice co cn cc, .slice go gn gc, .int .i64 t, .slice lo ln lc, .int .i64 K, .int .i64 D, .int .i64 L] ∧ RdF W co cn cc cs ∧ RdGs W go gn gc gvg gs ∧ RdGs W lo ln lc gvl ls ∧ cn ≤ 1050000 ∧ gn ≤ 1050000 ∧ ln ≤ 1050000 ∧ (∀ k, k < gn → (gvg k).2.1 ≤ 1050000) ∧ (∀ k, k < ln → (gvl k).2.1 ≤ 1050000) := by
  obtain ⟨v0, v1, v2, v3, v4, v5, v6, y0, y1, y2, y3, y4, y5, y6, m, rfl, hb, g0, g1, g2, g3, g4, g5, g6⟩ := agg7 Try.underlying28 (by kernel_rfl) (by kernel_rfl) hv h
  obtain ⟨co, cn, cc, cs, e0, r0, s0, t0⟩ := floatsJ_open Try.underlying22 Try.underlying50 (by kernel_rfl) g0
  obtain ⟨go, gn, gc, gvg, gs, e1, r1, s1, t1⟩ := rowsJ_open Try.underlying24 Try.underlying22 Try.underlying50 (by kernel_rfl) (by kernel_rfl) g1
  obtain ⟨t, e2, _, _⟩ := DataW.trod_int Try.underlying3 g2
  obtain ⟨lo, ln, lc, gvl, ls, e3, r3, s3, t3⟩ := rowsJ_open Try.underlying24 Try.underlying22 Try.underlying50 (by kernel_rfl) (by kernel_rfl) g3
  obtain ⟨K, e4, _, _⟩ := DataW.trod_int Try.underlying3 g4
  obtain ⟨D, e5, _, _⟩ := DataW.trod_int Try.underlying3 g5
  obtain ⟨L, e6, _, _⟩ := DataW.trod_int Try.underlying3 g6
  simp only [List.cons.injEq, and_true] at e0 e1 e2 e3 e4 e5 e6
  subst e0 e1 e2 e3 e4 e5 e6
  have b0 := hb y0 (by simp)
  have b1 := hb y1 (by simp)
  have b3 := hb y3 (by simp)
  exact ⟨co, go, lo, cn, cc, gn, gc, ln, lc, gvg, gvl, cs, gs, ls, t, K, D, L, rfl, r0, r1, r3, by omega, by omega, by omega, fun k hk' => by have := (t1 k hk').2; omega, fun k hk' => by have := (t3 k hk').2; omega⟩
end Go.Proofs.Ytaloaholmhcflaa

