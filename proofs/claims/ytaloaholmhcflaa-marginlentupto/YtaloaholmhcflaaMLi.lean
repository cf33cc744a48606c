import Derived.Deep.QuietTactic
import Derived.BigQuiet
import Derived.Test.YtaloaholmhcflaaMLh
namespace Go.Proofs.Ytaloaholmhcflaa
open Go.RowKit Go.Shelf
set_option linter.unusedVariables false
set_option linter.unusedSimpArgs false
set_option maxRecDepth 100000 in
set_option maxHeartbeats 20000000 in
theorem listsO_any (ao : Option Addr) (l c : Nat) (gv : Nat → Option Addr × Nat × Nat) (css : List (List Nat)) (w : World) (ha : RdGs w ao l c gv css) (hl : l ≤ 1050000) (hll : ∀ k, k < l → (gv k).2.1 ≤ 1050000) :
    Calls Try.prog 9 #[.slice ao l c] w fun e w' => (∃ (go : Option Addr) (gc : Nat) (gl : List Value), e = .returned (.slice go l gc) ∧ Hid (OfL w' w.heap.size [] [] [] css (.slice none 0 0) (.slice none 0 0) (.slice none 0 0) (.slice go l gc) gl)) ∧ Below w.heap.size w w' := by
  have HA : Hid (∀ W', Below w.heap.size w W' → RdGs W' ao l c gv css) := fun W' hb => ha.later hb
  have HLN : Hid (css.length = l) := ha.length
  have HLL : Hid (∀ k, k < l → (gv k).2.1 ≤ 1050000) := hll
  clear ha hll
  go_enter Try.func9, Try.ntmps9
  go_wp2_with fail
  go_loopg [3, 4] l (fun g v3 v4 wx => ∃ k : Nat, v4 = .int .i64 k ∧ k + g = l ∧ ∃ gl : List Value, Hid (OfL wx w.heap.size [] [] [] (css.take k) (.slice none 0 0) (.slice none 0 0) (.slice none 0 0) v3 gl ∧ Below w.heap.size w wx ∧ gl.length = k))
  case atStart => exact ⟨0, rfl, by omega, [], ⟨OfL.nilM _ _, Below.refl _ _, rfl⟩⟩
  case round =>
    obtain ⟨k, rfl, hk, gl, HI⟩ := hrel
    by_cases hlt : k < l
    · have hd : decide ((k : Int) < (l : Int)) = true := decide_eq_true (by omega)
      obtain ⟨g, rfl⟩ : ∃ g, gk = g + 1 := ⟨gk - 1, by omega⟩
      have HIG : Hid (k + (g + 1) = l) := hk
      have hlt' : (k : Int) < (l : Int) := by omega
      have rx := HA.out _ HI.out.2.1
      rcases rx.cells with h0 | ⟨gb, goff, ego, hcg⟩
      · omega
      subst ego
      have gg := hcg k hlt
      have rg := rx.each k hlt
      have hl2 := HLL.out k hlt
      obtain ⟨x1, ex1⟩ : ∃ t, (gv k).1 = t := ⟨_, rfl⟩
      obtain ⟨x2, ex2⟩ : ∃ t, (gv k).2.1 = t := ⟨_, rfl⟩
      obtain ⟨x3, ex3⟩ : ∃ t, (gv k).2.2 = t := ⟨_, rfl⟩
      rw [ex1, ex2, ex3] at rg gg
      rw [ex2] at hl2
      have RG : Hid (RdF wr x1 x2 x3 (css[k]?.getD [])) := rg
      have HTK : Hid (css.take (k + 1) = css.take k ++ [css[k]?.getD []]) := by
        have hkl : k < css.length := by rw [HLN.out]; exact hlt
        unfold Hid
        rw [List.take_succ_eq_append_getElem hkl, List.getElem?_eq_getElem hkl]; rfl
      clear rx hcg rg ex1 ex2 ex3 hk
      go_wp2_with fail
      refine Calls.mono (bits10_any x1 x2 x3 _ _ RG.out hl2) ?_
      rintro e w1 ⟨v1, rfl, o1, b1⟩
      obtain ⟨bo1, bc1, hv1, -⟩ := rdU_own o1
      obtain ⟨ln1, hln1⟩ : ∃ ln, (css[k]?.getD []).length = ln := ⟨_, rfl⟩
      rw [hln1] at hv1
      subst hv1
      have O1 : Hid (w1.ownsRow w.heap.size 65 1 (.slice bo1 ln1 bc1) (css[k]?.getD []).length (uJ (css[k]?.getD []))) := owns_monoJ o1 HI.out.2.1.size
      have L1 : Hid (OfL w1 w.heap.size [] [] [] (css.take k) (.slice none 0 0) (.slice none 0 0) (.slice none 0 0) u3 gl ∧ Below w.heap.size w w1 ∧ gl.length = k) := ⟨HI.out.1.later b1, to_call HI.out.2.1 b1, HI.out.2.2⟩
      clear o1 b1 gg RG HI hln1
      have A1 : Below w1.heap.size w1 (w1.alloc (.cells #[.slice bo1 ln1 bc1] 30)) := (Below.refl _ w1).alloc (Nat.le_refl _) _
      have Lz : Hid (OfL (w1.alloc (.cells #[.slice bo1 ln1 bc1] 30)) w.heap.size [] [] [] (css.take k) (.slice none 0 0) (.slice none 0 0) (.slice none 0 0) u3 gl) := L1.out.1.later A1
      have Oz : Hid ((w1.alloc (.cells #[.slice bo1 ln1 bc1] 30)).ownsRow w.heap.size 65 1 (.slice bo1 ln1 bc1) (css[k]?.getD []).length (uJ (css[k]?.getD []))) := World.ownsRow.alloc O1.out _
      go_wp2_with (first
        | (at_builtin; refine append_gsJ Try.underlying31 Try.infoUsM rfl (by decide) (by decide) _ (by rfl) _ _ (by rfl) w.heap.size _ gl.length gl (by rfl) Lz.out.g ⟨w1.heap.size, 0, none⟩ 1 1 [.slice bo1 ln1 bc1] (by rfl) rfl (news_oneJ (heap_alloc_new w1 _)) (oneI _ (own_valJ O1.out).1) (by have := L1.out.2.2; omega) (by have := L1.out.2.1.size; simp only [alloc_size]; omega) ?_; intro v6 w6 o6 g6))
      have HI2 : Hid (OfL w6 w.heap.size [] [] [] (css.take (k + 1)) (.slice none 0 0) (.slice none 0 0) (.slice none 0 0) v6 (gl ++ [Value.slice bo1 ln1 bc1]) ∧ Below w.heap.size w w6 ∧ (gl ++ [Value.slice bo1 ln1 bc1]).length = k + 1) := by
        refine ⟨?_, (to_call L1.out.2.1 A1).trans (g6.below (fun k hk => (World.ownsRow.lt Lz.out.g k hk).1) (to_call L1.out.2.1 A1).size), by rw [List.length_append, L1.out.2.2]; rfl⟩
        rw [HTK.out]
        exact Lz.out.pushG g6 o6 Oz.out
      clear o6 g6 A1 Lz Oz O1 L1 HTK
      go_roundg g
      case measure => omega
      case rel => exact ⟨k + 1, by go_num, by have := HIG.out; omega, gl ++ [Value.slice bo1 ln1 bc1], HI2⟩
    · have hd : decide ((k : Int) < (l : Int)) = false := decide_eq_false (by omega)
      have hd' : decide (k < l) = false := decide_eq_false (by omega)
      have h9 := HI.out.1
      rw [List.take_of_length_le (by rw [HLN.out]; omega)] at h9
      obtain ⟨go, gc, gv', e9, r9⟩ := h9.guM
      rw [HLN.out] at e9 r9
      subst e9
      have HR9 : Hid (OfL wr w.heap.size [] [] [] css (.slice none 0 0) (.slice none 0 0) (.slice none 0 0) (.slice go l gc) gl) := h9
      clear h9 r9
      go_wp2_with fail
      go_ret
      exact ⟨⟨go, gc, gl, rfl, HR9⟩, HI.out.2.1⟩
end Go.Proofs.Ytaloaholmhcflaa
