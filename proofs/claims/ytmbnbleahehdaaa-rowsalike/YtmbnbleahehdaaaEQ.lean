import Derived.Test.YtmbnbleahehdaaaEM
import Derived.Test.YtmbnbleahehdaaaEL
namespace Go.Proofs.Ytmbnbleahehdaaa
open Go.RowKit
set_option linter.unusedVariables false

theorem inV_at (cs : List Int) (j : Nat) (h : j < cs.length) : (inV cs)[j]? = some (.int .i64 (cs[j]?.getD 0)) := by
  unfold inV
  rw [List.getElem?_map, List.getElem?_eq_getElem h]
  rfl
theorem flV'_at (us : List Nat) (j : Nat) (h : j < us.length) : (flV' us)[j]? = some (.float .f64 (us[j]?.getD 0)) := by
  unfold flV'
  rw [List.getElem?_map, List.getElem?_eq_getElem h]
  rfl
theorem RowV.rdI {w : World} {base : Nat} {v1 v2 : Value} {cs : List Int} {ws : List Nat} (h : RowV w base v1 v2 cs ws) (hm : cs.length ≤ 1000) : ∃ ao cap, v1 = .slice ao cs.length cap ∧ RdIn w ao cs.length cap cs := by
  rcases h.o1.2 with ⟨h0, h1⟩ | ⟨g, cap, cur, hv, hg, hh, hc, hx, hs, ht⟩
  · have hl : cs.length = 0 := by rw [show (inV cs).length = cs.length by simp [inV]] at h1; exact h1
    exact ⟨none, 0, by rw [h0, hl], ⟨rfl, by omega, .inl hl⟩⟩
  · rw [show (inV cs).length = cs.length by simp [inV]] at hv
    refine ⟨some ⟨g, 0, none⟩, cap, hv, ⟨rfl, by omega, .inr ⟨g, 0, rfl, fun j hj => ?_⟩⟩⟩
    rw [cell_of_row _ g _ _ _ _ hh]
    have hu := inV_at cs j hj
    rw [← ht, List.getElem?_take] at hu
    split at hu
    · rw [Array.getElem?_toList] at hu; rw [Nat.zero_add]; exact hu
    · cases hu
theorem RowV.rdF {w : World} {base : Nat} {v1 v2 : Value} {cs : List Int} {ws : List Nat} (h : RowV w base v1 v2 cs ws) (hm : ws.length ≤ 1000) (hl : ∀ u ∈ ws, u < 18446744073709551616) : ∃ ao cap, v2 = .slice ao ws.length cap ∧ RdF w ao ws.length cap ws := by
  have hmx : ws.length ≤ maxLen := Nat.le_trans hm (by decide)
  rcases h.o2.2 with ⟨h0, h1⟩ | ⟨g, cap, cur, hv, hg, hh, hc, hx, hs, ht⟩
  · have hl0 : ws.length = 0 := by rw [show (flV' ws).length = ws.length by simp [flV']] at h1; exact h1
    exact ⟨none, 0, by rw [h0, hl0], ⟨rfl, hmx, hl, .inl hl0⟩⟩
  · rw [show (flV' ws).length = ws.length by simp [flV']] at hv
    refine ⟨some ⟨g, 0, none⟩, cap, hv, ⟨rfl, hmx, hl, .inr ⟨g, 0, rfl, fun j hj => ?_⟩⟩⟩
    rw [cell_of_row _ g _ _ _ _ hh]
    have hu := flV'_at ws j hj
    rw [← ht, List.getElem?_take] at hu
    split at hu
    · rw [Array.getElem?_toList] at hu; rw [Nat.zero_add]; exact hu
    · cases hu
set_option maxRecDepth 100000 in
set_option maxHeartbeats 2000000 in
theorem alike_any (c h k i : Int) (x0 x1 x2 x3 x4 x5 x6 x7 x8 x9 x10 x11 x12 x13 y0 y1 y2 y3 y4 y5 y6 y7 y8 y9 y10 y11 y12 y13 : Value) (cs : List Int) (ws : List Nat) (b : Nat) (hc1 : cs.length ≤ 1000) (hw1 : ws.length ≤ 1000) (hwl : ∀ u ∈ ws, u < 18446744073709551616) (w : World)
    (hA : ∀ wx, Below w.heap.size w wx → Calls Try.prog 9 #[.agg #[x0, x1, x2, x3, x4, x5, x6, x7, x8, x9, x10, x11, x12, x13], .agg #[.int .i64 c, .int .i64 h, .int .i64 k], .int .i64 i] wx fun e w' => ∃ v1 v2, e = .returned (.tuple #[v1, v2, .float .f64 b, .int .i64 0]) ∧ RowV w' wx.heap.size v1 v2 cs ws ∧ Below wx.heap.size wx w')
    (hB : ∀ wx, Below w.heap.size w wx → Calls Try.prog 9 #[.agg #[y0, y1, y2, y3, y4, y5, y6, y7, y8, y9, y10, y11, y12, y13], .agg #[.int .i64 c, .int .i64 h, .int .i64 k], .int .i64 i] wx fun e w' => ∃ v1 v2, e = .returned (.tuple #[v1, v2, .float .f64 b, .int .i64 0]) ∧ RowV w' wx.heap.size v1 v2 cs ws ∧ Below wx.heap.size wx w') :
    Calls Try.prog 11 #[.agg #[x0, x1, x2, x3, x4, x5, x6, x7, x8, x9, x10, x11, x12, x13], .agg #[y0, y1, y2, y3, y4, y5, y6, y7, y8, y9, y10, y11, y12, y13], .agg #[.int .i64 c, .int .i64 h, .int .i64 k], .int .i64 i] w fun e w' => e = .returned (.bool true) ∧ Below w.heap.size w w' := by
  have HA : Hid _ := hA
  have HB : Hid _ := hB
  clear hA hB
  have X0 : Below w.heap.size w (((w.alloc (.cells #[x0, x1, x2, x3, x4, x5, x6, x7, x8, x9, x10, x11, x12, x13] 30)).alloc (.cells #[y0, y1, y2, y3, y4, y5, y6, y7, y8, y9, y10, y11, y12, y13] 30)).alloc (.cells #[.int .i64 c, .int .i64 h, .int .i64 k] 25)) := (((Below.refl _ w).alloc (Nat.le_refl _) _).alloc (by simp only [alloc_size]; omega) _).alloc (by simp only [alloc_size]; omega) _
  go_enter Try.func11, Try.ntmps11
  go_wp2_with fail
  refine Calls.mono (HA.out _ X0) ?_
  rintro e w1 ⟨v1, v2, rfl, r1, hb⟩
  have k1 := kept hb (alloc_kept (heap_at _ _ (w.heap.size + 1) (by simp only [alloc_size])) _)
  have k2 := kept hb (heap_at _ _ (w.heap.size + 1 + 1) (by simp only [alloc_size]))
  have B1 : Hid (Below w.heap.size w w1) := to_call X0 hb
  have R1 : Hid _ := r1
  obtain ⟨b0, b1, b2⟩ := cells3 k2
  clear hb r1 X0
  go_wp2_with (first | (refine wpList_load_row (by rfl) 30 _ (by rfl) (w.heap.size + 1) _ (by rfl) k1 _ Try.underlying30 rfl 14 Try.infoLy (by rfl) ?_))
  refine Calls.mono (HB.out _ B1.out) ?_
  rintro e w2 ⟨v3, v4, rfl, r3, hb⟩
  have B2 : Hid (Below w.heap.size w w2) := to_call B1.out hb
  have R1' := R1.out.later hb
  obtain ⟨ao, cap, rfl, f1⟩ := R1'.rdI hc1
  obtain ⟨bo, bcap, rfl, f2⟩ := R1'.rdF hw1 hwl
  obtain ⟨ao', cap', rfl, f3⟩ := r3.rdI hc1
  obtain ⟨bo', bcap', rfl, f4⟩ := r3.rdF hw1 hwl
  have F1 : Hid _ := f1
  have F2 : Hid _ := f2
  have F3 : Hid _ := f3
  have F4 : Hid _ := f4
  clear hb R1 R1' r3 f1 f2 f3 f4 k1 k2 b0 b1 b2 HA HB
  go_wp2_with (first
    | (go_at_call 10; refine Calls.mono (sameInts_any ao ao' cs.length cap cap' cs _ F1.out F3.out) ?_; rintro e w3 ⟨rfl, hb3⟩; have B3 : Hid (Below w2.heap.size w2 w3) := hb3; clear hb3)
    | (go_at_call 29; refine Calls.mono (bits_any b _) ?_; rintro e w9 ⟨rfl, rfl⟩)
    | (go_at_call_of 28 (Value.slice bo ws.length bcap); refine Calls.mono (bitsList_any bo ws.length bcap ws _ (F2.out.later B3.out) hw1) ?_; rintro e w4 ⟨v4, rfl, o4, hb4⟩; have O4 : Hid _ := o4; have B4 : Hid (Below w2.heap.size w2 w4) := to_call B3.out hb4; clear hb4 o4)
    | (go_at_call_of 28 (Value.slice bo' ws.length bcap'); refine Calls.mono (bitsList_any bo' ws.length bcap' ws _ (F4.out.later B4.out) hw1) ?_; rintro e w5 ⟨v5, rfl, o5, hb5⟩; have O5 : Hid _ := o5; have O4' : Hid _ := OwnUi.later O4.out hb5; have B5 : Hid (Below w2.heap.size w2 w5) := to_call B4.out hb5; clear hb5 o5; obtain ⟨p4, q4, rfl, u4⟩ := OwnUi.rd O4'.out hw1; obtain ⟨p5, q5, rfl, u5⟩ := OwnUi.rd O5.out hw1)
    | (go_at_call 27; refine Calls.mono (sameList_any p4 p5 ws.length q4 q5 ws _ u4 u5) ?_; rintro e w6 ⟨rfl, hb6⟩; have B6 : Hid (Below w2.heap.size w2 w6) := to_call B5.out hb6; clear hb6))
  go_ret
  exact ⟨rfl, to_call B2.out B6.out⟩
end Go.Proofs.Ytmbnbleahehdaaa
