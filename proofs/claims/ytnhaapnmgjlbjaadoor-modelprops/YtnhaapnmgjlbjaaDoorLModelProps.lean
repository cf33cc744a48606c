import Derived.Test.YtnhaapnmgjlbjaaDoorVK
import Derived.Test.YtnhaapnmgjlbjaaDoorVF
import Derived.Test.YtnhaapnmgjlbjaaDoorKQ
namespace Go.Proofs.YtnhaapnmgjlbjaaDoor
open Go.RowKit
set_option linter.unusedVariables false

theorem tk_small (uss : List (List Nat)) : ∀ us ∈ tk uss, us.length ≤ 300 := by
  intro us h
  simp only [tk, List.mem_map] at h
  obtain ⟨a, _, rfl⟩ := h
  simp; omega
theorem tk_lt {uss : List (List Nat)} (h : ∀ us ∈ uss, ∀ u ∈ us, u < 18446744073709551616) : ∀ us ∈ tk uss, ∀ u ∈ us, u < 18446744073709551616 := by
  intro us hm u hu
  simp only [tk, List.mem_map] at hm
  obtain ⟨a, ha, rfl⟩ := hm
  exact h a (List.mem_of_mem_take ha) u (List.mem_of_mem_take hu)
theorem RdQ.lt {w : World} {ao : Option Addr} {len cap : Nat} {uss : List (List Nat)} (h : RdQ w ao len cap uss) : ∀ us ∈ uss, ∀ u ∈ us, u < 18446744073709551616 := by
  intro us hm u hu
  obtain ⟨j, hj, rfl⟩ := List.mem_iff_getElem.1 hm
  rcases h.cells with h0 | ⟨b, off, _, hc⟩
  · have := h.length; omega
  · obtain ⟨aj, lj, cj, _, hr, _⟩ := hc j (by rw [← h.length]; exact hj)
    rw [List.getElem?_eq_getElem hj] at hr
    exact hr.lt u hu
set_option maxRecDepth 100000 in
set_option maxHeartbeats 4000000 in
theorem modelProps_walk (co go lo : Option Addr) (cn cc gn gc ln lc : Nat) (cs : List Nat) (gs ls : List (List Nat)) (t K D L inn out : Int) (w : World) (hT : U8 w)
    (hc : RdF w co cn cc cs) (hc1 : cn ≤ cc) (hc2 : co = none → cc = 0) (hc3 : cc ≤ maxLen) (hg : RdQ w go gn gc gs) (hl : RdQ w lo ln lc ls) :
    Calls Tryd.prog 4 #[.agg #[.slice co cn cc, .slice go gn gc, .int .i64 t, .slice lo ln lc, .int .i64 K, .int .i64 D, .int .i64 L], .int .i64 inn, .int .i64 out] w fun e w' => e = .returned (.bool true) ∧ Below w.heap.size w w' := by
  have HT : Hid (U8 w) := hT
  have HLP : Hid (∀ wx, Below w.heap.size w wx → Calls Tryd.prog 9 #[.agg #[.slice co cn cc, .slice go gn gc, .int .i64 t, .slice lo ln lc, .int .i64 K, .int .i64 D, .int .i64 L]] wx fun e w' => ∃ v1 v2 v3, e = .returned (.agg #[v1, v2, .int .i64 t, v3, .int .i64 K, .int .i64 D, .int .i64 L]) ∧ Mk w' wx.heap.size v1 (cs.take 300) ∧ MkL w' wx.heap.size v2 (tk gs) ∧ MkL w' wx.heap.size v3 (tk ls) ∧ Below wx.heap.size wx w') := fun wx hb => lawProp_any co go lo cn cc gn gc ln lc cs gs ls t K D L wx (hc.later hb) hc1 hc2 hc3 (hg.later hb) (hl.later hb)
  have n1 : (cs.take 300).length ≤ 300 := by simp; omega
  have n2 : (tk gs).length ≤ 300 := by rw [tk_len]; omega
  have n3 : (tk ls).length ≤ 300 := by rw [tk_len]; omega
  have N4 : Hid _ := tk_small gs
  have N5 : Hid _ := tk_small ls
  have U1 : Hid (∀ u ∈ cs.take 300, u < 18446744073709551616) := fun u h => hc.lt u (List.mem_of_mem_take h)
  have U2 : Hid _ := tk_lt hg.lt
  have U3 : Hid _ := tk_lt hl.lt
  clear hT hc hc1 hc2 hc3 hg hl
  generalize cs.take 300 = ys at *
  generalize tk gs = gs' at *
  generalize tk ls = ls' at *
  have N4' : Hid (∀ us ∈ gs', us.length ≤ 1000) := fun us h => Nat.le_trans (N4.out us h) (by omega)
  have N5' : Hid (∀ us ∈ ls', us.length ≤ 1000) := fun us h => Nat.le_trans (N5.out us h) (by omega)
  go_enter Tryd.func4, Tryd.ntmps4
  go_wp2_with fail
  refine Calls.mono (told_any _ (HT.out.later ((Below.refl _ w).alloc (Nat.le_refl _) _))) ?_
  rintro e w1 ⟨rfl, hb⟩
  have HB1 : Hid (Below w.heap.size w w1) := to_call ((Below.refl _ w).alloc (Nat.le_refl _) _) hb
  have k0 := kept hb (heap_alloc_new w _)
  obtain ⟨a0, a1, a2, a3, a4, a5, a6⟩ := cells7 k0
  clear hb k0 HT
  go_wp2_with fail
  refine Calls.mono (HLP.out _ HB1.out) ?_
  rintro e w2 ⟨v1, v2, v3, rfl, m1, m2, m3, hb⟩
  obtain ⟨ao, ac, rfl, r1⟩ := m1.rd
  obtain ⟨bo, bc, rfl, r2⟩ := m2.rd
  obtain ⟨eo, ec, rfl, r3⟩ := m3.rd
  have HB2 : Hid (Below w.heap.size w w2) := to_call HB1.out hb
  have hs2 := HB2.out.size
  have HM : Hid (Mk w2 w1.heap.size (.slice ao ys.length ac) ys ∧ MkL w2 w1.heap.size (.slice bo gs'.length bc) gs' ∧ MkL w2 w1.heap.size (.slice eo ls'.length ec) ls') := ⟨m1, m2, m3⟩
  have HR : Hid (RdF w2 ao ys.length ac ys ∧ RdLL w2 bo gs'.length bc gs' ∧ RdLL w2 eo ls'.length ec ls') := ⟨r1, r2, r3⟩
  clear hb m1 m2 m3 r1 r2 r3 HLP a0 a1 a2 a3 a4 a5 a6
  go_upto_region 4 with (first | (refine wpList_store_row (by rfl) 27 _ _ (by rfl) w2 w2.heap.size w2.heap.size _ _ (by rfl) (by rfl) (heap_alloc_new w2 _) ((Below.refl _ w2).alloc (Nat.le_refl _) _) (Nat.le_refl _) 7 Tryd.infoProp (by rfl) (by rfl) (by exact one7 ..) ?_; intro W3 e3 hb3 hs3 ho3))
  have HB23 : Hid (Below w2.heap.size w2 W3) := hb3
  have HE3 : Hid (W3.heap[w2.heap.size]? = some (.cells #[.slice ao ys.length ac, .slice bo gs'.length bc, .int .i64 t, .slice eo ls'.length ec, .int .i64 K, .int .i64 D, .int .i64 L] 27)) := e3
  have HB3 : Hid (Below w.heap.size w W3) := to_call HB2.out hb3
  obtain ⟨a0, a1, a2, a3, a4, a5, a6⟩ := cells7 e3
  have HOP : Hid _ := ofProp_any ao bo eo ys.length ac gs'.length bc ls'.length ec ys gs' ls' t K D L W3 (HR.out.1.later hb3) (HR.out.2.1.later hb3) (HR.out.2.2.later hb3) (by omega) (by omega) (by omega) N4'.out N5'.out
  clear e3 hb3 hs3 ho3
  go_wp2_with fail
  refine Calls.mono HOP.out ?_
  rintro e w4 ⟨u1, u2, u3, rfl, m1, m2, m3, hb⟩
  obtain ⟨ao', ac', rfl, s1⟩ := m1.rd (by omega)
  obtain ⟨bo', bc', rfl, s2⟩ := m2.rd (by omega) N4'.out
  obtain ⟨eo', ec', rfl, s3⟩ := m3.rd (by omega) N5'.out
  have HB34 : Hid (Below W3.heap.size W3 w4) := hb
  have HB4 : Hid (Below w.heap.size w w4) := to_call HB3.out hb
  have hs4 := HB4.out.size
  have HE4 : Hid (w4.heap[w2.heap.size]? = some (.cells #[.slice ao ys.length ac, .slice bo gs'.length bc, .int .i64 t, .slice eo ls'.length ec, .int .i64 K, .int .i64 D, .int .i64 L] 27)) := kept hb HE3.out
  have HU : Hid (OwnUi w4 W3.heap.size (.slice ao' ys.length ac') ys ∧ MkU w4 W3.heap.size (.slice bo' gs'.length bc') gs' ∧ MkU w4 W3.heap.size (.slice eo' ls'.length ec') ls') := ⟨m1, m2, m3⟩
  have HV : Hid (RdU w4 ao' ys.length ac' ys ∧ RdUU w4 bo' gs'.length bc' gs' ∧ RdUU w4 eo' ls'.length ec' ls') := ⟨s1, s2, s3⟩
  clear hb m1 m2 m3 s1 s2 s3 HOP HE3 a0 a1 a2 a3 a4 a5 a6
  go_upto_region 5 with (first | (refine wpList_store_row (by rfl) 32 _ _ (by rfl) w4 w4.heap.size w4.heap.size _ _ (by rfl) (by rfl) (heap_alloc_new w4 _) ((Below.refl _ w4).alloc (Nat.le_refl _) _) (Nat.le_refl _) 7 Tryd.infoRefProp (by rfl) (by rfl) (by exact one7 ..) ?_; intro W5 e5 hb5 hs5 ho5))
  have HB45 : Hid (Below w4.heap.size w4 W5) := hb5
  have HE5 : Hid (W5.heap[w2.heap.size]? = some (.cells #[.slice ao ys.length ac, .slice bo gs'.length bc, .int .i64 t, .slice eo ls'.length ec, .int .i64 K, .int .i64 D, .int .i64 L] 27) ∧ W5.heap[w4.heap.size]? = some (.cells #[.slice ao' ys.length ac', .slice bo' gs'.length bc', .int .i64 t, .slice eo' ls'.length ec', .int .i64 K, .int .i64 D, .int .i64 L] 32)) := ⟨kept hb5 HE4.out, e5⟩
  have HB5 : Hid (Below w.heap.size w W5) := to_call HB4.out hb5
  obtain ⟨a0, a1, a2, a3, a4, a5, a6⟩ := cells7 HE5.out.1
  have HCP : Hid _ := checkProp_any ao bo eo ys.length ac gs'.length bc ls'.length ec ys gs' ls' t K D L inn out W5 (((HR.out.1.later HB23.out).later HB34.out).later hb5) (((HR.out.2.1.later HB23.out).later HB34.out).later hb5) (((HR.out.2.2.later HB23.out).later HB34.out).later hb5)
  clear e5 hb5 hs5 ho5 HE4
  unfold szV at HCP
  go_wp2_with fail
  refine Calls.mono HCP.out ?_
  rintro e w6 ⟨rfl, hb⟩
  have HB56 : Hid (Below W5.heap.size W5 w6) := hb
  have HB6 : Hid (Below w.heap.size w w6) := to_call HB5.out hb
  have HE6 : Hid (w6.heap[w2.heap.size]? = some (.cells #[.slice ao ys.length ac, .slice bo gs'.length bc, .int .i64 t, .slice eo ls'.length ec, .int .i64 K, .int .i64 D, .int .i64 L] 27) ∧ w6.heap[w4.heap.size]? = some (.cells #[.slice ao' ys.length ac', .slice bo' gs'.length bc', .int .i64 t, .slice eo' ls'.length ec', .int .i64 K, .int .i64 D, .int .i64 L] 32)) := ⟨kept hb HE5.out.1, kept hb HE5.out.2⟩
  clear HCP a0 a1 a2 a3 a4 a5 a6
  obtain ⟨b0, b1, b2, b3, b4, b5, b6⟩ := cells7 HE6.out.2
  have HRC : Hid _ := refCheckProp_any ao' bo' eo' ys.length ac' gs'.length bc' ls'.length ec' ys gs' ls' t K D L inn out w6 ((HV.out.1.later HB45.out).later hb) ((HV.out.2.1.later HB45.out).later hb) ((HV.out.2.2.later HB45.out).later hb) U1.out U2.out U3.out (by omega) (by omega)
  unfold szV at HRC
  clear hb HE5
  go_wp2_with fail
  refine Calls.mono HRC.out ?_
  rintro e w7 ⟨rfl, hb⟩
  have HB67 : Hid (Below w6.heap.size w6 w7) := hb
  have HB7 : Hid (Below w.heap.size w w7) := to_call HB6.out hb
  obtain ⟨c0, c1, c2, c3, c4, c5, c6⟩ := cells7 (kept hb HE6.out.1)
  obtain ⟨d0, d1, d2, d3, d4, d5, d6⟩ := cells7 (kept hb HE6.out.2)
  have l27 : ∀ {v : Value} {us : List Nat}, Mk w2 w1.heap.size v us → Mk w7 w1.heap.size v us := fun h => ((((h.later HB23.out).later HB34.out).later HB45.out).later HB56.out).later hb
  have l27' : ∀ {v : Value} {us : List (List Nat)}, MkL w2 w1.heap.size v us → MkL w7 w1.heap.size v us := fun h => ((((h.later HB23.out).later HB34.out).later HB45.out).later HB56.out).later hb
  have HPS : Hid _ := propStands_any w1.heap.size W3.heap.size (.slice ao ys.length ac) (.slice bo gs'.length bc) (.slice eo ls'.length ec) (.slice ao' ys.length ac') (.slice bo' gs'.length bc') (.slice eo' ls'.length ec') ys gs' ls' t K D L w7 (l27 HM.out.1) (l27' HM.out.2.1) (l27' HM.out.2.2) (((HU.out.1.later HB45.out).later HB56.out).later hb) (((HU.out.2.1.later HB45.out).later HB56.out).later hb) (((HU.out.2.2.later HB45.out).later HB56.out).later hb) n1 n2 n3 N4.out N5.out
  generalize (propE ys gs' t ls' K D L inn out).1 = p1 at *
  generalize (propE ys gs' t ls' K D L inn out).2 = p2 at *
  clear hb HRC HE6 l27 l27' b0 b1 b2 b3 b4 b5 b6
  go_wp2_with fail
  refine Calls.mono HPS.out ?_
  rintro e w8 ⟨rfl, hb⟩
  have HB8 : Hid (Below w.heap.size w w8) := to_call HB7.out hb
  clear hb HPS
  go_wp2
  go_ret
  exact ⟨rfl, HB8.out⟩
end Go.Proofs.YtnhaapnmgjlbjaaDoor
