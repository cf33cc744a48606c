import Derived.Test.YtoehhnildocihaaSPk
namespace Go.Proofs.Ytoehhnildocihaa
open Go.RowKit
set_option linter.unusedVariables false
set_option linter.unusedSimpArgs false
theorem whole2 (w : World) : Calls Try.prog 19 #[.int .i64 2] w fun e w' => (∃ B1 B2, e = .returned (.tuple #[.agg #[.slice (some ⟨B1, 0, none⟩) 2 2, .slice (some ⟨B2, 0, none⟩) 2 2], .int .i64 0]) ∧ RgO w' w.heap.size B1 B2 [0, 0] [0, 0]) ∧ Below w.heap.size w w' :=
  (whole_any 2 w).mono fun e w' ⟨h, hb⟩ => ⟨h.1 ⟨by decide, by decide⟩, hb⟩
theorem halve2 (B1 B2 base : Nat) (w : World) (h : RgO w base B1 B2 [0, 0] [0, 0]) : Calls Try.prog 20 #[.agg #[.slice (some ⟨B1, 0, none⟩) 2 2, .slice (some ⟨B2, 0, none⟩) 2 2], .int .i64 1] w fun e w' => (∃ C1 C2 D1 D2, e = .returned (.tuple #[.agg #[.slice (some ⟨C1, 0, none⟩) 2 2, .slice (some ⟨C2, 0, none⟩) 2 2], .agg #[.slice (some ⟨D1, 0, none⟩) 2 2, .slice (some ⟨D2, 0, none⟩) 2 2], .int .i64 0]) ∧ RgO w' w.heap.size C1 C2 [0, 1] [0, 0] ∧ RgO w' w.heap.size D1 D2 [0, 1] [0, 1]) ∧ Below w.heap.size w w' := by
  refine (halve_any _ _ 2 2 2 2 [0, 0] [0, 0] 1 w (h.rl rfl (by decide)) (h.ra rfl (by decide))).mono ?_
  have h0 : HvE [0, 0] [0, 0] 2 1 = 0 := by decide +kernel
  rintro e w' ⟨⟨v1, v2, he, h1, -⟩, hb⟩
  obtain ⟨⟨C1, C2, D1, D2, rfl, rfl, r1, r2, -⟩⟩ := h1 h0
  rw [h0] at he
  exact ⟨⟨C1, C2, D1, D2, he, r1, r2⟩, hb⟩
theorem way2 (B1 B2 base : Nat) (w : World) (h : RgO w base B1 B2 [0, 1] [0, 1]) : Calls Try.prog 21 #[.agg #[.slice (some ⟨B1, 0, none⟩) 2 2, .slice (some ⟨B2, 0, none⟩) 2 2]] w fun e w' => e = .returned (.tuple #[.int .i64 1, .int .i64 0]) ∧ Below w.heap.size w w' := by
  have h1 : WyV [0, 1] [0, 1] 2 = 1 := by decide +kernel
  have h2 : WyE [0, 1] [0, 1] 2 = 0 := by decide +kernel
  have := way_any _ _ 2 2 2 2 [0, 1] [0, 1] w (h.rl rfl (by decide)) (h.ra rfl (by decide))
  rw [h1, h2] at this
  exact this
theorem ends2 (B1 B2 S base : Nat) (w : World) (h : RgO w base B1 B2 [0, 1] [0, 1]) (hs : w.heap[S]? = some (.cells (inC [1, -1]) 3)) : Calls Try.prog 22 #[.agg #[.slice (some ⟨B1, 0, none⟩) 2 2, .slice (some ⟨B2, 0, none⟩) 2 2], .slice (some ⟨S, 0, none⟩) 2 2, .int .i64 1] w fun e w' => (∃ B, e = .returned (.tuple #[.slice (some ⟨B, 0, none⟩) 2 2, .int .i64 0]) ∧ w'.heap[B]? = some (.cells (inC [2, 0]) 3)) ∧ Below w.heap.size w w' := by
  refine (ends_any _ _ _ 2 2 2 2 2 2 [0, 1] [0, 1] [1, -1] 1 w (h.rl rfl (by decide)) (h.ra rfl (by decide)) (inC_rd (is := [1, -1]) hs (by decide))).mono ?_
  have h0 : EnE [0, 1] [0, 1] [1, -1] 2 2 1 = 0 := by decide +kernel
  have h3 : enL (List.zip [0, 1] [0, 1]) [1, -1] (1 : Int).toNat = [2, 0] := by decide +kernel
  rintro e w' ⟨⟨v1, he, h1, -⟩, hb⟩
  obtain ⟨B, rfl, -, h4⟩ := h1 h0
  rw [h0] at he
  rw [h3] at h4
  exact ⟨⟨B, he, h4⟩, hb⟩
theorem check2 (B1 B2 base : Nat) (w : World) (h : RgO w base B1 B2 [0, 0] [0, 0]) : Calls Try.prog 24 #[.agg #[.slice (some ⟨B1, 0, none⟩) 2 2, .slice (some ⟨B2, 0, none⟩) 2 2], .int .i64 2] w fun e w' => e = .returned (.int .i64 0) ∧ Below w.heap.size w w' := by
  have h1 : regB [0, 0] [0, 0] 2 = true := by decide +kernel
  have := check_any _ _ 2 2 2 2 [0, 0] [0, 0] 2 w (h.rl rfl (by decide)) (h.ra rfl (by decide))
  rw [h1] at this
  exact this
theorem within2 (B1 B2 S base : Nat) (bs : List Int) (b : Bool) (hbs : bs.length = 2) (hb : WiV [0, 1] bs [0, -1] 2 2 0 = b) (w : World) (h : RgO w base B1 B2 [0, 1] bs) (hs : w.heap[S]? = some (.cells (inC [0, -1]) 3)) : Calls Try.prog 25 #[.agg #[.slice (some ⟨B1, 0, none⟩) 2 2, .slice (some ⟨B2, 0, none⟩) 2 2], .slice (some ⟨S, 0, none⟩) 2 2, .int .i64 0] w fun e w' => e = .returned (.bool b) ∧ Below w.heap.size w w' := by
  have := within_any _ _ _ 2 2 2 2 2 2 [0, 1] bs [0, -1] 0 w (h.rl rfl (by decide)) (h.ra hbs (by decide)) (inC_rd (is := [0, -1]) hs (by decide))
  rw [hb] at this
  exact this
theorem sameI (B C n : Nat) (is js : List Int) (w : World) (hi : is.length = n) (hj : js.length = n) (hn : n ≤ 1000000) (h : w.heap[B]? = some (.cells (inC is) 3)) (k : w.heap[C]? = some (.cells (inC js) 3)) : Calls Try.prog 23 #[.slice (some ⟨B, 0, none⟩) n n, .slice (some ⟨C, 0, none⟩) n n] w fun e w' => e = .returned (.bool (decide (is = js))) ∧ Below w.heap.size w w' := by
  refine sameIntsM_any _ _ n n n n is js w ?_ ?_
  · subst hi; exact inC_rd h (Nat.le_trans hn (by decide))
  · subst hj; exact inC_rd k (Nat.le_trans hn (by decide))
set_option maxRecDepth 100000 in
set_option maxHeartbeats 4000000 in
/-- What the document fixes. -/
theorem awake_any (w : World) : Calls Try.prog 9 #[] w fun e w' => e = .returned (.bool true) ∧ Below w.heap.size w w' := by
  go_enter Try.func9, Try.ntmps9
  go_upto_region 2 with (first | (go_at_call 19; refine Calls.mono (whole2 _) ?_; rintro e' w1 ⟨⟨B1, B2, rfl, hr1⟩, bb1⟩))
  have A1 : Below w1.heap.size w1 (w1.alloc (.cells #[.slice (some ⟨B1, 0, none⟩) 2 2, .slice (some ⟨B2, 0, none⟩) 2 2] 30)) := (Below.refl _ w1).alloc (Nat.le_refl _) _
  have Y1 : (w1.alloc (.cells #[.slice (some ⟨B1, 0, none⟩) 2 2, .slice (some ⟨B2, 0, none⟩) 2 2] 30)).heap[w1.heap.size]? = some (.cells #[.slice (some ⟨B1, 0, none⟩) 2 2, .slice (some ⟨B2, 0, none⟩) 2 2] 30) := heap_alloc_new w1 _
  obtain ⟨V1, hV1⟩ : ∃ V, (w1.alloc (.cells #[.slice (some ⟨B1, 0, none⟩) 2 2, .slice (some ⟨B2, 0, none⟩) 2 2] 30)) = V := ⟨_, rfl⟩
  obtain ⟨p1, hp1⟩ : ∃ p, w1.heap.size = p := ⟨_, rfl⟩
  rw [hV1] at A1 Y1 ⊢
  rw [hp1] at Y1 ⊢
  have P1 : Hid (Below w.heap.size w V1 ∧ V1.heap[p1]? = some (.cells #[.slice (some ⟨B1, 0, none⟩) 2 2, .slice (some ⟨B2, 0, none⟩) 2 2] 30) ∧ RgO V1 w.heap.size B1 B2 [0, 0] [0, 0]) := ⟨to_call bb1 A1, Y1, hr1.later A1⟩
  clear hV1 hp1 A1 Y1 hr1 bb1
  go_upto_region 3 with (first | (refine wpList_load_row (by rfl) 30 _ (by rfl) p1 #[.slice (some ⟨B1, 0, none⟩) 2 2, .slice (some ⟨B2, 0, none⟩) 2 2] (by rfl) P1.out.2.1 _ Try.underlying30 rfl 2 Try.szRT (by rfl) ?_) | (go_at_call 20; refine Calls.mono (halve2 B1 B2 _ _ P1.out.2.2) ?_; rintro e' w2 ⟨⟨C1, C2, D1, D2, rfl, hr2, hr3⟩, bb2⟩))
  have A2 : Below w2.heap.size w2 ((w2.alloc (.cells #[.slice (some ⟨C1, 0, none⟩) 2 2, .slice (some ⟨C2, 0, none⟩) 2 2] 30)).alloc (.cells #[.slice (some ⟨D1, 0, none⟩) 2 2, .slice (some ⟨D2, 0, none⟩) 2 2] 30)) := below_al (below_al (Below.refl _ w2) _) _
  have Y2 : ((w2.alloc (.cells #[.slice (some ⟨C1, 0, none⟩) 2 2, .slice (some ⟨C2, 0, none⟩) 2 2] 30)).alloc (.cells #[.slice (some ⟨D1, 0, none⟩) 2 2, .slice (some ⟨D2, 0, none⟩) 2 2] 30)).heap[w2.heap.size]? = some (.cells #[.slice (some ⟨C1, 0, none⟩) 2 2, .slice (some ⟨C2, 0, none⟩) 2 2] 30) := alloc_kept (heap_alloc_new w2 _) _
  have Y3 : ((w2.alloc (.cells #[.slice (some ⟨C1, 0, none⟩) 2 2, .slice (some ⟨C2, 0, none⟩) 2 2] 30)).alloc (.cells #[.slice (some ⟨D1, 0, none⟩) 2 2, .slice (some ⟨D2, 0, none⟩) 2 2] 30)).heap[w2.heap.size + 1]? = some (.cells #[.slice (some ⟨D1, 0, none⟩) 2 2, .slice (some ⟨D2, 0, none⟩) 2 2] 30) := alloc_at _ _ _ (by simp)
  obtain ⟨V2, hV2⟩ : ∃ V, ((w2.alloc (.cells #[.slice (some ⟨C1, 0, none⟩) 2 2, .slice (some ⟨C2, 0, none⟩) 2 2] 30)).alloc (.cells #[.slice (some ⟨D1, 0, none⟩) 2 2, .slice (some ⟨D2, 0, none⟩) 2 2] 30)) = V := ⟨_, rfl⟩
  obtain ⟨p2, hp2⟩ : ∃ p, w2.heap.size = p := ⟨_, rfl⟩
  rw [hV2] at A2 Y2 Y3 ⊢
  rw [hp2] at Y2 Y3 ⊢
  have P2 : Hid (Below w.heap.size w V2 ∧ V2.heap[p1]? = some (.cells #[.slice (some ⟨B1, 0, none⟩) 2 2, .slice (some ⟨B2, 0, none⟩) 2 2] 30) ∧ RgO V2 w.heap.size B1 B2 [0, 0] [0, 0] ∧ V2.heap[p2]? = some (.cells #[.slice (some ⟨C1, 0, none⟩) 2 2, .slice (some ⟨C2, 0, none⟩) 2 2] 30) ∧ V2.heap[p2 + 1]? = some (.cells #[.slice (some ⟨D1, 0, none⟩) 2 2, .slice (some ⟨D2, 0, none⟩) 2 2] 30) ∧ RgO V2 V1.heap.size C1 C2 [0, 1] [0, 0] ∧ RgO V2 V1.heap.size D1 D2 [0, 1] [0, 1]) := ⟨to_call (to_call P1.out.1 bb2) A2, kept A2 (kept bb2 P1.out.2.1), (P1.out.2.2.later bb2).later A2, Y2, Y3, hr2.later A2, hr3.later A2⟩
  clear hV2 hp2 A2 Y2 Y3 hr2 hr3 bb2 P1
  go_upto_region 4 with (first | (refine wpList_load_row (by rfl) 30 _ (by rfl) (p2 + 1) #[.slice (some ⟨D1, 0, none⟩) 2 2, .slice (some ⟨D2, 0, none⟩) 2 2] (by rfl) P2.out.2.2.2.2.1 _ Try.underlying30 rfl 2 Try.szRT (by rfl) ?_) | (go_at_call 21; refine Calls.mono (way2 D1 D2 _ _ P2.out.2.2.2.2.2.2) ?_; rintro e' w3 ⟨rfl, bb3⟩))
  have P3 : Hid (Below w.heap.size w w3 ∧ w3.heap[p1]? = some (.cells #[.slice (some ⟨B1, 0, none⟩) 2 2, .slice (some ⟨B2, 0, none⟩) 2 2] 30) ∧ RgO w3 w.heap.size B1 B2 [0, 0] [0, 0] ∧ w3.heap[p2]? = some (.cells #[.slice (some ⟨C1, 0, none⟩) 2 2, .slice (some ⟨C2, 0, none⟩) 2 2] 30) ∧ w3.heap[p2 + 1]? = some (.cells #[.slice (some ⟨D1, 0, none⟩) 2 2, .slice (some ⟨D2, 0, none⟩) 2 2] 30) ∧ RgO w3 V1.heap.size C1 C2 [0, 1] [0, 0] ∧ RgO w3 V1.heap.size D1 D2 [0, 1] [0, 1]) := ⟨to_call P2.out.1 bb3, kept bb3 P2.out.2.1, P2.out.2.2.1.later bb3, kept bb3 P2.out.2.2.2.1, kept bb3 P2.out.2.2.2.2.1, P2.out.2.2.2.2.2.1.later bb3, P2.out.2.2.2.2.2.2.later bb3⟩
  have A3 : Hid (Below w3.heap.size w3 (w3.alloc (.cells #[.int .i64 1, .int .i64 (-1)] 3))) := (Below.refl _ w3).alloc (Nat.le_refl _) _
  have Y3 : Hid ((w3.alloc (.cells #[.int .i64 1, .int .i64 (-1)] 3)).heap[w3.heap.size]? = some (.cells (inC [1, -1]) 3)) := heap_alloc_new w3 _
  clear P2 bb3
  go_upto_region 5 with (first | (refine wpList_load_row (by rfl) 30 _ (by rfl) (p2 + 1) #[.slice (some ⟨D1, 0, none⟩) 2 2, .slice (some ⟨D2, 0, none⟩) 2 2] (by rfl) P3.out.2.2.2.2.1 _ Try.underlying30 rfl 2 Try.szRT (by rfl) ?_) | (go_at_call 22; refine Calls.mono (ends2 D1 D2 _ _ _ (P3.out.2.2.2.2.2.2.later A3.out) Y3.out) ?_; rintro e' w4 ⟨⟨E, rfl, hE⟩, bb4⟩))
  have P4 : Hid (Below w.heap.size w w4 ∧ w4.heap[p1]? = some (.cells #[.slice (some ⟨B1, 0, none⟩) 2 2, .slice (some ⟨B2, 0, none⟩) 2 2] 30) ∧ RgO w4 w.heap.size B1 B2 [0, 0] [0, 0] ∧ w4.heap[p2]? = some (.cells #[.slice (some ⟨C1, 0, none⟩) 2 2, .slice (some ⟨C2, 0, none⟩) 2 2] 30) ∧ w4.heap[p2 + 1]? = some (.cells #[.slice (some ⟨D1, 0, none⟩) 2 2, .slice (some ⟨D2, 0, none⟩) 2 2] 30) ∧ RgO w4 V1.heap.size C1 C2 [0, 1] [0, 0] ∧ RgO w4 V1.heap.size D1 D2 [0, 1] [0, 1] ∧ w4.heap[E]? = some (.cells (inC [2, 0]) 3)) := ⟨to_call (to_call P3.out.1 A3.out) bb4, kept bb4 (kept A3.out P3.out.2.1), (P3.out.2.2.1.later A3.out).later bb4, kept bb4 (kept A3.out P3.out.2.2.2.1), kept bb4 (kept A3.out P3.out.2.2.2.2.1), (P3.out.2.2.2.2.2.1.later A3.out).later bb4, (P3.out.2.2.2.2.2.2.later A3.out).later bb4, hE⟩
  clear P3 A3 Y3 hE bb4
  have A4 : Hid (Below w4.heap.size w4 (w4.alloc (.cells #[.int .i64 2, .int .i64 0] 3))) := (Below.refl _ w4).alloc (Nat.le_refl _) _
  have Y4 : Hid ((w4.alloc (.cells #[.int .i64 2, .int .i64 0] 3)).heap[w4.heap.size]? = some (.cells (inC [2, 0]) 3)) := heap_alloc_new w4 _
  have HS1 : Hid (Calls Try.prog 23 #[.slice (some ⟨E, 0, none⟩) 2 2, .slice (some ⟨w4.heap.size, 0, none⟩) 2 2] (w4.alloc (.cells #[.int .i64 2, .int .i64 0] 3)) fun e w' => e = .returned (.bool true) ∧ Below (w4.alloc (.cells #[.int .i64 2, .int .i64 0] 3)).heap.size (w4.alloc (.cells #[.int .i64 2, .int .i64 0] 3)) w') := sameI E w4.heap.size 2 [2, 0] [2, 0] _ rfl rfl (by decide) (kept A4.out P4.out.2.2.2.2.2.2.2) Y4.out
  go_upto_region 7 with (first | (go_at_call 23; refine Calls.mono HS1.out ?_; rintro e' w5 ⟨rfl, bb5⟩))
  have P5 : Hid (Below w.heap.size w w5 ∧ w5.heap[p1]? = some (.cells #[.slice (some ⟨B1, 0, none⟩) 2 2, .slice (some ⟨B2, 0, none⟩) 2 2] 30) ∧ RgO w5 w.heap.size B1 B2 [0, 0] [0, 0] ∧ w5.heap[p2]? = some (.cells #[.slice (some ⟨C1, 0, none⟩) 2 2, .slice (some ⟨C2, 0, none⟩) 2 2] 30) ∧ w5.heap[p2 + 1]? = some (.cells #[.slice (some ⟨D1, 0, none⟩) 2 2, .slice (some ⟨D2, 0, none⟩) 2 2] 30) ∧ RgO w5 V1.heap.size C1 C2 [0, 1] [0, 0] ∧ RgO w5 V1.heap.size D1 D2 [0, 1] [0, 1]) := ⟨to_call (to_call P4.out.1 A4.out) bb5, kept bb5 (kept A4.out P4.out.2.1), (P4.out.2.2.1.later A4.out).later bb5, kept bb5 (kept A4.out P4.out.2.2.2.1), kept bb5 (kept A4.out P4.out.2.2.2.2.1), (P4.out.2.2.2.2.2.1.later A4.out).later bb5, (P4.out.2.2.2.2.2.2.1.later A4.out).later bb5⟩
  clear P4 A4 Y4 HS1 bb5
  go_wp2_with (first | (refine wpList_load_row (by rfl) 30 _ (by rfl) p1 #[.slice (some ⟨B1, 0, none⟩) 2 2, .slice (some ⟨B2, 0, none⟩) 2 2] (by rfl) P5.out.2.1 _ Try.underlying30 rfl 2 Try.szRT (by rfl) ?_))
  refine Calls.mono (check2 B1 B2 _ _ P5.out.2.2.1) ?_
  rintro e' w6 ⟨rfl, bb6⟩
  have A6 : Hid (Below w6.heap.size w6 (w6.alloc (.cells #[.int .i64 0, .int .i64 (-1)] 3))) := (Below.refl _ w6).alloc (Nat.le_refl _) _
  have Y6 : Hid ((w6.alloc (.cells #[.int .i64 0, .int .i64 (-1)] 3)).heap[w6.heap.size]? = some (.cells (inC [0, -1]) 3)) := heap_alloc_new w6 _
  have BB6 : Hid (Below w5.heap.size w5 w6) := bb6
  clear bb6
  go_wp2_with (first | (refine wpList_load_rowG (by rfl) 30 _ (by rfl) p2 #[.slice (some ⟨C1, 0, none⟩) 2 2, .slice (some ⟨C2, 0, none⟩) 2 2] (by rfl) (kept BB6.out P5.out.2.2.2.1) _ Try.underlying30 rfl 2 Try.szRT (by rfl) ?_))
  refine Calls.mono (within2 C1 C2 w6.heap.size _ [0, 0] true rfl (by decide +kernel) _ ((P5.out.2.2.2.2.2.1.later BB6.out).later A6.out) Y6.out) ?_
  rintro e' w7 ⟨rfl, bb7⟩
  have A7 : Hid (Below w7.heap.size w7 (w7.alloc (.cells #[.int .i64 0, .int .i64 (-1)] 3))) := (Below.refl _ w7).alloc (Nat.le_refl _) _
  have Y7 : Hid ((w7.alloc (.cells #[.int .i64 0, .int .i64 (-1)] 3)).heap[w7.heap.size]? = some (.cells (inC [0, -1]) 3)) := heap_alloc_new w7 _
  have P7 : Hid (Below w.heap.size w w7 ∧ w7.heap[p2 + 1]? = some (.cells #[.slice (some ⟨D1, 0, none⟩) 2 2, .slice (some ⟨D2, 0, none⟩) 2 2] 30) ∧ RgO w7 V1.heap.size D1 D2 [0, 1] [0, 1]) := ⟨to_call (to_call (to_call P5.out.1 BB6.out) A6.out) bb7, kept bb7 (kept A6.out (kept BB6.out P5.out.2.2.2.2.1)), ((P5.out.2.2.2.2.2.2.later BB6.out).later A6.out).later bb7⟩
  clear P5 BB6 A6 Y6 bb7
  go_wp2_with (first | (refine wpList_load_rowG (by rfl) 30 _ (by rfl) (p2 + 1) #[.slice (some ⟨D1, 0, none⟩) 2 2, .slice (some ⟨D2, 0, none⟩) 2 2] (by rfl) P7.out.2.1 _ Try.underlying30 rfl 2 Try.szRT (by rfl) ?_))
  refine Calls.mono (within2 D1 D2 w7.heap.size _ [0, 1] false rfl (by decide +kernel) _ (P7.out.2.2.later A7.out) Y7.out) ?_
  rintro e' w8 ⟨rfl, bb8⟩
  have P8 : Hid (Below w.heap.size w w8 ∧ w8.heap[p2 + 1]? = some (.cells #[.slice (some ⟨D1, 0, none⟩) 2 2, .slice (some ⟨D2, 0, none⟩) 2 2] 30) ∧ RgO w8 V1.heap.size D1 D2 [0, 1] [0, 1]) := ⟨to_call (to_call P7.out.1 A7.out) bb8, kept bb8 (kept A7.out P7.out.2.1), (P7.out.2.2.later A7.out).later bb8⟩
  have c8 := cellAtJ P8.out.2.1 1 _ rfl
  have A8 : Hid (Below w8.heap.size w8 (w8.alloc (.cells #[.int .i64 0, .int .i64 1] 3))) := (Below.refl _ w8).alloc (Nat.le_refl _) _
  have Y8 : Hid ((w8.alloc (.cells #[.int .i64 0, .int .i64 1] 3)).heap[w8.heap.size]? = some (.cells (inC [0, 1]) 3)) := heap_alloc_new w8 _
  clear P7 A7 Y7 bb8
  go_wp2_with fail
  refine Calls.mono (sameI D2 w8.heap.size 2 [0, 1] [0, 1] _ rfl rfl (by decide) (P8.out.2.2.later A8.out).a Y8.out) ?_
  rintro e' w9 ⟨rfl, bb9⟩
  clear c8
  go_wp2_with fail
  go_ret
  exact ⟨rfl, to_call (to_call P8.out.1 A8.out) bb9⟩
end Go.Proofs.Ytoehhnildocihaa
