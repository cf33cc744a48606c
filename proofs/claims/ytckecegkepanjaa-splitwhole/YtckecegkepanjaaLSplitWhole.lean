import Derived.Test.YtckecegkepanjaaSPo
namespace Go.Proofs.Ytckecegkepanjaa
open Go.RowKit
set_option linter.unusedVariables false
set_option linter.unusedSimpArgs false
theorem rdNil (w : World) : RdIs w none 0 0 [] := ⟨rfl, Nat.zero_le _, .inl rfl⟩
set_option maxRecDepth 100000 in
set_option maxHeartbeats 4000000 in
theorem splitWhole_walk (k : Int) (w : World) : Calls Try.prog 3 #[.int .i64 k] w fun e w' => e = .returned (.bool true) ∧ Below w.heap.size w w' := by
  have HW1 : Hid (∀ W, Calls Try.prog 9 #[.int .i64 k] W fun e w' => (∃ a1 a2 n c1 c2 is er, e = .returned (.tuple #[.agg #[.slice a1 n c1, .slice a2 n c2], .int .i64 er]) ∧ Hid (RdIs w' a1 n c1 is ∧ RdIs w' a2 n c2 is ∧ er = (if 0 ≤ k ∧ k ≤ 256 then 0 else 1) ∧ is = (if 0 ≤ k ∧ k ≤ 256 then List.replicate k.toNat 0 else []))) ∧ Below W.heap.size W w') := by
    intro W
    refine (whole_any k W).mono ?_
    rintro e w' ⟨⟨h1, h2⟩, hb⟩
    refine ⟨?_, hb⟩
    by_cases hk : 0 ≤ k ∧ k ≤ 256
    · obtain ⟨B1, B2, he, hr⟩ := h1 hk
      exact ⟨_, _, _, _, _, List.replicate k.toNat 0, 0, he, hr.rl List.length_replicate (by omega), hr.ra List.length_replicate (by omega), by rw [if_pos hk], by rw [if_pos hk]⟩
    · exact ⟨none, none, 0, 0, 0, [], 1, h2 hk, rdNil _, rdNil _, by rw [if_neg hk], by rw [if_neg hk]⟩
  have HW2 : Hid (∀ W, Calls Try.prog 10 #[.int .i64 k] W fun e w' => (∃ a1 a2 n c1 c2 is er, e = .returned (.tuple #[.agg #[.slice a1 n c1, .slice a2 n c2], .int .i64 er]) ∧ Hid (RdIs w' a1 n c1 is ∧ RdIs w' a2 n c2 is ∧ er = (if 0 ≤ k ∧ k ≤ 256 then 0 else 1) ∧ is = (if 0 ≤ k ∧ k ≤ 256 then List.replicate k.toNat 0 else []))) ∧ Below W.heap.size W w') := by
    intro W
    refine (refWhole_any k W).mono ?_
    rintro e w' ⟨⟨h1, h2⟩, hb⟩
    refine ⟨?_, hb⟩
    by_cases hk : 0 ≤ k ∧ k ≤ 256
    · obtain ⟨v1, v2, he, r1, r2⟩ := h1 hk
      obtain ⟨a1, c1, rfl, q1⟩ := r1.rd
      obtain ⟨a2, c2, rfl, q2⟩ := r2.rd
      exact ⟨a1, a2, _, c1, c2, List.replicate k.toNat 0, 0, he, q1, q2, by rw [if_pos hk], by rw [if_pos hk]⟩
    · exact ⟨none, none, 0, 0, 0, [], 1, h2 hk, rdNil _, rdNil _, by rw [if_neg hk], by rw [if_neg hk]⟩
  go_enter Try.func3, Try.ntmps3
  go_wp2_with fail
  refine Calls.mono (HW1.out _) ?_
  rintro e' w1 ⟨⟨a1, a2, n, c1, c2, is, er, rfl, R1⟩, bb1⟩
  go_upto_region 2 with fail
  have A1 : Below w1.heap.size w1 (w1.alloc (.cells #[.slice a1 n c1, .slice a2 n c2] 24)) := (Below.refl _ w1).alloc (Nat.le_refl _) _
  have Y1 : (w1.alloc (.cells #[.slice a1 n c1, .slice a2 n c2] 24)).heap[w1.heap.size]? = some (.cells #[.slice a1 n c1, .slice a2 n c2] 24) := heap_alloc_new w1 _
  obtain ⟨V1, hV1⟩ : ∃ V, (w1.alloc (.cells #[.slice a1 n c1, .slice a2 n c2] 24)) = V := ⟨_, rfl⟩
  obtain ⟨p1, hp1⟩ : ∃ p, w1.heap.size = p := ⟨_, rfl⟩
  rw [hV1] at A1 Y1 ⊢
  rw [hp1] at Y1 ⊢
  have P1 : Hid (Below w.heap.size w V1 ∧ V1.heap[p1]? = some (.cells #[.slice a1 n c1, .slice a2 n c2] 24) ∧ RdIs V1 a1 n c1 is ∧ RdIs V1 a2 n c2 is) := ⟨to_call bb1 A1, Y1, R1.out.1.later A1, R1.out.2.1.later A1⟩
  clear hV1 hp1 A1 Y1 bb1 HW1
  go_wp2_with fail
  refine Calls.mono (HW2.out _) ?_
  rintro e' w2 ⟨⟨b1, b2, m, d1, d2, js, er2, rfl, R2⟩, bb2⟩
  have hjs : js = is := by rw [R2.out.2.2.2, R1.out.2.2.2]
  have her : er2 = er := by rw [R2.out.2.2.1, R1.out.2.2.1]
  subst hjs her
  go_upto_region 3 with fail
  have A2 : Below w2.heap.size w2 (w2.alloc (.cells #[.slice b1 m d1, .slice b2 m d2] 24)) := (Below.refl _ w2).alloc (Nat.le_refl _) _
  have Y2 : (w2.alloc (.cells #[.slice b1 m d1, .slice b2 m d2] 24)).heap[w2.heap.size]? = some (.cells #[.slice b1 m d1, .slice b2 m d2] 24) := heap_alloc_new w2 _
  obtain ⟨V2, hV2⟩ : ∃ V, (w2.alloc (.cells #[.slice b1 m d1, .slice b2 m d2] 24)) = V := ⟨_, rfl⟩
  obtain ⟨p2, hp2⟩ : ∃ p, w2.heap.size = p := ⟨_, rfl⟩
  rw [hV2] at A2 Y2 ⊢
  rw [hp2] at Y2 ⊢
  have P2 : Hid (Below w.heap.size w V2 ∧ V2.heap[p1]? = some (.cells #[.slice a1 n c1, .slice a2 n c2] 24) ∧ V2.heap[p2]? = some (.cells #[.slice b1 m d1, .slice b2 m d2] 24)) := ⟨to_call (to_call P1.out.1 bb2) A2, kept A2 (kept bb2 P1.out.2.1), Y2⟩
  have HSA : Hid (Calls Try.prog 11 #[.agg #[.slice a1 n c1, .slice a2 n c2], .agg #[.slice b1 m d1, .slice b2 m d2]] V2 fun e w' => e = .returned (.bool true) ∧ Below V2.heap.size V2 w') := by
    have := same_any a1 a2 b1 b2 n c1 n c2 m d1 m d2 js js js js V2 ((P1.out.2.2.1.later bb2).later A2) ((P1.out.2.2.2.later bb2).later A2) (R2.out.1.later A2) (R2.out.2.1.later A2)
    rw [decide_eq_true ⟨rfl, rfl⟩] at this
    exact this
  have he : (er2 == er2) = true := by simp
  clear hV2 hp2 A2 Y2 bb2 HW2 P1 R1 R2
  go_wp2_with (first | (refine wpList_load_rowG (by rfl) 24 _ (by rfl) p1 #[.slice a1 n c1, .slice a2 n c2] (by rfl) P2.out.2.1 _ Try.underlying24 rfl 2 Try.szRT (by rfl) ?_) | (refine wpList_load_rowG (by rfl) 24 _ (by rfl) p2 #[.slice b1 m d1, .slice b2 m d2] (by rfl) P2.out.2.2 _ Try.underlying24 rfl 2 Try.szRT (by rfl) ?_))
  refine Calls.mono HSA.out ?_
  rintro e' w3 ⟨rfl, bb3⟩
  go_wp2_with fail
  refine Calls.mono (awake_any _) ?_
  rintro e' w4 ⟨rfl, bb4⟩
  go_wp2_with fail
  go_ret
  exact ⟨rfl, to_call (to_call P2.out.1 bb3) bb4⟩
end Go.Proofs.Ytckecegkepanjaa
