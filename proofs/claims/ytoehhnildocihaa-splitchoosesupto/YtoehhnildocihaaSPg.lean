import Derived.Test.YtoehhnildocihaaSPf
namespace Go.Proofs.Ytoehhnildocihaa
open Go.RowKit
set_option linter.unusedVariables false
set_option linter.unusedSimpArgs false
set_option maxRecDepth 100000 in
set_option maxHeartbeats 4000000 in
theorem whole_any (k : Int) (w : World) :
    Calls Try.prog 19 #[.int .i64 k] w fun e w' => ((0 ≤ k ∧ k ≤ 256 → ∃ B1 B2, e = .returned (.tuple #[.agg #[.slice (some ⟨B1, 0, none⟩) k.toNat k.toNat, .slice (some ⟨B2, 0, none⟩) k.toNat k.toNat], .int .i64 0]) ∧ RgO w' w.heap.size B1 B2 (List.replicate k.toNat 0) (List.replicate k.toNat 0)) ∧ (¬ (0 ≤ k ∧ k ≤ 256) → e = .returned (.tuple #[.agg #[.slice none 0 0, .slice none 0 0], .int .i64 1]))) ∧ Below w.heap.size w w' := by
  have X0 : Below w.heap.size w (w.alloc (.cells #[.slice none 0 0, .slice none 0 0] 30)) := (Below.refl _ w).alloc (Nat.le_refl _) _
  have Y0 : (w.alloc (.cells #[.slice none 0 0, .slice none 0 0] 30)).heap[w.heap.size]? = _ := heap_alloc_new w _
  by_cases h1 : k < 0
  · have d1 : decide (k < 0) = true := decide_eq_true h1
    go_enter Try.func19, Try.ntmps19
    go_upto_region 1 with fail
    obtain ⟨X, hX⟩ : ∃ X, (w.alloc (.cells #[.slice none 0 0, .slice none 0 0] 30)) = X := ⟨_, rfl⟩
    rw [hX] at X0 Y0 ⊢
    clear hX
    go_wp2_with (first | (refine wpList_store_row (by rfl) 30 _ _ (by rfl) w w.heap.size w.heap.size #[.slice none 0 0, .slice none 0 0] _ (by rfl) (by rfl) Y0 X0 (by omega) 2 Try.szRT rfl rfl (one_rg _ _ _ _ _ _) ?_; intro W7 e7 b7 s7 o7))
    refine bodyPost_ret (res_ct _ _ _ 30 _ 2 2 3 (by kernel_rfl) w.heap.size _ _ rfl rfl Try.underlying30 rfl Try.szRT rfl e7) rfl ?_
    exact ⟨⟨fun h => by omega, fun _ => rfl⟩, b7⟩
  · have d1 : decide (k < 0) = false := decide_eq_false h1
    by_cases h2 : k > 256
    · have d2 : decide (k > 256) = true := decide_eq_true h2
      go_enter Try.func19, Try.ntmps19
      go_upto_region 1 with fail
      obtain ⟨X, hX⟩ : ∃ X, (w.alloc (.cells #[.slice none 0 0, .slice none 0 0] 30)) = X := ⟨_, rfl⟩
      rw [hX] at X0 Y0 ⊢
      clear hX
      go_wp2_with (first | (refine wpList_store_row (by rfl) 30 _ _ (by rfl) w w.heap.size w.heap.size #[.slice none 0 0, .slice none 0 0] _ (by rfl) (by rfl) Y0 X0 (by omega) 2 Try.szRT rfl rfl (one_rg _ _ _ _ _ _) ?_; intro W7 e7 b7 s7 o7))
      refine bodyPost_ret (res_ct _ _ _ 30 _ 2 2 3 (by kernel_rfl) w.heap.size _ _ rfl rfl Try.underlying30 rfl Try.szRT rfl e7) rfl ?_
      refine ⟨⟨fun h => by omega, ?_⟩, b7⟩
      first | rfl | (intro _; rfl)
    · have d2 : decide (k > 256) = false := decide_eq_false h2
      obtain ⟨n, rfl⟩ : ∃ n : Nat, k = n := ⟨k.toNat, by omega⟩
      have hn : n ≤ 256 := by omega
      rw [Int.toNat_natCast]
      have hmk := makePT n (by omega)
      go_enter Try.func19, Try.ntmps19
      go_upto_region 1 with fail
      obtain ⟨X, hX⟩ : ∃ X, (w.alloc (.cells #[.slice none 0 0, .slice none 0 0] 30)) = X := ⟨_, rfl⟩
      rw [hX] at X0 Y0 ⊢
      have X1 : Below w.heap.size w (X.alloc (.cells (ptC (List.replicate n (0, 0))) 69)) := X0.alloc X0.size _
      have Y1 := alloc_kept Y0 (.cells (ptC (List.replicate n (0, 0))) 69)
      have Z1 : (X.alloc (.cells (ptC (List.replicate n (0, 0))) 69)).heap[X.heap.size]? = _ := heap_alloc_new X _
      clear hX X0 Y0
      go_wp2_with (first
        | (go_at_call 41; refine Calls.mono (regionOf_any _ n (List.replicate n (0, 0)) _ hn (by simp) Z1) ?_; rintro e' w1 ⟨⟨B1, B2, rfl, hr⟩, bb1⟩; have Y2 := kept bb1 Y1; have X2 := to_call X1 bb1)
        | (refine wpList_store_row (by rfl) 30 _ _ (by rfl) w w.heap.size w.heap.size #[.slice (some ⟨B1, 0, none⟩) n n, .slice (some ⟨B2, 0, none⟩) n n] _ (by rfl) (by rfl) Y2 X2 (by omega) 2 Try.szRT rfl rfl (one_rg _ _ _ _ _ _) ?_; intro W7 e7 b7 s7 o7))
      refine bodyPost_ret (res_ct _ _ _ 30 _ 2 2 3 (by kernel_rfl) w.heap.size _ _ rfl rfl Try.underlying30 rfl Try.szRT rfl e7) rfl ?_
      have hs := X1.size
      have hlt := blk_lt Y1
      have hr1 := hr.b1
      have hr2 := hr.b2
      refine ⟨⟨fun _ => ⟨B1, B2, rfl, by omega, by omega, hr.ne, ?_, ?_⟩, fun h => absurd ⟨by omega, by omega⟩ h⟩, b7⟩
      · have := hr.l
        rw [List.map_replicate] at this
        exact (o7 _ (by omega)).trans this
      · have := hr.a
        rw [List.map_replicate] at this
        exact (o7 _ (by omega)).trans this
set_option maxRecDepth 100000 in
set_option maxHeartbeats 4000000 in
theorem check_any (la ba : Option Addr) (n m c d : Nat) (ls bs : List Int) (k : Int) (w : World) (hl : RdIs w la n c ls) (ha : RdIs w ba m d bs) :
    Calls Try.prog 24 #[.agg #[.slice la n c, .slice ba m d], .int .i64 k] w fun e w' => e = .returned (.int .i64 (if regB ls bs k = true then 0 else 180)) ∧ Below w.heap.size w w' := by
  have X0 : Below w.heap.size w (w.alloc (.cells #[.slice la n c, .slice ba m d] 30)) := (Below.refl _ w).alloc (Nat.le_refl _) _
  have Y0 : (w.alloc (.cells #[.slice la n c, .slice ba m d] 30)).heap[w.heap.size]? = _ := heap_alloc_new w _
  obtain ⟨g, hg⟩ : ∃ g, regB ls bs k = g := ⟨_, rfl⟩
  have HP : Hid (∀ W, Below w.heap.size w W → Calls Try.prog 12 #[.agg #[.slice la n c, .slice ba m d], .int .i64 k] W fun e w' => (∃ v, e = .returned (.tuple #[v, .bool g])) ∧ Below W.heap.size W w') := by
    intro W hb
    refine (partsOf_any la ba n m c d ls bs k W (hl.later hb) (ha.later hb)).mono ?_
    rintro e w' ⟨⟨v, h1, -, -⟩, h2⟩
    exact ⟨⟨v, by rw [← hg]; exact h1⟩, h2⟩
  rw [hg]
  clear hl ha hg
  go_enter Try.func24, Try.ntmps24
  go_upto_region 1 with fail
  obtain ⟨X, hX⟩ : ∃ X, (w.alloc (.cells #[.slice la n c, .slice ba m d] 30)) = X := ⟨_, rfl⟩
  rw [hX] at X0 Y0 ⊢
  clear hX
  cases g with
  | false =>
    go_wp2_with (first | (refine wpList_load_row (by rfl) 30 _ (by rfl) w.heap.size #[.slice la n c, .slice ba m d] (by rfl) Y0 _ Try.underlying30 rfl 2 Try.szRT (by rfl) ?_) | (go_at_call 12; refine Calls.mono (HP.out _ X0) ?_; rintro e' w1 ⟨⟨v, rfl⟩, bb1⟩))
    go_ret
    exact ⟨rfl, to_call X0 bb1⟩
  | true =>
    go_wp2_with (first | (refine wpList_load_row (by rfl) 30 _ (by rfl) w.heap.size #[.slice la n c, .slice ba m d] (by rfl) Y0 _ Try.underlying30 rfl 2 Try.szRT (by rfl) ?_) | (go_at_call 12; refine Calls.mono (HP.out _ X0) ?_; rintro e' w1 ⟨⟨v, rfl⟩, bb1⟩))
    go_ret
    exact ⟨rfl, to_call X0 bb1⟩
end Go.Proofs.Ytoehhnildocihaa
