import Derived.Test.YtaadhjdbieoieaaSPn
namespace Go.Proofs.Ytaadhjdbieoieaa
open Go.RowKit
set_option linter.unusedVariables false
set_option linter.unusedSimpArgs false
/-- A list of ints, told in a block of its own. -/
def OwI (W : World) (base : Nat) (v : Value) (is : List Int) : Prop := W.ownsRow base 3 1 v is.length (is.map (Value.int .i64))
theorem OwI.nil (W : World) (base : Nat) : OwI W base (.slice none 0 0) [] := World.ownsRow_nil _ _ _ _
theorem OwI.later {W W' : World} {base : Nat} {v : Value} {is : List Int} (h : OwI W base v is) (hb : Below W.heap.size W W') : OwI W' base v is := owns_keep h fun k hk => hb.block k (World.ownsRow.lt h k hk).2
theorem OwI.mono {W : World} {base base' : Nat} {v : Value} {is : List Int} (h : OwI W base v is) (hb : base' ≤ base) : OwI W base' v is := owns_monoJ h hb
theorem OwI.rd {W : World} {base : Nat} {v : Value} {is : List Int} (h : OwI W base v is) : ∃ ao c, v = .slice ao is.length c ∧ RdIs W ao is.length c is := by
  obtain ⟨ao, cap, hv, hm, hc⟩ := owns_slice h
  refine ⟨ao, cap, hv, rfl, hm, ?_⟩
  rcases hc with h0 | ⟨g, hg, hc⟩
  · exact .inl h0
  · refine .inr ⟨g, 0, hg, fun j hj => ?_⟩
    rw [Nat.zero_add, hc j hj, List.getElem?_map, List.getElem?_eq_getElem hj]
    rfl
theorem OwI.push {W : World} {base : Nat} {v : Value} {is : List Int} {x : Int} (h : W.ownsRow base 3 1 v (is.map (Value.int .i64) ++ [Value.int .i64 x]).length (is.map (Value.int .i64) ++ [Value.int .i64 x])) : OwI W base v (is ++ [x]) := by
  unfold OwI
  rw [List.map_append]
  simpa using h
set_option maxRecDepth 100000 in
set_option maxHeartbeats 4000000 in
theorem zeros_any (n : Nat) (hn : n ≤ 256) (w : World) : Calls Try.prog 27 #[.int .i64 (n : Int)] w fun e w' => (∃ v, e = .returned v ∧ OwI w' w.heap.size v (List.replicate n 0)) ∧ Below w.heap.size w w' := by
  go_enter Try.func27, Try.ntmps27
  go_wp2_with fail
  go_loopg [3, 4] n (fun g v3 iv wx => ∃ j : Nat, iv = .int .i64 j ∧ j + g = n ∧ Hid (Below w.heap.size w wx ∧ OwI wx w.heap.size v3 (List.replicate j 0)))
  case atStart => exact ⟨0, rfl, by omega, Below.refl _ _, OwI.nil _ _⟩
  case round =>
    obtain ⟨j, rfl, hj, P2⟩ := hrel
    by_cases hlt : j < n
    · have e1 : decide ((j : Int) < (n : Int)) = true := decide_eq_true (by omega)
      obtain ⟨q, rfl⟩ : ∃ q, gk = q + 1 := ⟨gk - 1, by omega⟩
      have HIG : Hid (j + (q + 1) = n) := hj
      have hjl : (List.replicate j (0 : Int)).length = j := List.length_replicate
      have HO : Hid (wr.ownsRow w.heap.size 3 1 u3 ((List.replicate j (0 : Int)).map (Value.int .i64)).length ((List.replicate j (0 : Int)).map (Value.int .i64))) := by
        have := P2.out.2; unfold OwI at this; unfold Hid; rw [List.length_map]; exact this
      go_wp2_with (first | (at_builtin; refine append_gr1M Try.underlying22 Try.infoIJ rfl (by decide) wr (by rfl) _ _ (by rfl) w.heap.size u3 ((List.replicate j (0 : Int)).map (Value.int .i64)) (by rfl) HO.out (.int .i64 0) (by rfl) rfl (by rw [List.length_map]; omega) P2.out.1.size ?_; intro v6 w6 o6 g6))
      have Q6 : Hid (Below w.heap.size w w6 ∧ OwI w6 w.heap.size v6 (List.replicate (j + 1) 0)) := by
        refine ⟨P2.out.1.trans (g6.below (fun k hk => (World.ownsRow.lt HO.out k hk).1) P2.out.1.size), ?_⟩
        rw [List.replicate_succ']
        exact OwI.push o6
      clear o6 g6 HO P2 hj
      go_roundg q
      case measure => omega
      case rel => exact ⟨j + 1, by go_num, by have := HIG.out; omega, Q6⟩
    · have e1 : decide ((j : Int) < (n : Int)) = false := decide_eq_false (by omega)
      have e2 : decide (j < n) = false := decide_eq_false hlt
      have ej : j = n := by omega
      subst ej
      clear hj
      go_wp2_with fail
      go_ret
      exact ⟨⟨_, rfl, P2.out.2⟩, P2.out.1⟩
set_option maxRecDepth 100000 in
set_option maxHeartbeats 4000000 in
theorem refWhole_any (k : Int) (w : World) :
    Calls Try.prog 10 #[.int .i64 k] w fun e w' => ((0 ≤ k ∧ k ≤ 256 → ∃ v1 v2, e = .returned (.tuple #[.agg #[v1, v2], .int .i64 0]) ∧ OwI w' w.heap.size v1 (List.replicate k.toNat 0) ∧ OwI w' w.heap.size v2 (List.replicate k.toNat 0)) ∧ (¬ (0 ≤ k ∧ k ≤ 256) → e = .returned (.tuple #[.agg #[.slice none 0 0, .slice none 0 0], .int .i64 1]))) ∧ Below w.heap.size w w' := by
  have X0 : Below w.heap.size w (w.alloc (.cells #[.slice none 0 0, .slice none 0 0] 24)) := (Below.refl _ w).alloc (Nat.le_refl _) _
  have Y0 : (w.alloc (.cells #[.slice none 0 0, .slice none 0 0] 24)).heap[w.heap.size]? = _ := heap_alloc_new w _
  by_cases h1 : k < 0
  · have d1 : decide (k < 0) = true := decide_eq_true h1
    go_enter Try.func10, Try.ntmps10
    go_upto_region 1 with fail
    obtain ⟨X, hX⟩ : ∃ X, (w.alloc (.cells #[.slice none 0 0, .slice none 0 0] 24)) = X := ⟨_, rfl⟩
    rw [hX] at X0 Y0 ⊢
    clear hX
    go_wp2_with (first | (refine wpList_store_row (by rfl) 24 _ _ (by rfl) w w.heap.size w.heap.size #[.slice none 0 0, .slice none 0 0] _ (by rfl) (by rfl) Y0 X0 (by omega) 2 Try.szRT rfl rfl (one_rg _ _ _ _ _ _) ?_; intro W7 e7 b7 s7 o7))
    refine bodyPost_ret (res_ct _ _ _ 24 _ 2 2 3 (by kernel_rfl) w.heap.size _ _ rfl rfl Try.underlying24 rfl Try.szRT rfl e7) rfl ?_
    refine ⟨⟨fun h => by omega, ?_⟩, b7⟩
    first | rfl | (intro _; rfl)
  · have d1 : decide (k < 0) = false := decide_eq_false h1
    by_cases h2 : k > 256
    · have d2 : decide (k > 256) = true := decide_eq_true h2
      go_enter Try.func10, Try.ntmps10
      go_upto_region 1 with fail
      obtain ⟨X, hX⟩ : ∃ X, (w.alloc (.cells #[.slice none 0 0, .slice none 0 0] 24)) = X := ⟨_, rfl⟩
      rw [hX] at X0 Y0 ⊢
      clear hX
      go_wp2_with (first | (refine wpList_store_row (by rfl) 24 _ _ (by rfl) w w.heap.size w.heap.size #[.slice none 0 0, .slice none 0 0] _ (by rfl) (by rfl) Y0 X0 (by omega) 2 Try.szRT rfl rfl (one_rg _ _ _ _ _ _) ?_; intro W7 e7 b7 s7 o7))
      refine bodyPost_ret (res_ct _ _ _ 24 _ 2 2 3 (by kernel_rfl) w.heap.size _ _ rfl rfl Try.underlying24 rfl Try.szRT rfl e7) rfl ?_
      refine ⟨⟨fun h => by omega, ?_⟩, b7⟩
      first | rfl | (intro _; rfl)
    · have d2 : decide (k > 256) = false := decide_eq_false h2
      obtain ⟨n, rfl⟩ : ∃ n : Nat, k = n := ⟨k.toNat, by omega⟩
      have hn : n ≤ 256 := by omega
      rw [Int.toNat_natCast]
      go_enter Try.func10, Try.ntmps10
      go_upto_region 1 with fail
      obtain ⟨X, hX⟩ : ∃ X, (w.alloc (.cells #[.slice none 0 0, .slice none 0 0] 24)) = X := ⟨_, rfl⟩
      rw [hX] at X0 Y0 ⊢
      clear hX
      go_wp2_with fail
      refine Calls.mono (zeros_any n hn _) ?_
      rintro e' w1 ⟨⟨v1, rfl, r1⟩, bb1⟩
      go_wp2_with fail
      refine Calls.mono (zeros_any n hn _) ?_
      rintro e' w2 ⟨⟨v2, rfl, r2⟩, bb2⟩
      have r1 := r1.later bb2
      have Y2 := kept bb2 (kept bb1 Y0)
      have X2 := to_call (to_call X0 bb1) bb2
      have hs := X0.size
      have hlt := blk_lt Y0
      have hw1 := bb1.size
      obtain ⟨a1, c1, rfl, -⟩ := r1.rd
      obtain ⟨a2, c2, rfl, -⟩ := r2.rd
      simp only [List.length_replicate] at r1 r2 ⊢
      clear X0 Y0 bb1 bb2 h1 h2
      go_wp2_with (first | (refine wpList_store_row (by rfl) 24 _ _ (by rfl) w w.heap.size w.heap.size #[.slice a1 n c1, .slice a2 n c2] _ (by rfl) (by rfl) Y2 X2 (by omega) 2 Try.szRT rfl rfl (one_rg _ _ _ _ _ _) ?_; intro W7 e7 b7 s7 o7))
      refine bodyPost_ret (res_ct _ _ _ 24 _ 2 2 3 (by kernel_rfl) w.heap.size _ _ rfl rfl Try.underlying24 rfl Try.szRT rfl e7) rfl ?_
      have k1 : OwI W7 w.heap.size (.slice a1 n c1) (List.replicate n 0) := owns_keep (r1.mono hs) fun k hk => o7 k (by have := (World.ownsRow.lt r1 k hk).1; omega)
      have k2 : OwI W7 w.heap.size (.slice a2 n c2) (List.replicate n 0) := owns_keep (r2.mono (Nat.le_trans hs hw1)) fun k hk => o7 k (by have := (World.ownsRow.lt r2 k hk).1; omega)
      refine ⟨⟨?_, fun h => absurd ⟨by omega, by omega⟩ h⟩, b7⟩
      first | exact ⟨_, _, rfl, k1, k2⟩ | exact fun _ => ⟨_, _, rfl, k1, k2⟩
set_option maxRecDepth 100000 in
set_option maxHeartbeats 4000000 in
theorem same_any (a1 a2 b1 b2 : Option Addr) (n1 c1 n2 c2 m1 d1 m2 d2 : Nat) (is1 is2 js1 js2 : List Int) (w : World) (h1 : RdIs w a1 n1 c1 is1) (h2 : RdIs w a2 n2 c2 is2) (k1 : RdIs w b1 m1 d1 js1) (k2 : RdIs w b2 m2 d2 js2) :
    Calls Try.prog 11 #[.agg #[.slice a1 n1 c1, .slice a2 n2 c2], .agg #[.slice b1 m1 d1, .slice b2 m2 d2]] w fun e w' => e = .returned (.bool (decide (is1 = js1 ∧ is2 = js2))) ∧ Below w.heap.size w w' := by
  have X0 : Below w.heap.size w ((w.alloc (.cells #[.slice a1 n1 c1, .slice a2 n2 c2] 24)).alloc (.cells #[.slice b1 m1 d1, .slice b2 m2 d2] 24)) := below_al (below_al (Below.refl _ w) _) _
  have Y0 : ((w.alloc (.cells #[.slice a1 n1 c1, .slice a2 n2 c2] 24)).alloc (.cells #[.slice b1 m1 d1, .slice b2 m2 d2] 24)).heap[w.heap.size]? = some (.cells #[.slice a1 n1 c1, .slice a2 n2 c2] 24) := alloc_kept (heap_alloc_new w _) _
  have Y1 : ((w.alloc (.cells #[.slice a1 n1 c1, .slice a2 n2 c2] 24)).alloc (.cells #[.slice b1 m1 d1, .slice b2 m2 d2] 24)).heap[w.heap.size + 1]? = some (.cells #[.slice b1 m1 d1, .slice b2 m2 d2] 24) := alloc_at _ _ _ (by simp)
  have H1 : Hid (∀ W, Below w.heap.size w W → Calls Try.prog 21 #[.slice a1 n1 c1, .slice b1 m1 d1] W fun e w' => e = .returned (.bool (decide (is1 = js1))) ∧ Below W.heap.size W w') := fun W hb => sameIntsM_any _ _ _ _ _ _ _ _ _ (h1.later hb) (k1.later hb)
  have H2 : Hid (∀ W, Below w.heap.size w W → Calls Try.prog 21 #[.slice a2 n2 c2, .slice b2 m2 d2] W fun e w' => e = .returned (.bool (decide (is2 = js2))) ∧ Below W.heap.size W w') := fun W hb => sameIntsM_any _ _ _ _ _ _ _ _ _ (h2.later hb) (k2.later hb)
  have HD : Hid (decide (is1 = js1 ∧ is2 = js2) = (decide (is1 = js1) && decide (is2 = js2))) := Bool.decide_and _ _
  rw [HD.out]
  obtain ⟨x, hx⟩ : ∃ x, decide (is1 = js1) = x := ⟨_, rfl⟩
  obtain ⟨y, hy⟩ : ∃ y, decide (is2 = js2) = y := ⟨_, rfl⟩
  rw [hx] at H1 ⊢
  rw [hy] at H2 ⊢
  clear h1 h2 k1 k2 HD hx hy
  go_enter Try.func11, Try.ntmps11
  go_upto_region 1 with fail
  obtain ⟨X, hX⟩ : ∃ X, ((w.alloc (.cells #[.slice a1 n1 c1, .slice a2 n2 c2] 24)).alloc (.cells #[.slice b1 m1 d1, .slice b2 m2 d2] 24)) = X := ⟨_, rfl⟩
  rw [hX] at X0 Y0 Y1 ⊢
  clear hX
  have q0 := cellAtJ Y0 0 _ rfl
  have q1 := cellAtJ Y0 1 _ rfl
  have q2 := cellAtJ Y1 0 _ rfl
  have q3 := cellAtJ Y1 1 _ rfl
  go_wp2_with fail
  refine Calls.mono (H1.out _ X0) ?_
  rintro e' w1 ⟨rfl, bb1⟩
  have r1 := cell_later q1 bb1
  have r3 := cell_later q3 bb1
  have X1 := to_call X0 bb1
  clear q0 q1 q2 q3
  cases x with
  | false =>
    go_wp2_with fail
    go_ret
    exact ⟨rfl, X1⟩
  | true =>
    go_wp2_with fail
    refine Calls.mono (H2.out _ X1) ?_
    rintro e' w2 ⟨rfl, bb2⟩
    go_wp2_with fail
    go_ret
    exact ⟨rfl, to_call X1 bb2⟩
end Go.Proofs.Ytaadhjdbieoieaa
