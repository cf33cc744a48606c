import Derived.Test.YtokglpemefkmjaaRWo
import Derived.Test.YtokglpemefkmjaaRWl
namespace Go.Proofs.Ytokglpemefkmjaa
open Go.RowKit
set_option linter.unusedVariables false
set_option linter.unusedSimpArgs false
theorem wpList_load_rowG {P : Program} {ops : Array Oper} {rest : List Oper} {op : Oper} {a : Act} {w : World} {Q : Exit → Act → World → Prop} (hgd : Region.wanted op (yielded ops a.tmps) = true) (ty : TypeId) (x : Operand) (ho : op.op = .load ty x)
    (B : Nat) (c : Array Value) (hx : a.eval x = .pointer (some ⟨B, 0, none⟩)) (hB : w.heap[B]? = some (.cells c ty)) (d : TypeDesc) (hu : P.underlying ty = some d) (hd : d.isRow = true)
    (n : Nat) (hi : (P.info? ty).map (·.size) = some n) (hn : c.size = n)
    (h : wpList P ops Q rest (a.put op.dst (.agg c)) w) : wpList P ops Q (op :: rest) a w := by
  have hr : w.rangeAt B 0 c.toList := by
    have := World.rangeAt_of_block hB 0 c.size
    simpa using this
  refine wpList_step fun K hK => ?_
  rw [if_pos hgd]
  refine wp_load_mid ty x ho B 0 hx c.toList d hr hu hd (by simpa [hn] using hi) ?_
  refine hK _ _ ?_
  simpa using h
theorem Try.infoNumS : (Try.prog.info? 115).map (·.size) = some 3 := by kernel_rfl
theorem oneNumS (n : Bool) (a : Option Addr) (l c : Nat) (e : Int) : (#[.bool n, .slice a l c, .int .i64 e] : Array Value).all (·.oneCell') = true := by
  simp only [Array.all_eq_true_iff_forall_mem]
  intro v hv
  simp only [List.mem_toArray, List.mem_cons, List.not_mem_nil, or_false] at hv
  rcases hv with rfl | rfl | rfl <;> rfl
set_option maxRecDepth 100000 in
set_option maxHeartbeats 8000000 in
theorem slopeZ_any (kd o kh kw sh sw ph pw fr : Int) (n4 : ¬ kd = 4) (n8 : ¬ kd = 8) (v1 v2 v3 v4 : Value) (w : World) :
    Calls Try.prog 52 #[.agg #[.int .i64 kd, .int .i64 o, .int .i64 kh, .int .i64 kw, .int .i64 sh, .int .i64 sw, .int .i64 ph, .int .i64 pw, .int .i64 fr, .int .u64 0, v1, v2, v3, v4]] w fun e w' => ∃ s : Int, e = .returned (.int .i64 s) ∧ Below w.heap.size w w' := by
  have HB : Hid (∀ x, Below w.heap.size w (w.alloc x)) := fun x => (Below.refl _ w).alloc (Nat.le_refl _) _
  have c4 : (kd != 4) = true := bne_iff_ne.2 n4
  have c8 : (kd != 8) = true := bne_iff_ne.2 n8
  have b4 : (kd == 4) = false := beq_eq_false_iff_ne.2 n4
  have b8 : (kd == 8) = false := beq_eq_false_iff_ne.2 n8
  have d4 : decide (kd = 4) = false := decide_eq_false n4
  have d8 : decide (kd = 8) = false := decide_eq_false n8
  go_enter Try.func52, Try.ntmps52
  go_wp2_with fail
  go_ret
  exact ⟨0, rfl, HB.out _⟩
set_option maxRecDepth 100000 in
set_option maxHeartbeats 8000000 in
theorem slope4_any (A : Nat) (hA : A < 18446744073709551616) (hF : Fin A) (o kh kw sh sw ph pw fr : Int) (v1 v2 v3 v4 : Value) (w : World) :
    Calls Try.prog 52 #[.agg #[.int .i64 4, .int .i64 o, .int .i64 kh, .int .i64 kw, .int .i64 sh, .int .i64 sw, .int .i64 ph, .int .i64 pw, .int .i64 fr, .int .u64 (A : Int), v1, v2, v3, v4]] w fun e w' => ∃ s : Int, e = .returned (.int .i64 s) ∧ Below w.heap.size w w' := by
  obtain ⟨E, hE⟩ : ∃ E : Nat, E = 1074 := ⟨_, rfl⟩
  have HN : Hid (∀ W : World, Calls Try.prog 59 #[.int .u64 (A : Int)] W fun e w' => e = .returned (.bool true) ∧ w' = W) := fun W => by
    have h := numberRef_any A hA W
    rw [decide_eq_true hF] at h
    exact h
  have HO : Hid (∀ W : World, Calls Try.prog 60 #[.int .u64 (A : Int)] W fun e' w' => ∃ n a l c x z b, e' = .returned (.tuple #[.agg #[.bool n, .slice a l c, .int .i64 x], .bool b]) ∧ NumZ w' (.agg #[.bool n, .slice a l c, .int .i64 x]) E 1024 z ∧ Below W.heap.size W w') := fun W => (ofZ_any A hA W E hE).mono fun e' w' => by
    rintro ⟨v, rfl, ⟨z, hz, _⟩, hb⟩
    obtain ⟨n, m, x, ⟨a, l, c, xs, rfl, h1⟩, h2⟩ := hz
    exact ⟨n, a, l, c, x, z, _, rfl, ⟨n, m, x, ⟨a, l, c, xs, rfl, h1⟩, h2⟩, hb⟩
  have HO1 : Hid (∀ W : World, Calls Try.prog 60 #[.int .u64 4607182418800017408] W fun e' w' => ∃ n a l c x z b, e' = .returned (.tuple #[.agg #[.bool n, .slice a l c, .int .i64 x], .bool b]) ∧ NumZ w' (.agg #[.bool n, .slice a l c, .int .i64 x]) E 1024 z ∧ Below W.heap.size W w') := fun W => (ofZ_any 4607182418800017408 (by decide) W E hE).mono fun e' w' => by
    rintro ⟨v, rfl, ⟨z, hz, _⟩, hb⟩
    obtain ⟨n, m, x, ⟨a, l, c, xs, rfl, h1⟩, h2⟩ := hz
    exact ⟨n, a, l, c, x, z, _, rfl, ⟨n, m, x, ⟨a, l, c, xs, rfl, h1⟩, h2⟩, hb⟩
  have HE : Hid (E = 1074) := hE
  have X0 : Below w.heap.size w (w.alloc (.cells #[.int .i64 4, .int .i64 o, .int .i64 kh, .int .i64 kw, .int .i64 sh, .int .i64 sw, .int .i64 ph, .int .i64 pw, .int .i64 fr, .int .u64 (A : Int), v1, v2, v3, v4] 55)) := (Below.refl _ w).alloc (Nat.le_refl _) _
  have K0 : (w.alloc (.cells #[.int .i64 4, .int .i64 o, .int .i64 kh, .int .i64 kw, .int .i64 sh, .int .i64 sw, .int .i64 ph, .int .i64 pw, .int .i64 fr, .int .u64 (A : Int), v1, v2, v3, v4] 55)).heap[w.heap.size]? = some (.cells #[.int .i64 4, .int .i64 o, .int .i64 kh, .int .i64 kw, .int .i64 sh, .int .i64 sw, .int .i64 ph, .int .i64 pw, .int .i64 fr, .int .u64 (A : Int), v1, v2, v3, v4] 55) := heap_alloc_new w _
  clear hE
  go_enter Try.func52, Try.ntmps52
  go_upto_region 1 with fail
  obtain ⟨X, hX⟩ : ∃ X, w.alloc (.cells #[.int .i64 4, .int .i64 o, .int .i64 kh, .int .i64 kw, .int .i64 sh, .int .i64 sw, .int .i64 ph, .int .i64 pw, .int .i64 fr, .int .u64 (A : Int), v1, v2, v3, v4] 55) = X := ⟨_, rfl⟩
  rw [hX] at X0 K0 ⊢
  clear hX
  have HX : Hid (Below w.heap.size w X ∧ X.heap[w.heap.size]? = some (.cells #[.int .i64 4, .int .i64 o, .int .i64 kh, .int .i64 kw, .int .i64 sh, .int .i64 sw, .int .i64 ph, .int .i64 pw, .int .i64 fr, .int .u64 (A : Int), v1, v2, v3, v4] 55)) := ⟨X0, K0⟩
  have a0 := cellAt K0 0 (.int .i64 4) rfl
  have a9 := cellAt K0 9 (.int .u64 (A : Int)) rfl
  clear X0 K0
  go_wp2_with fail
  refine Calls.mono (HN.out _) ?_
  rintro e m ⟨rfl, hm⟩
  subst hm
  go_wp2_with fail
  refine Calls.mono (HO.out _) ?_
  rintro e w1 ⟨n1, o1, l1, c1, x1, z1, t1, rfl, hz1, b1⟩
  have H1 : Hid (Below w.heap.size w w1 ∧ NumZ w1 (.agg #[.bool n1, .slice o1 l1 c1, .int .i64 x1]) E 1024 z1 ∧ w1.heap[w.heap.size]? = some (.cells #[.int .i64 4, .int .i64 o, .int .i64 kh, .int .i64 kw, .int .i64 sh, .int .i64 sw, .int .i64 ph, .int .i64 pw, .int .i64 fr, .int .u64 (A : Int), v1, v2, v3, v4] 55)) := ⟨to_call HX.out.1 b1, hz1, kept b1 HX.out.2⟩
  clear hz1 b1 HX a0 a9 HO HN
  go_upto_region 8 with (first | (refine wpList_store_row (by rfl) 115 _ _ (by rfl) w1 w1.heap.size w1.heap.size #[.bool n1, .slice o1 l1 c1, .int .i64 x1] _ (by rfl) (by rfl) (heap_alloc_new w1 _) ((Below.refl _ w1).alloc (Nat.le_refl _) _) (Nat.le_refl _) 3 Try.infoNumS rfl rfl (oneNumS ..) ?_; intro W2 e2 g2 s2 p2))
  have H2 : Hid (Below w.heap.size w W2 ∧ NumZ W2 (.agg #[.bool n1, .slice o1 l1 c1, .int .i64 x1]) E 1024 z1 ∧ W2.heap[w.heap.size]? = some (.cells #[.int .i64 4, .int .i64 o, .int .i64 kh, .int .i64 kw, .int .i64 sh, .int .i64 sw, .int .i64 ph, .int .i64 pw, .int .i64 fr, .int .u64 (A : Int), v1, v2, v3, v4] 55) ∧ W2.heap[w1.heap.size]? = some (.cells #[.bool n1, .slice o1 l1 c1, .int .i64 x1] 115)) := ⟨to_call H1.out.1 g2, H1.out.2.1.later g2, kept g2 H1.out.2.2, e2⟩
  clear g2 e2 s2 p2 H1
  go_wp2_with fail
  refine Calls.mono (HO1.out _) ?_
  rintro e w3 ⟨n3, o3, l3, c3, x3, z3, t3, rfl, hz3, b3⟩
  have H3 : Hid (Below w.heap.size w w3 ∧ NumZ w3 (.agg #[.bool n1, .slice o1 l1 c1, .int .i64 x1]) E 1024 z1 ∧ w3.heap[w.heap.size]? = some (.cells #[.int .i64 4, .int .i64 o, .int .i64 kh, .int .i64 kw, .int .i64 sh, .int .i64 sw, .int .i64 ph, .int .i64 pw, .int .i64 fr, .int .u64 (A : Int), v1, v2, v3, v4] 55) ∧ w3.heap[w1.heap.size]? = some (.cells #[.bool n1, .slice o1 l1 c1, .int .i64 x1] 115) ∧ NumZ w3 (.agg #[.bool n3, .slice o3 l3 c3, .int .i64 x3]) E 1024 z3) := ⟨to_call H2.out.1 b3, H2.out.2.1.later b3, kept b3 H2.out.2.2.1, kept b3 H2.out.2.2.2, hz3⟩
  clear hz3 b3 H2 HO1
  go_upto_region 9 with (first | (refine wpList_store_row (by rfl) 115 _ _ (by rfl) w3 w3.heap.size w3.heap.size #[.bool n3, .slice o3 l3 c3, .int .i64 x3] _ (by rfl) (by rfl) (heap_alloc_new w3 _) ((Below.refl _ w3).alloc (Nat.le_refl _) _) (Nat.le_refl _) 3 Try.infoNumS rfl rfl (oneNumS ..) ?_; intro W4 e4 g4 s4 p4))
  have H4 : Hid (Below w.heap.size w W4 ∧ NumZ W4 (.agg #[.bool n1, .slice o1 l1 c1, .int .i64 x1]) E 1024 z1 ∧ W4.heap[w.heap.size]? = some (.cells #[.int .i64 4, .int .i64 o, .int .i64 kh, .int .i64 kw, .int .i64 sh, .int .i64 sw, .int .i64 ph, .int .i64 pw, .int .i64 fr, .int .u64 (A : Int), v1, v2, v3, v4] 55) ∧ W4.heap[w1.heap.size]? = some (.cells #[.bool n1, .slice o1 l1 c1, .int .i64 x1] 115) ∧ NumZ W4 (.agg #[.bool n3, .slice o3 l3 c3, .int .i64 x3]) E 1024 z3 ∧ W4.heap[w3.heap.size]? = some (.cells #[.bool n3, .slice o3 l3 c3, .int .i64 x3] 115)) := ⟨to_call H3.out.1 g4, H3.out.2.1.later g4, kept g4 H3.out.2.2.1, kept g4 H3.out.2.2.2.1, H3.out.2.2.2.2.later g4, e4⟩
  clear g4 e4 s4 p4 H3
  have a0 := cellAt H4.out.2.2.1 0 (.int .i64 4) rfl
  go_wp2_with fail
  go_ret
  exact ⟨0, rfl, H4.out.1⟩
set_option maxRecDepth 100000 in
set_option maxHeartbeats 8000000 in
theorem slope8_any (o kh kw sh sw ph pw fr : Int) (v1 v2 v3 v4 : Value) (w : World) :
    Calls Try.prog 52 #[.agg #[.int .i64 8, .int .i64 o, .int .i64 kh, .int .i64 kw, .int .i64 sh, .int .i64 sw, .int .i64 ph, .int .i64 pw, .int .i64 fr, .int .u64 0, v1, v2, v3, v4]] w fun e w' => ∃ s : Int, e = .returned (.int .i64 s) ∧ Below w.heap.size w w' := by
  obtain ⟨E, hE⟩ : ∃ E : Nat, E = 1074 := ⟨_, rfl⟩
  have HN : Hid (∀ W : World, Calls Try.prog 59 #[.int .u64 0] W fun e w' => e = .returned (.bool true) ∧ w' = W) := fun W => by
    have h := numberRef_any 0 (by decide) W
    rw [decide_eq_true (by decide +kernel)] at h
    exact h
  have HO : Hid (∀ W : World, Calls Try.prog 60 #[.int .u64 0] W fun e' w' => ∃ n a l c x z b, e' = .returned (.tuple #[.agg #[.bool n, .slice a l c, .int .i64 x], .bool b]) ∧ NumZ w' (.agg #[.bool n, .slice a l c, .int .i64 x]) E 1024 z ∧ Below W.heap.size W w') := fun W => (ofZ_any 0 (by decide) W E hE).mono fun e' w' => by
    rintro ⟨v, rfl, ⟨z, hz, _⟩, hb⟩
    obtain ⟨n, m, x, ⟨a, l, c, xs, rfl, h1⟩, h2⟩ := hz
    exact ⟨n, a, l, c, x, z, _, rfl, ⟨n, m, x, ⟨a, l, c, xs, rfl, h1⟩, h2⟩, hb⟩
  have HO1 : Hid (∀ W : World, Calls Try.prog 60 #[.int .u64 4607182418800017408] W fun e' w' => ∃ n a l c x z b, e' = .returned (.tuple #[.agg #[.bool n, .slice a l c, .int .i64 x], .bool b]) ∧ NumZ w' (.agg #[.bool n, .slice a l c, .int .i64 x]) E 1024 z ∧ Below W.heap.size W w') := fun W => (ofZ_any 4607182418800017408 (by decide) W E hE).mono fun e' w' => by
    rintro ⟨v, rfl, ⟨z, hz, _⟩, hb⟩
    obtain ⟨n, m, x, ⟨a, l, c, xs, rfl, h1⟩, h2⟩ := hz
    exact ⟨n, a, l, c, x, z, _, rfl, ⟨n, m, x, ⟨a, l, c, xs, rfl, h1⟩, h2⟩, hb⟩
  have HE : Hid (E = 1074) := hE
  have X0 : Below w.heap.size w (w.alloc (.cells #[.int .i64 8, .int .i64 o, .int .i64 kh, .int .i64 kw, .int .i64 sh, .int .i64 sw, .int .i64 ph, .int .i64 pw, .int .i64 fr, .int .u64 0, v1, v2, v3, v4] 55)) := (Below.refl _ w).alloc (Nat.le_refl _) _
  have K0 : (w.alloc (.cells #[.int .i64 8, .int .i64 o, .int .i64 kh, .int .i64 kw, .int .i64 sh, .int .i64 sw, .int .i64 ph, .int .i64 pw, .int .i64 fr, .int .u64 0, v1, v2, v3, v4] 55)).heap[w.heap.size]? = some (.cells #[.int .i64 8, .int .i64 o, .int .i64 kh, .int .i64 kw, .int .i64 sh, .int .i64 sw, .int .i64 ph, .int .i64 pw, .int .i64 fr, .int .u64 0, v1, v2, v3, v4] 55) := heap_alloc_new w _
  clear hE
  go_enter Try.func52, Try.ntmps52
  go_upto_region 1 with fail
  obtain ⟨X, hX⟩ : ∃ X, w.alloc (.cells #[.int .i64 8, .int .i64 o, .int .i64 kh, .int .i64 kw, .int .i64 sh, .int .i64 sw, .int .i64 ph, .int .i64 pw, .int .i64 fr, .int .u64 0, v1, v2, v3, v4] 55) = X := ⟨_, rfl⟩
  rw [hX] at X0 K0 ⊢
  clear hX
  have HX : Hid (Below w.heap.size w X ∧ X.heap[w.heap.size]? = some (.cells #[.int .i64 8, .int .i64 o, .int .i64 kh, .int .i64 kw, .int .i64 sh, .int .i64 sw, .int .i64 ph, .int .i64 pw, .int .i64 fr, .int .u64 0, v1, v2, v3, v4] 55)) := ⟨X0, K0⟩
  have a0 := cellAt K0 0 (.int .i64 8) rfl
  have a9 := cellAt K0 9 (.int .u64 0) rfl
  clear X0 K0
  go_wp2_with fail
  refine Calls.mono (HN.out _) ?_
  rintro e m ⟨rfl, hm⟩
  subst hm
  go_wp2_with fail
  refine Calls.mono (HO.out _) ?_
  rintro e w1 ⟨n1, o1, l1, c1, x1, z1, t1, rfl, hz1, b1⟩
  have H1 : Hid (Below w.heap.size w w1 ∧ NumZ w1 (.agg #[.bool n1, .slice o1 l1 c1, .int .i64 x1]) E 1024 z1 ∧ w1.heap[w.heap.size]? = some (.cells #[.int .i64 8, .int .i64 o, .int .i64 kh, .int .i64 kw, .int .i64 sh, .int .i64 sw, .int .i64 ph, .int .i64 pw, .int .i64 fr, .int .u64 0, v1, v2, v3, v4] 55)) := ⟨to_call HX.out.1 b1, hz1, kept b1 HX.out.2⟩
  clear hz1 b1 HX a0 a9 HO HN
  go_upto_region 8 with (first | (refine wpList_store_row (by rfl) 115 _ _ (by rfl) w1 w1.heap.size w1.heap.size #[.bool n1, .slice o1 l1 c1, .int .i64 x1] _ (by rfl) (by rfl) (heap_alloc_new w1 _) ((Below.refl _ w1).alloc (Nat.le_refl _) _) (Nat.le_refl _) 3 Try.infoNumS rfl rfl (oneNumS ..) ?_; intro W2 e2 g2 s2 p2))
  have H2 : Hid (Below w.heap.size w W2 ∧ NumZ W2 (.agg #[.bool n1, .slice o1 l1 c1, .int .i64 x1]) E 1024 z1 ∧ W2.heap[w.heap.size]? = some (.cells #[.int .i64 8, .int .i64 o, .int .i64 kh, .int .i64 kw, .int .i64 sh, .int .i64 sw, .int .i64 ph, .int .i64 pw, .int .i64 fr, .int .u64 0, v1, v2, v3, v4] 55) ∧ W2.heap[w1.heap.size]? = some (.cells #[.bool n1, .slice o1 l1 c1, .int .i64 x1] 115)) := ⟨to_call H1.out.1 g2, H1.out.2.1.later g2, kept g2 H1.out.2.2, e2⟩
  clear g2 e2 s2 p2 H1
  go_wp2_with fail
  refine Calls.mono (HO1.out _) ?_
  rintro e w3 ⟨n3, o3, l3, c3, x3, z3, t3, rfl, hz3, b3⟩
  have H3 : Hid (Below w.heap.size w w3 ∧ NumZ w3 (.agg #[.bool n1, .slice o1 l1 c1, .int .i64 x1]) E 1024 z1 ∧ w3.heap[w.heap.size]? = some (.cells #[.int .i64 8, .int .i64 o, .int .i64 kh, .int .i64 kw, .int .i64 sh, .int .i64 sw, .int .i64 ph, .int .i64 pw, .int .i64 fr, .int .u64 0, v1, v2, v3, v4] 55) ∧ w3.heap[w1.heap.size]? = some (.cells #[.bool n1, .slice o1 l1 c1, .int .i64 x1] 115) ∧ NumZ w3 (.agg #[.bool n3, .slice o3 l3 c3, .int .i64 x3]) E 1024 z3) := ⟨to_call H2.out.1 b3, H2.out.2.1.later b3, kept b3 H2.out.2.2.1, kept b3 H2.out.2.2.2, hz3⟩
  clear hz3 b3 H2 HO1
  go_upto_region 9 with (first | (refine wpList_store_row (by rfl) 115 _ _ (by rfl) w3 w3.heap.size w3.heap.size #[.bool n3, .slice o3 l3 c3, .int .i64 x3] _ (by rfl) (by rfl) (heap_alloc_new w3 _) ((Below.refl _ w3).alloc (Nat.le_refl _) _) (Nat.le_refl _) 3 Try.infoNumS rfl rfl (oneNumS ..) ?_; intro W4 e4 g4 s4 p4))
  have H4 : Hid (Below w.heap.size w W4 ∧ NumZ W4 (.agg #[.bool n1, .slice o1 l1 c1, .int .i64 x1]) E 1024 z1 ∧ W4.heap[w.heap.size]? = some (.cells #[.int .i64 8, .int .i64 o, .int .i64 kh, .int .i64 kw, .int .i64 sh, .int .i64 sw, .int .i64 ph, .int .i64 pw, .int .i64 fr, .int .u64 0, v1, v2, v3, v4] 55) ∧ W4.heap[w1.heap.size]? = some (.cells #[.bool n1, .slice o1 l1 c1, .int .i64 x1] 115) ∧ NumZ W4 (.agg #[.bool n3, .slice o3 l3 c3, .int .i64 x3]) E 1024 z3 ∧ W4.heap[w3.heap.size]? = some (.cells #[.bool n3, .slice o3 l3 c3, .int .i64 x3] 115)) := ⟨to_call H3.out.1 g4, H3.out.2.1.later g4, kept g4 H3.out.2.2.1, kept g4 H3.out.2.2.2.1, H3.out.2.2.2.2.later g4, e4⟩
  clear g4 e4 s4 p4 H3
  have a0 := cellAt H4.out.2.2.1 0 (.int .i64 8) rfl
  have HS : Hid (Calls Try.prog 61 #[.agg #[.bool n1, .slice o1 l1 c1, .int .i64 x1]] W4 fun e' w' => e' = .returned (.int .i64 (sgi z1)) ∧ Below W4.heap.size W4 w') := signZ_any _ _ _ _ _ H4.out.2.1
  obtain ⟨s1, hs1⟩ : ∃ s, sgi z1 = s := ⟨_, rfl⟩
  obtain ⟨s3, hs3⟩ : ∃ s, sgi (z1 - z3) = s := ⟨_, rfl⟩
  rw [hs1] at HS
  have HC : Hid (∀ W, Below W4.heap.size W4 W → Calls Try.prog 62 #[.agg #[.bool n1, .slice o1 l1 c1, .int .i64 x1], .agg #[.bool n3, .slice o3 l3 c3, .int .i64 x3]] W fun e' w' => e' = .returned (.int .i64 s3) ∧ Below W.heap.size W w') := fun W hb => hs3 ▸ cmpZ_any _ _ E 1024 z1 z3 W (H4.out.2.1.later hb) (H4.out.2.2.2.2.1.later hb) (by have := HE.out; omega) (by decide)
  clear hs1 hs3
  by_cases h1 : s1 < 0
  · have d1 : decide (s1 < 0) = true := decide_eq_true h1
    go_wp2_with (first
      | (go_at_call 61; refine Calls.mono HS.out ?_; rintro e w5 ⟨rfl, b5⟩; have H5 : Hid (Below W4.heap.size W4 w5) := b5; clear b5)
      | (refine wpList_load_rowG (by rfl) 115 _ (by rfl) w1.heap.size _ (by rfl) H4.out.2.2.2.1 _ Try.underlying115 rfl 3 Try.infoNumS (by rfl) ?_))
    go_ret
    exact ⟨62, rfl, to_call H4.out.1 H5.out⟩
  · have d1 : decide (s1 < 0) = false := decide_eq_false h1
    go_wp2_with (first
      | (refine wpList_load_rowG (by rfl) 115 _ (by rfl) w1.heap.size _ (by rfl) H4.out.2.2.2.1 _ Try.underlying115 rfl 3 Try.infoNumS (by rfl) ?_))
    refine Calls.mono HS.out ?_
    rintro e w5 ⟨rfl, b5⟩
    have H5 : Hid (Below W4.heap.size W4 w5) := b5
    have k1 := kept b5 H4.out.2.2.2.1
    have k3 := kept b5 H4.out.2.2.2.2.2
    clear b5
    by_cases h3 : 0 < s3
    · have d3 : decide (0 < s3) = true := decide_eq_true h3
      go_wp2_with (first
        | (go_at_call 62; refine Calls.mono (HC.out _ H5.out) ?_; rintro e w6 ⟨rfl, b6⟩; have H6 : Hid (Below w5.heap.size w5 w6) := b6; clear b6)
        | (refine wpList_load_rowG (by rfl) 115 _ (by rfl) w1.heap.size _ (by rfl) k1 _ Try.underlying115 rfl 3 Try.infoNumS (by rfl) ?_)
        | (refine wpList_load_rowG (by rfl) 115 _ (by rfl) w3.heap.size _ (by rfl) k3 _ Try.underlying115 rfl 3 Try.infoNumS (by rfl) ?_))
      go_ret
      exact ⟨62, rfl, to_call (to_call H4.out.1 H5.out) H6.out⟩
    · have d3 : decide (0 < s3) = false := decide_eq_false h3
      go_wp2_with (first
        | (go_at_call 62; refine Calls.mono (HC.out _ H5.out) ?_; rintro e w6 ⟨rfl, b6⟩; have H6 : Hid (Below w5.heap.size w5 w6) := b6; clear b6)
        | (refine wpList_load_rowG (by rfl) 115 _ (by rfl) w1.heap.size _ (by rfl) k1 _ Try.underlying115 rfl 3 Try.infoNumS (by rfl) ?_)
        | (refine wpList_load_rowG (by rfl) 115 _ (by rfl) w3.heap.size _ (by rfl) k3 _ Try.underlying115 rfl 3 Try.infoNumS (by rfl) ?_))
      go_ret
      exact ⟨0, rfl, to_call (to_call H4.out.1 H5.out) H6.out⟩
end Go.Proofs.Ytokglpemefkmjaa
