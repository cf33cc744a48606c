import Derived.Test.YtnjjichanfpbhaaGreatRY
namespace Go.Proofs.YtnjjichanfpbhaaGreat
open Go.RowKit
set_option linter.unusedVariables false

set_option maxRecDepth 100000 in
theorem ex_loadF {ρ : Operand → Value} (o : Oper) (p : Operand) (ho : o.op = .load 24 p) (B : Nat) (hp : ρ p = .pointer (some ⟨B, 0, none⟩)) (w : World) (x y : Nat) (b : Bool) (h : w.heap[B]? = some (Obj.cells #[Value.float .f64 x, .float .f64 y, .bool b] 24)) : (execOp ρ o).run Tryz.prog w = .ok (.value (.agg #[.float .f64 x, .float .f64 y, .bool b])) w := by
  obtain ⟨x0, x1, x2⟩ := cells3 h
  simp only [execOp, ho, hp]
  simp [go_sem, x0, x1, x2, Result.andThen]
theorem sc_uniq {n : Int} {al ah : Nat} (r s : Nat × Nat × Bool) (h : ScR n al ah r) (h' : ScR n al ah s) : r = s := by
  obtain ⟨p, q, p1, q1, rfl⟩ := h
  obtain ⟨p', q', p2, q2, rfl⟩ := h'
  rw [p1.uniq p2, q1.uniq q2]
set_option maxRecDepth 100000 in
set_option maxHeartbeats 8000000 in
theorem one04_any (al ah bl bh : Nat) (ab bb : Bool) (n : Int) (hal : al < 18446744073709551616) (hah : ah < 18446744073709551616) (hbl : bl < 18446744073709551616) (hbh : bh < 18446744073709551616) (w : World) (E : Nat) (hE : E = 1074) :
    Calls Tryz.prog 5 #[.int .i64 0, .agg #[Value.float .f64 al, .float .f64 ah, .bool ab], .agg #[Value.float .f64 bl, .float .f64 bh, .bool bb], .int .i64 n] w fun e w' => e = .returned (.bool true) ∧ Below w.heap.size w w' := by
  obtain ⟨r, hr, han⟩ := spNeg_any al ah ab hal hah
  have HAN : Hid _ := han
  have HR : Hid _ := hr
  clear han hr
  obtain ⟨g0, g1, -, gb⟩ := alloc2_facts w (Obj.cells #[Value.float .f64 al, .float .f64 ah, .bool ab] 24) (Obj.cells #[Value.float .f64 bl, .float .f64 bh, .bool bb] 24)
  have GA : Hid _ := g0
  have GC : Hid _ := g1
  have GB : Hid _ := gb
  clear g0 g1 gb
  go_enter Tryz.func5, Tryz.ntmps5
  go_upto_region 1 with fail
  generalize ((w.alloc (Obj.cells #[Value.float .f64 al, .float .f64 ah, .bool ab] 24)).alloc (Obj.cells #[Value.float .f64 bl, .float .f64 bh, .bool bb] 24)) = W0 at GA GC GB ⊢
  obtain ⟨a0, a1, a2⟩ := cells3 GA.out
  go_wp2_with fail
  refine Calls.mono (of_any4 al ah ab _) ?_
  rintro e w1 ⟨rfl, g1⟩
  have GA1 : Hid _ := keep0 GA.out g1
  have GC1 : Hid _ := keep0 GC.out g1
  have C1 : Hid (Below w.heap.size w w1) := GB.out.trans (g1.mono GB.out.size)
  clear g1 GA GC GB a0 a1 a2
  go_upto_region 2 with fail
  have g2 : Below w1.heap.size w1 (w1.alloc (Obj.cells #[Value.int .u64 (al : Int), .int .u64 (ah : Int), .bool ab] 36)) := (Below.refl _ w1).alloc (Nat.le_refl _) _
  have XA : Hid _ := heap_alloc_new w1 (Obj.cells #[Value.int .u64 (al : Int), .int .u64 (ah : Int), .bool ab] 36)
  have GA2 : Hid _ := keep0 GA1.out g2
  have GC2 : Hid _ := keep0 GC1.out g2
  have C2 : Hid (Below w.heap.size w _) := C1.out.trans (g2.mono C1.out.size)
  clear g2 GA1 GC1 C1
  generalize w1.alloc (Obj.cells #[Value.int .u64 (al : Int), .int .u64 (ah : Int), .bool ab] 36) = W1 at XA GA2 GC2 C2 ⊢
  obtain ⟨a0, a1, a2⟩ := cells3 GC2.out
  go_wp2_with fail
  refine Calls.mono (of_any4 bl bh bb _) ?_
  rintro e w2 ⟨rfl, g1⟩
  have XA3 : Hid _ := keep0 XA.out g1
  have GA3 : Hid _ := keep0 GA2.out g1
  have GC3 : Hid _ := keep0 GC2.out g1
  have C3 : Hid (Below w.heap.size w w2) := C2.out.trans (g1.mono C2.out.size)
  clear g1 XA GA2 GC2 C2 a0 a1 a2
  go_upto_region 3 with fail
  have g2 : Below w2.heap.size w2 (w2.alloc (Obj.cells #[Value.int .u64 (bl : Int), .int .u64 (bh : Int), .bool bb] 36)) := (Below.refl _ w2).alloc (Nat.le_refl _) _
  have YB4 : Hid _ := heap_alloc_new w2 (Obj.cells #[Value.int .u64 (bl : Int), .int .u64 (bh : Int), .bool bb] 36)
  have XA4 : Hid _ := keep0 XA3.out g2
  have GA4 : Hid _ := keep0 GA3.out g2
  have GC4 : Hid _ := keep0 GC3.out g2
  have C4 : Hid (Below w.heap.size w _) := C3.out.trans (g2.mono C3.out.size)
  clear g2 XA3 GA3 GC3 C3
  generalize w2.alloc (Obj.cells #[Value.int .u64 (bl : Int), .int .u64 (bh : Int), .bool bb] 36) = V1 at YB4 XA4 GA4 GC4 C4 ⊢
  go_upto_region 5 with fail
  have hS : ∀ W, Below V1.heap.size V1 W → (W.heap[w.heap.size]? = some (Obj.cells #[Value.float .f64 al, .float .f64 ah, .bool ab] 24) ∧ W.heap[w.heap.size + 1]? = some (Obj.cells #[Value.float .f64 bl, .float .f64 bh, .bool bb] 24) ∧ W.heap[w1.heap.size]? = some (Obj.cells #[Value.int .u64 (al : Int), .int .u64 (ah : Int), .bool ab] 36) ∧ W.heap[w2.heap.size]? = some (Obj.cells #[Value.int .u64 (bl : Int), .int .u64 (bh : Int), .bool bb] 36)) := fun W h => ⟨keep0 GA4.out h, keep0 GC4.out h, keep0 XA4.out h, keep0 YB4.out h⟩
  refine wp_region_noPanic ?_
  refine wp_region_held_drew (S := fun W => W.heap[w.heap.size]? = some (Obj.cells #[Value.float .f64 al, .float .f64 ah, .bool ab] 24) ∧ W.heap[w.heap.size + 1]? = some (Obj.cells #[Value.float .f64 bl, .float .f64 bh, .bool bb] 24) ∧ W.heap[w1.heap.size]? = some (Obj.cells #[Value.int .u64 (al : Int), .int .u64 (ah : Int), .bool ab] 36) ∧ W.heap[w2.heap.size]? = some (Obj.cells #[Value.int .u64 (bl : Int), .int .u64 (bh : Int), .bool bb] 36)) (by kernel_rfl) (hS _ (Below.refl _ _).drew) (fun _ => ?_)
  refine takeH 18 (i := 0) (v := (Value.agg #[Value.float .f64 al, .float .f64 ah, .bool ab])) rfl rfl (by kernel_rfl) (by kernel_rfl) (by kernel_rfl) (fun _ _ _ h => h) (Or.inl ⟨(by kernel_rfl), fun w' hq => ex_loadF _ _ rfl (w.heap.size) (by kernel_rfl) w' _ _ _ (hq.1)⟩) (hS _ (Below.refl _ _).drew) ?_
  refine takeH 20 (i := 2) (v := (Value.agg #[Value.int .u64 (al : Int), .int .u64 (ah : Int), .bool ab])) rfl rfl (by kernel_rfl) (by kernel_rfl) (by kernel_rfl) (fun _ _ _ h => h) (Or.inl ⟨(by kernel_rfl), fun w' hq => ex_loadU _ _ rfl (w1.heap.size) (by kernel_rfl) w' _ _ _ (hq.2.2.1)⟩) (hS _ (Below.refl _ _).drew) ?_
  try (simp only [Act.put, List.setIfInBounds_toArray, List.set_cons_zero, List.set_cons_succ])
  refine wpAnyH_ready (rs := [1]) (by kernel_rfl) (by simp) ?_
  refine consH _ rfl ?_ AllReadyH.nil
  refine hopCd 19 rfl (by kernel_rfl) rfl (by kernel_rfl) (Calls.mono (HAN.out _) ?_)
  rintro e m0 ⟨rfl, g0⟩
  have h0 : Below V1.heap.size V1 m0 := Below.trans ((Below.refl _ _).drew : Below V1.heap.size V1 _) (g0.mono (Below.size ((Below.refl _ _).drew : Below V1.heap.size V1 _)))
  refine ⟨_, rfl, hS _ h0, ?_⟩
  try (simp only [Act.put, List.setIfInBounds_toArray, List.set_cons_zero, List.set_cons_succ])
  refine wpAnyH_ready (rs := [3]) (by kernel_rfl) (by simp) ?_
  refine consH _ rfl ?_ AllReadyH.nil
  refine hopCd 21 rfl (by kernel_rfl) rfl (by kernel_rfl) (Calls.mono (refNeg_any al ah ab hal hah _ E hE) ?_)
  rintro e m1 ⟨s, rfl, hs, g1⟩
  have h1 : Below V1.heap.size V1 m1 := Below.trans (h0 : Below V1.heap.size V1 _) (g1.mono (Below.size (h0 : Below V1.heap.size V1 _)))
  refine ⟨_, rfl, hS _ h1, ?_⟩
  have hr := HR.out
  obtain rfl : r = s := UnR.uniq (fun _ _ a b => SpR.uniq a b) hr hs
  try (simp only [Act.put, List.setIfInBounds_toArray, List.set_cons_zero, List.set_cons_succ])
  refine wpAnyH_ready (rs := [4]) (by kernel_rfl) (by simp) ?_
  refine consH _ rfl ?_ AllReadyH.nil
  refine hopCd 22 rfl (by kernel_rfl) rfl (by kernel_rfl) (Calls.mono (same_any4 r.1 r.2.1 r.2.2 _) ?_)
  rintro e m2 ⟨rfl, g2⟩
  have h2 : Below V1.heap.size V1 m2 := Below.trans (h1 : Below V1.heap.size V1 _) (g2.mono (Below.size (h1 : Below V1.heap.size V1 _)))
  refine ⟨_, rfl, hS _ h2, ?_⟩
  try (simp only [Act.put, List.setIfInBounds_toArray, List.set_cons_zero, List.set_cons_succ])
  refine takeH 8 (i := 5) (v := .bool true) rfl rfl (by kernel_rfl) (by kernel_rfl) (by kernel_rfl) (fun _ _ _ h => h) (Or.inl ⟨(by kernel_rfl), fun w' _ => by kernel_rfl⟩) (hS _ h2) ?_
  refine wpAnyH_done (by kernel_rfl) ?_ _
  refine NoPanic.normal ?_
  try (simp only [Act.put, List.setIfInBounds_toArray, List.set_cons_zero, List.set_cons_succ])
  go_wp2_with fail
  go_ret
  exact ⟨rfl, C4.out.trans (h2.mono C4.out.size)⟩
set_option maxRecDepth 100000 in
set_option maxHeartbeats 8000000 in
theorem one14_any (al ah bl bh : Nat) (ab bb : Bool) (n : Int) (hal : al < 18446744073709551616) (hah : ah < 18446744073709551616) (hbl : bl < 18446744073709551616) (hbh : bh < 18446744073709551616) (w : World) (E : Nat) (hE : E = 1074) :
    Calls Tryz.prog 5 #[.int .i64 1, .agg #[Value.float .f64 al, .float .f64 ah, .bool ab], .agg #[Value.float .f64 bl, .float .f64 bh, .bool bb], .int .i64 n] w fun e w' => e = .returned (.bool true) ∧ Below w.heap.size w w' := by
  obtain ⟨r, hr, han⟩ := spAdd_any al ah bl bh ab bb hal hah hbl hbh
  have HAN : Hid _ := han
  have HR : Hid _ := hr
  clear han hr
  obtain ⟨g0, g1, -, gb⟩ := alloc2_facts w (Obj.cells #[Value.float .f64 al, .float .f64 ah, .bool ab] 24) (Obj.cells #[Value.float .f64 bl, .float .f64 bh, .bool bb] 24)
  have GA : Hid _ := g0
  have GC : Hid _ := g1
  have GB : Hid _ := gb
  clear g0 g1 gb
  go_enter Tryz.func5, Tryz.ntmps5
  go_upto_region 1 with fail
  generalize ((w.alloc (Obj.cells #[Value.float .f64 al, .float .f64 ah, .bool ab] 24)).alloc (Obj.cells #[Value.float .f64 bl, .float .f64 bh, .bool bb] 24)) = W0 at GA GC GB ⊢
  obtain ⟨a0, a1, a2⟩ := cells3 GA.out
  go_wp2_with fail
  refine Calls.mono (of_any4 al ah ab _) ?_
  rintro e w1 ⟨rfl, g1⟩
  have GA1 : Hid _ := keep0 GA.out g1
  have GC1 : Hid _ := keep0 GC.out g1
  have C1 : Hid (Below w.heap.size w w1) := GB.out.trans (g1.mono GB.out.size)
  clear g1 GA GC GB a0 a1 a2
  go_upto_region 2 with fail
  have g2 : Below w1.heap.size w1 (w1.alloc (Obj.cells #[Value.int .u64 (al : Int), .int .u64 (ah : Int), .bool ab] 36)) := (Below.refl _ w1).alloc (Nat.le_refl _) _
  have XA : Hid _ := heap_alloc_new w1 (Obj.cells #[Value.int .u64 (al : Int), .int .u64 (ah : Int), .bool ab] 36)
  have GA2 : Hid _ := keep0 GA1.out g2
  have GC2 : Hid _ := keep0 GC1.out g2
  have C2 : Hid (Below w.heap.size w _) := C1.out.trans (g2.mono C1.out.size)
  clear g2 GA1 GC1 C1
  generalize w1.alloc (Obj.cells #[Value.int .u64 (al : Int), .int .u64 (ah : Int), .bool ab] 36) = W1 at XA GA2 GC2 C2 ⊢
  obtain ⟨a0, a1, a2⟩ := cells3 GC2.out
  go_wp2_with fail
  refine Calls.mono (of_any4 bl bh bb _) ?_
  rintro e w2 ⟨rfl, g1⟩
  have XA3 : Hid _ := keep0 XA.out g1
  have GA3 : Hid _ := keep0 GA2.out g1
  have GC3 : Hid _ := keep0 GC2.out g1
  have C3 : Hid (Below w.heap.size w w2) := C2.out.trans (g1.mono C2.out.size)
  clear g1 XA GA2 GC2 C2 a0 a1 a2
  go_upto_region 3 with fail
  have g2 : Below w2.heap.size w2 (w2.alloc (Obj.cells #[Value.int .u64 (bl : Int), .int .u64 (bh : Int), .bool bb] 36)) := (Below.refl _ w2).alloc (Nat.le_refl _) _
  have YB4 : Hid _ := heap_alloc_new w2 (Obj.cells #[Value.int .u64 (bl : Int), .int .u64 (bh : Int), .bool bb] 36)
  have XA4 : Hid _ := keep0 XA3.out g2
  have GA4 : Hid _ := keep0 GA3.out g2
  have GC4 : Hid _ := keep0 GC3.out g2
  have C4 : Hid (Below w.heap.size w _) := C3.out.trans (g2.mono C3.out.size)
  clear g2 XA3 GA3 GC3 C3
  generalize w2.alloc (Obj.cells #[Value.int .u64 (bl : Int), .int .u64 (bh : Int), .bool bb] 36) = V1 at YB4 XA4 GA4 GC4 C4 ⊢
  go_upto_region 7 with fail
  have hS : ∀ W, Below V1.heap.size V1 W → (W.heap[w.heap.size]? = some (Obj.cells #[Value.float .f64 al, .float .f64 ah, .bool ab] 24) ∧ W.heap[w.heap.size + 1]? = some (Obj.cells #[Value.float .f64 bl, .float .f64 bh, .bool bb] 24) ∧ W.heap[w1.heap.size]? = some (Obj.cells #[Value.int .u64 (al : Int), .int .u64 (ah : Int), .bool ab] 36) ∧ W.heap[w2.heap.size]? = some (Obj.cells #[Value.int .u64 (bl : Int), .int .u64 (bh : Int), .bool bb] 36)) := fun W h => ⟨keep0 GA4.out h, keep0 GC4.out h, keep0 XA4.out h, keep0 YB4.out h⟩
  refine wp_region_noPanic ?_
  refine wp_region_held_drew (S := fun W => W.heap[w.heap.size]? = some (Obj.cells #[Value.float .f64 al, .float .f64 ah, .bool ab] 24) ∧ W.heap[w.heap.size + 1]? = some (Obj.cells #[Value.float .f64 bl, .float .f64 bh, .bool bb] 24) ∧ W.heap[w1.heap.size]? = some (Obj.cells #[Value.int .u64 (al : Int), .int .u64 (ah : Int), .bool ab] 36) ∧ W.heap[w2.heap.size]? = some (Obj.cells #[Value.int .u64 (bl : Int), .int .u64 (bh : Int), .bool bb] 36)) (by kernel_rfl) (hS _ (Below.refl _ _).drew) (fun _ => ?_)
  refine takeH 25 (i := 0) (v := (Value.agg #[Value.float .f64 al, .float .f64 ah, .bool ab])) rfl rfl (by kernel_rfl) (by kernel_rfl) (by kernel_rfl) (fun _ _ _ h => h) (Or.inl ⟨(by kernel_rfl), fun w' hq => ex_loadF _ _ rfl (w.heap.size) (by kernel_rfl) w' _ _ _ (hq.1)⟩) (hS _ (Below.refl _ _).drew) ?_
  refine takeH 26 (i := 1) (v := (Value.agg #[Value.float .f64 bl, .float .f64 bh, .bool bb])) rfl rfl (by kernel_rfl) (by kernel_rfl) (by kernel_rfl) (fun _ _ _ h => h) (Or.inl ⟨(by kernel_rfl), fun w' hq => ex_loadF _ _ rfl (w.heap.size + 1) (by kernel_rfl) w' _ _ _ (hq.2.1)⟩) (hS _ (Below.refl _ _).drew) ?_
  refine takeH 28 (i := 3) (v := (Value.agg #[Value.int .u64 (al : Int), .int .u64 (ah : Int), .bool ab])) rfl rfl (by kernel_rfl) (by kernel_rfl) (by kernel_rfl) (fun _ _ _ h => h) (Or.inl ⟨(by kernel_rfl), fun w' hq => ex_loadU _ _ rfl (w1.heap.size) (by kernel_rfl) w' _ _ _ (hq.2.2.1)⟩) (hS _ (Below.refl _ _).drew) ?_
  refine takeH 29 (i := 4) (v := (Value.agg #[Value.int .u64 (bl : Int), .int .u64 (bh : Int), .bool bb])) rfl rfl (by kernel_rfl) (by kernel_rfl) (by kernel_rfl) (fun _ _ _ h => h) (Or.inl ⟨(by kernel_rfl), fun w' hq => ex_loadU _ _ rfl (w2.heap.size) (by kernel_rfl) w' _ _ _ (hq.2.2.2)⟩) (hS _ (Below.refl _ _).drew) ?_
  try (simp only [Act.put, List.setIfInBounds_toArray, List.set_cons_zero, List.set_cons_succ])
  refine wpAnyH_ready (rs := [2]) (by kernel_rfl) (by simp) ?_
  refine consH _ rfl ?_ AllReadyH.nil
  refine hopCd 27 rfl (by kernel_rfl) rfl (by kernel_rfl) (Calls.mono (HAN.out _) ?_)
  rintro e m0 ⟨rfl, g0⟩
  have h0 : Below V1.heap.size V1 m0 := Below.trans ((Below.refl _ _).drew : Below V1.heap.size V1 _) (g0.mono (Below.size ((Below.refl _ _).drew : Below V1.heap.size V1 _)))
  refine ⟨_, rfl, hS _ h0, ?_⟩
  try (simp only [Act.put, List.setIfInBounds_toArray, List.set_cons_zero, List.set_cons_succ])
  refine wpAnyH_ready (rs := [5]) (by kernel_rfl) (by simp) ?_
  refine consH _ rfl ?_ AllReadyH.nil
  refine hopCd 30 rfl (by kernel_rfl) rfl (by kernel_rfl) (Calls.mono (refAdd4_any al ah bl bh ab bb hal hah hbl hbh _ E hE) ?_)
  rintro e m1 ⟨s, rfl, hs, g1⟩
  have h1 : Below V1.heap.size V1 m1 := Below.trans (h0 : Below V1.heap.size V1 _) (g1.mono (Below.size (h0 : Below V1.heap.size V1 _)))
  refine ⟨_, rfl, hS _ h1, ?_⟩
  have hr := HR.out
  obtain rfl : r = s := BinR.uniq (fun _ _ a b => SpR.uniq a b) hr hs
  try (simp only [Act.put, List.setIfInBounds_toArray, List.set_cons_zero, List.set_cons_succ])
  refine wpAnyH_ready (rs := [6]) (by kernel_rfl) (by simp) ?_
  refine consH _ rfl ?_ AllReadyH.nil
  refine hopCd 31 rfl (by kernel_rfl) rfl (by kernel_rfl) (Calls.mono (same_any4 r.1 r.2.1 r.2.2 _) ?_)
  rintro e m2 ⟨rfl, g2⟩
  have h2 : Below V1.heap.size V1 m2 := Below.trans (h1 : Below V1.heap.size V1 _) (g2.mono (Below.size (h1 : Below V1.heap.size V1 _)))
  refine ⟨_, rfl, hS _ h2, ?_⟩
  try (simp only [Act.put, List.setIfInBounds_toArray, List.set_cons_zero, List.set_cons_succ])
  refine takeH 8 (i := 7) (v := .bool true) rfl rfl (by kernel_rfl) (by kernel_rfl) (by kernel_rfl) (fun _ _ _ h => h) (Or.inl ⟨(by kernel_rfl), fun w' _ => by kernel_rfl⟩) (hS _ h2) ?_
  refine wpAnyH_done (by kernel_rfl) ?_ _
  refine NoPanic.normal ?_
  try (simp only [Act.put, List.setIfInBounds_toArray, List.set_cons_zero, List.set_cons_succ])
  go_wp2_with fail
  go_ret
  exact ⟨rfl, C4.out.trans (h2.mono C4.out.size)⟩
set_option maxRecDepth 100000 in
set_option maxHeartbeats 8000000 in
theorem one24_any (al ah bl bh : Nat) (ab bb : Bool) (n : Int) (hal : al < 18446744073709551616) (hah : ah < 18446744073709551616) (hbl : bl < 18446744073709551616) (hbh : bh < 18446744073709551616) (w : World) (E : Nat) (hE : E = 1074) :
    Calls Tryz.prog 5 #[.int .i64 2, .agg #[Value.float .f64 al, .float .f64 ah, .bool ab], .agg #[Value.float .f64 bl, .float .f64 bh, .bool bb], .int .i64 n] w fun e w' => e = .returned (.bool true) ∧ Below w.heap.size w w' := by
  obtain ⟨r, hr, han⟩ := spSub_any al ah bl bh ab bb hal hah hbl hbh
  have HAN : Hid _ := han
  have HR : Hid _ := hr
  clear han hr
  obtain ⟨g0, g1, -, gb⟩ := alloc2_facts w (Obj.cells #[Value.float .f64 al, .float .f64 ah, .bool ab] 24) (Obj.cells #[Value.float .f64 bl, .float .f64 bh, .bool bb] 24)
  have GA : Hid _ := g0
  have GC : Hid _ := g1
  have GB : Hid _ := gb
  clear g0 g1 gb
  go_enter Tryz.func5, Tryz.ntmps5
  go_upto_region 1 with fail
  generalize ((w.alloc (Obj.cells #[Value.float .f64 al, .float .f64 ah, .bool ab] 24)).alloc (Obj.cells #[Value.float .f64 bl, .float .f64 bh, .bool bb] 24)) = W0 at GA GC GB ⊢
  obtain ⟨a0, a1, a2⟩ := cells3 GA.out
  go_wp2_with fail
  refine Calls.mono (of_any4 al ah ab _) ?_
  rintro e w1 ⟨rfl, g1⟩
  have GA1 : Hid _ := keep0 GA.out g1
  have GC1 : Hid _ := keep0 GC.out g1
  have C1 : Hid (Below w.heap.size w w1) := GB.out.trans (g1.mono GB.out.size)
  clear g1 GA GC GB a0 a1 a2
  go_upto_region 2 with fail
  have g2 : Below w1.heap.size w1 (w1.alloc (Obj.cells #[Value.int .u64 (al : Int), .int .u64 (ah : Int), .bool ab] 36)) := (Below.refl _ w1).alloc (Nat.le_refl _) _
  have XA : Hid _ := heap_alloc_new w1 (Obj.cells #[Value.int .u64 (al : Int), .int .u64 (ah : Int), .bool ab] 36)
  have GA2 : Hid _ := keep0 GA1.out g2
  have GC2 : Hid _ := keep0 GC1.out g2
  have C2 : Hid (Below w.heap.size w _) := C1.out.trans (g2.mono C1.out.size)
  clear g2 GA1 GC1 C1
  generalize w1.alloc (Obj.cells #[Value.int .u64 (al : Int), .int .u64 (ah : Int), .bool ab] 36) = W1 at XA GA2 GC2 C2 ⊢
  obtain ⟨a0, a1, a2⟩ := cells3 GC2.out
  go_wp2_with fail
  refine Calls.mono (of_any4 bl bh bb _) ?_
  rintro e w2 ⟨rfl, g1⟩
  have XA3 : Hid _ := keep0 XA.out g1
  have GA3 : Hid _ := keep0 GA2.out g1
  have GC3 : Hid _ := keep0 GC2.out g1
  have C3 : Hid (Below w.heap.size w w2) := C2.out.trans (g1.mono C2.out.size)
  clear g1 XA GA2 GC2 C2 a0 a1 a2
  go_upto_region 3 with fail
  have g2 : Below w2.heap.size w2 (w2.alloc (Obj.cells #[Value.int .u64 (bl : Int), .int .u64 (bh : Int), .bool bb] 36)) := (Below.refl _ w2).alloc (Nat.le_refl _) _
  have YB4 : Hid _ := heap_alloc_new w2 (Obj.cells #[Value.int .u64 (bl : Int), .int .u64 (bh : Int), .bool bb] 36)
  have XA4 : Hid _ := keep0 XA3.out g2
  have GA4 : Hid _ := keep0 GA3.out g2
  have GC4 : Hid _ := keep0 GC3.out g2
  have C4 : Hid (Below w.heap.size w _) := C3.out.trans (g2.mono C3.out.size)
  clear g2 XA3 GA3 GC3 C3
  generalize w2.alloc (Obj.cells #[Value.int .u64 (bl : Int), .int .u64 (bh : Int), .bool bb] 36) = V1 at YB4 XA4 GA4 GC4 C4 ⊢
  go_upto_region 9 with fail
  have hS : ∀ W, Below V1.heap.size V1 W → (W.heap[w.heap.size]? = some (Obj.cells #[Value.float .f64 al, .float .f64 ah, .bool ab] 24) ∧ W.heap[w.heap.size + 1]? = some (Obj.cells #[Value.float .f64 bl, .float .f64 bh, .bool bb] 24) ∧ W.heap[w1.heap.size]? = some (Obj.cells #[Value.int .u64 (al : Int), .int .u64 (ah : Int), .bool ab] 36) ∧ W.heap[w2.heap.size]? = some (Obj.cells #[Value.int .u64 (bl : Int), .int .u64 (bh : Int), .bool bb] 36)) := fun W h => ⟨keep0 GA4.out h, keep0 GC4.out h, keep0 XA4.out h, keep0 YB4.out h⟩
  refine wp_region_noPanic ?_
  refine wp_region_held_drew (S := fun W => W.heap[w.heap.size]? = some (Obj.cells #[Value.float .f64 al, .float .f64 ah, .bool ab] 24) ∧ W.heap[w.heap.size + 1]? = some (Obj.cells #[Value.float .f64 bl, .float .f64 bh, .bool bb] 24) ∧ W.heap[w1.heap.size]? = some (Obj.cells #[Value.int .u64 (al : Int), .int .u64 (ah : Int), .bool ab] 36) ∧ W.heap[w2.heap.size]? = some (Obj.cells #[Value.int .u64 (bl : Int), .int .u64 (bh : Int), .bool bb] 36)) (by kernel_rfl) (hS _ (Below.refl _ _).drew) (fun _ => ?_)
  refine takeH 34 (i := 0) (v := (Value.agg #[Value.float .f64 al, .float .f64 ah, .bool ab])) rfl rfl (by kernel_rfl) (by kernel_rfl) (by kernel_rfl) (fun _ _ _ h => h) (Or.inl ⟨(by kernel_rfl), fun w' hq => ex_loadF _ _ rfl (w.heap.size) (by kernel_rfl) w' _ _ _ (hq.1)⟩) (hS _ (Below.refl _ _).drew) ?_
  refine takeH 35 (i := 1) (v := (Value.agg #[Value.float .f64 bl, .float .f64 bh, .bool bb])) rfl rfl (by kernel_rfl) (by kernel_rfl) (by kernel_rfl) (fun _ _ _ h => h) (Or.inl ⟨(by kernel_rfl), fun w' hq => ex_loadF _ _ rfl (w.heap.size + 1) (by kernel_rfl) w' _ _ _ (hq.2.1)⟩) (hS _ (Below.refl _ _).drew) ?_
  refine takeH 37 (i := 3) (v := (Value.agg #[Value.int .u64 (al : Int), .int .u64 (ah : Int), .bool ab])) rfl rfl (by kernel_rfl) (by kernel_rfl) (by kernel_rfl) (fun _ _ _ h => h) (Or.inl ⟨(by kernel_rfl), fun w' hq => ex_loadU _ _ rfl (w1.heap.size) (by kernel_rfl) w' _ _ _ (hq.2.2.1)⟩) (hS _ (Below.refl _ _).drew) ?_
  refine takeH 38 (i := 4) (v := (Value.agg #[Value.int .u64 (bl : Int), .int .u64 (bh : Int), .bool bb])) rfl rfl (by kernel_rfl) (by kernel_rfl) (by kernel_rfl) (fun _ _ _ h => h) (Or.inl ⟨(by kernel_rfl), fun w' hq => ex_loadU _ _ rfl (w2.heap.size) (by kernel_rfl) w' _ _ _ (hq.2.2.2)⟩) (hS _ (Below.refl _ _).drew) ?_
  try (simp only [Act.put, List.setIfInBounds_toArray, List.set_cons_zero, List.set_cons_succ])
  refine wpAnyH_ready (rs := [2]) (by kernel_rfl) (by simp) ?_
  refine consH _ rfl ?_ AllReadyH.nil
  refine hopCd 36 rfl (by kernel_rfl) rfl (by kernel_rfl) (Calls.mono (HAN.out _) ?_)
  rintro e m0 ⟨rfl, g0⟩
  have h0 : Below V1.heap.size V1 m0 := Below.trans ((Below.refl _ _).drew : Below V1.heap.size V1 _) (g0.mono (Below.size ((Below.refl _ _).drew : Below V1.heap.size V1 _)))
  refine ⟨_, rfl, hS _ h0, ?_⟩
  try (simp only [Act.put, List.setIfInBounds_toArray, List.set_cons_zero, List.set_cons_succ])
  refine wpAnyH_ready (rs := [5]) (by kernel_rfl) (by simp) ?_
  refine consH _ rfl ?_ AllReadyH.nil
  refine hopCd 39 rfl (by kernel_rfl) rfl (by kernel_rfl) (Calls.mono (refSub4_any al ah bl bh ab bb hal hah hbl hbh _ E hE) ?_)
  rintro e m1 ⟨s, rfl, hs, g1⟩
  have h1 : Below V1.heap.size V1 m1 := Below.trans (h0 : Below V1.heap.size V1 _) (g1.mono (Below.size (h0 : Below V1.heap.size V1 _)))
  refine ⟨_, rfl, hS _ h1, ?_⟩
  have hr := HR.out
  obtain rfl : r = s := BinR.uniq (fun _ _ a b => SpR.uniq a b) hr hs
  try (simp only [Act.put, List.setIfInBounds_toArray, List.set_cons_zero, List.set_cons_succ])
  refine wpAnyH_ready (rs := [6]) (by kernel_rfl) (by simp) ?_
  refine consH _ rfl ?_ AllReadyH.nil
  refine hopCd 40 rfl (by kernel_rfl) rfl (by kernel_rfl) (Calls.mono (same_any4 r.1 r.2.1 r.2.2 _) ?_)
  rintro e m2 ⟨rfl, g2⟩
  have h2 : Below V1.heap.size V1 m2 := Below.trans (h1 : Below V1.heap.size V1 _) (g2.mono (Below.size (h1 : Below V1.heap.size V1 _)))
  refine ⟨_, rfl, hS _ h2, ?_⟩
  try (simp only [Act.put, List.setIfInBounds_toArray, List.set_cons_zero, List.set_cons_succ])
  refine takeH 8 (i := 7) (v := .bool true) rfl rfl (by kernel_rfl) (by kernel_rfl) (by kernel_rfl) (fun _ _ _ h => h) (Or.inl ⟨(by kernel_rfl), fun w' _ => by kernel_rfl⟩) (hS _ h2) ?_
  refine wpAnyH_done (by kernel_rfl) ?_ _
  refine NoPanic.normal ?_
  try (simp only [Act.put, List.setIfInBounds_toArray, List.set_cons_zero, List.set_cons_succ])
  go_wp2_with fail
  go_ret
  exact ⟨rfl, C4.out.trans (h2.mono C4.out.size)⟩
set_option maxRecDepth 100000 in
set_option maxHeartbeats 8000000 in
theorem one34_any (al ah bl bh : Nat) (ab bb : Bool) (n : Int) (hal : al < 18446744073709551616) (hah : ah < 18446744073709551616) (hbl : bl < 18446744073709551616) (hbh : bh < 18446744073709551616) (w : World) (E : Nat) (hE : E = 1074) :
    Calls Tryz.prog 5 #[.int .i64 3, .agg #[Value.float .f64 al, .float .f64 ah, .bool ab], .agg #[Value.float .f64 bl, .float .f64 bh, .bool bb], .int .i64 n] w fun e w' => e = .returned (.bool true) ∧ Below w.heap.size w w' := by
  obtain ⟨r, hr, han⟩ := spMul_any al ah bl bh ab bb hal hah hbl hbh E hE
  have HAN : Hid _ := han
  have HR : Hid _ := hr
  clear han hr
  obtain ⟨g0, g1, -, gb⟩ := alloc2_facts w (Obj.cells #[Value.float .f64 al, .float .f64 ah, .bool ab] 24) (Obj.cells #[Value.float .f64 bl, .float .f64 bh, .bool bb] 24)
  have GA : Hid _ := g0
  have GC : Hid _ := g1
  have GB : Hid _ := gb
  clear g0 g1 gb
  go_enter Tryz.func5, Tryz.ntmps5
  go_upto_region 1 with fail
  generalize ((w.alloc (Obj.cells #[Value.float .f64 al, .float .f64 ah, .bool ab] 24)).alloc (Obj.cells #[Value.float .f64 bl, .float .f64 bh, .bool bb] 24)) = W0 at GA GC GB ⊢
  obtain ⟨a0, a1, a2⟩ := cells3 GA.out
  go_wp2_with fail
  refine Calls.mono (of_any4 al ah ab _) ?_
  rintro e w1 ⟨rfl, g1⟩
  have GA1 : Hid _ := keep0 GA.out g1
  have GC1 : Hid _ := keep0 GC.out g1
  have C1 : Hid (Below w.heap.size w w1) := GB.out.trans (g1.mono GB.out.size)
  clear g1 GA GC GB a0 a1 a2
  go_upto_region 2 with fail
  have g2 : Below w1.heap.size w1 (w1.alloc (Obj.cells #[Value.int .u64 (al : Int), .int .u64 (ah : Int), .bool ab] 36)) := (Below.refl _ w1).alloc (Nat.le_refl _) _
  have XA : Hid _ := heap_alloc_new w1 (Obj.cells #[Value.int .u64 (al : Int), .int .u64 (ah : Int), .bool ab] 36)
  have GA2 : Hid _ := keep0 GA1.out g2
  have GC2 : Hid _ := keep0 GC1.out g2
  have C2 : Hid (Below w.heap.size w _) := C1.out.trans (g2.mono C1.out.size)
  clear g2 GA1 GC1 C1
  generalize w1.alloc (Obj.cells #[Value.int .u64 (al : Int), .int .u64 (ah : Int), .bool ab] 36) = W1 at XA GA2 GC2 C2 ⊢
  obtain ⟨a0, a1, a2⟩ := cells3 GC2.out
  go_wp2_with fail
  refine Calls.mono (of_any4 bl bh bb _) ?_
  rintro e w2 ⟨rfl, g1⟩
  have XA3 : Hid _ := keep0 XA.out g1
  have GA3 : Hid _ := keep0 GA2.out g1
  have GC3 : Hid _ := keep0 GC2.out g1
  have C3 : Hid (Below w.heap.size w w2) := C2.out.trans (g1.mono C2.out.size)
  clear g1 XA GA2 GC2 C2 a0 a1 a2
  go_upto_region 3 with fail
  have g2 : Below w2.heap.size w2 (w2.alloc (Obj.cells #[Value.int .u64 (bl : Int), .int .u64 (bh : Int), .bool bb] 36)) := (Below.refl _ w2).alloc (Nat.le_refl _) _
  have YB4 : Hid _ := heap_alloc_new w2 (Obj.cells #[Value.int .u64 (bl : Int), .int .u64 (bh : Int), .bool bb] 36)
  have XA4 : Hid _ := keep0 XA3.out g2
  have GA4 : Hid _ := keep0 GA3.out g2
  have GC4 : Hid _ := keep0 GC3.out g2
  have C4 : Hid (Below w.heap.size w _) := C3.out.trans (g2.mono C3.out.size)
  clear g2 XA3 GA3 GC3 C3
  generalize w2.alloc (Obj.cells #[Value.int .u64 (bl : Int), .int .u64 (bh : Int), .bool bb] 36) = V1 at YB4 XA4 GA4 GC4 C4 ⊢
  go_upto_region 11 with fail
  have hS : ∀ W, Below V1.heap.size V1 W → (W.heap[w.heap.size]? = some (Obj.cells #[Value.float .f64 al, .float .f64 ah, .bool ab] 24) ∧ W.heap[w.heap.size + 1]? = some (Obj.cells #[Value.float .f64 bl, .float .f64 bh, .bool bb] 24) ∧ W.heap[w1.heap.size]? = some (Obj.cells #[Value.int .u64 (al : Int), .int .u64 (ah : Int), .bool ab] 36) ∧ W.heap[w2.heap.size]? = some (Obj.cells #[Value.int .u64 (bl : Int), .int .u64 (bh : Int), .bool bb] 36)) := fun W h => ⟨keep0 GA4.out h, keep0 GC4.out h, keep0 XA4.out h, keep0 YB4.out h⟩
  refine wp_region_noPanic ?_
  refine wp_region_held_drew (S := fun W => W.heap[w.heap.size]? = some (Obj.cells #[Value.float .f64 al, .float .f64 ah, .bool ab] 24) ∧ W.heap[w.heap.size + 1]? = some (Obj.cells #[Value.float .f64 bl, .float .f64 bh, .bool bb] 24) ∧ W.heap[w1.heap.size]? = some (Obj.cells #[Value.int .u64 (al : Int), .int .u64 (ah : Int), .bool ab] 36) ∧ W.heap[w2.heap.size]? = some (Obj.cells #[Value.int .u64 (bl : Int), .int .u64 (bh : Int), .bool bb] 36)) (by kernel_rfl) (hS _ (Below.refl _ _).drew) (fun _ => ?_)
  refine takeH 43 (i := 0) (v := (Value.agg #[Value.float .f64 al, .float .f64 ah, .bool ab])) rfl rfl (by kernel_rfl) (by kernel_rfl) (by kernel_rfl) (fun _ _ _ h => h) (Or.inl ⟨(by kernel_rfl), fun w' hq => ex_loadF _ _ rfl (w.heap.size) (by kernel_rfl) w' _ _ _ (hq.1)⟩) (hS _ (Below.refl _ _).drew) ?_
  refine takeH 44 (i := 1) (v := (Value.agg #[Value.float .f64 bl, .float .f64 bh, .bool bb])) rfl rfl (by kernel_rfl) (by kernel_rfl) (by kernel_rfl) (fun _ _ _ h => h) (Or.inl ⟨(by kernel_rfl), fun w' hq => ex_loadF _ _ rfl (w.heap.size + 1) (by kernel_rfl) w' _ _ _ (hq.2.1)⟩) (hS _ (Below.refl _ _).drew) ?_
  refine takeH 46 (i := 3) (v := (Value.agg #[Value.int .u64 (al : Int), .int .u64 (ah : Int), .bool ab])) rfl rfl (by kernel_rfl) (by kernel_rfl) (by kernel_rfl) (fun _ _ _ h => h) (Or.inl ⟨(by kernel_rfl), fun w' hq => ex_loadU _ _ rfl (w1.heap.size) (by kernel_rfl) w' _ _ _ (hq.2.2.1)⟩) (hS _ (Below.refl _ _).drew) ?_
  refine takeH 47 (i := 4) (v := (Value.agg #[Value.int .u64 (bl : Int), .int .u64 (bh : Int), .bool bb])) rfl rfl (by kernel_rfl) (by kernel_rfl) (by kernel_rfl) (fun _ _ _ h => h) (Or.inl ⟨(by kernel_rfl), fun w' hq => ex_loadU _ _ rfl (w2.heap.size) (by kernel_rfl) w' _ _ _ (hq.2.2.2)⟩) (hS _ (Below.refl _ _).drew) ?_
  try (simp only [Act.put, List.setIfInBounds_toArray, List.set_cons_zero, List.set_cons_succ])
  refine wpAnyH_ready (rs := [2]) (by kernel_rfl) (by simp) ?_
  refine consH _ rfl ?_ AllReadyH.nil
  refine hopCd 45 rfl (by kernel_rfl) rfl (by kernel_rfl) (Calls.mono (HAN.out _) ?_)
  rintro e m0 ⟨rfl, g0⟩
  have h0 : Below V1.heap.size V1 m0 := Below.trans ((Below.refl _ _).drew : Below V1.heap.size V1 _) (g0.mono (Below.size ((Below.refl _ _).drew : Below V1.heap.size V1 _)))
  refine ⟨_, rfl, hS _ h0, ?_⟩
  try (simp only [Act.put, List.setIfInBounds_toArray, List.set_cons_zero, List.set_cons_succ])
  refine wpAnyH_ready (rs := [5]) (by kernel_rfl) (by simp) ?_
  refine consH _ rfl ?_ AllReadyH.nil
  refine hopCd 48 rfl (by kernel_rfl) rfl (by kernel_rfl) (Calls.mono (refMul4_any al ah bl bh ab bb hal hah hbl hbh _ E hE) ?_)
  rintro e m1 ⟨s, rfl, hs, g1⟩
  have h1 : Below V1.heap.size V1 m1 := Below.trans (h0 : Below V1.heap.size V1 _) (g1.mono (Below.size (h0 : Below V1.heap.size V1 _)))
  refine ⟨_, rfl, hS _ h1, ?_⟩
  have hr := HR.out
  obtain rfl : r = s := MulR.uniq hr hs
  try (simp only [Act.put, List.setIfInBounds_toArray, List.set_cons_zero, List.set_cons_succ])
  refine wpAnyH_ready (rs := [6]) (by kernel_rfl) (by simp) ?_
  refine consH _ rfl ?_ AllReadyH.nil
  refine hopCd 49 rfl (by kernel_rfl) rfl (by kernel_rfl) (Calls.mono (same_any4 r.1 r.2.1 r.2.2 _) ?_)
  rintro e m2 ⟨rfl, g2⟩
  have h2 : Below V1.heap.size V1 m2 := Below.trans (h1 : Below V1.heap.size V1 _) (g2.mono (Below.size (h1 : Below V1.heap.size V1 _)))
  refine ⟨_, rfl, hS _ h2, ?_⟩
  try (simp only [Act.put, List.setIfInBounds_toArray, List.set_cons_zero, List.set_cons_succ])
  refine takeH 8 (i := 7) (v := .bool true) rfl rfl (by kernel_rfl) (by kernel_rfl) (by kernel_rfl) (fun _ _ _ h => h) (Or.inl ⟨(by kernel_rfl), fun w' _ => by kernel_rfl⟩) (hS _ h2) ?_
  refine wpAnyH_done (by kernel_rfl) ?_ _
  refine NoPanic.normal ?_
  try (simp only [Act.put, List.setIfInBounds_toArray, List.set_cons_zero, List.set_cons_succ])
  go_wp2_with fail
  go_ret
  exact ⟨rfl, C4.out.trans (h2.mono C4.out.size)⟩
set_option maxRecDepth 100000 in
set_option maxHeartbeats 8000000 in
theorem one44_any (al ah bl bh : Nat) (ab bb : Bool) (n : Int) (hal : al < 18446744073709551616) (hah : ah < 18446744073709551616) (hbl : bl < 18446744073709551616) (hbh : bh < 18446744073709551616) (w : World) (E : Nat) (hE : E = 1074) :
    Calls Tryz.prog 5 #[.int .i64 4, .agg #[Value.float .f64 al, .float .f64 ah, .bool ab], .agg #[Value.float .f64 bl, .float .f64 bh, .bool bb], .int .i64 n] w fun e w' => e = .returned (.bool true) ∧ Below w.heap.size w w' := by
  obtain ⟨r, hr, han⟩ := spDiv_any al ah bl bh ab bb hal hah hbl hbh E hE
  have HAN : Hid _ := han
  have HR : Hid _ := hr
  clear han hr
  obtain ⟨g0, g1, -, gb⟩ := alloc2_facts w (Obj.cells #[Value.float .f64 al, .float .f64 ah, .bool ab] 24) (Obj.cells #[Value.float .f64 bl, .float .f64 bh, .bool bb] 24)
  have GA : Hid _ := g0
  have GC : Hid _ := g1
  have GB : Hid _ := gb
  clear g0 g1 gb
  go_enter Tryz.func5, Tryz.ntmps5
  go_upto_region 1 with fail
  generalize ((w.alloc (Obj.cells #[Value.float .f64 al, .float .f64 ah, .bool ab] 24)).alloc (Obj.cells #[Value.float .f64 bl, .float .f64 bh, .bool bb] 24)) = W0 at GA GC GB ⊢
  obtain ⟨a0, a1, a2⟩ := cells3 GA.out
  go_wp2_with fail
  refine Calls.mono (of_any4 al ah ab _) ?_
  rintro e w1 ⟨rfl, g1⟩
  have GA1 : Hid _ := keep0 GA.out g1
  have GC1 : Hid _ := keep0 GC.out g1
  have C1 : Hid (Below w.heap.size w w1) := GB.out.trans (g1.mono GB.out.size)
  clear g1 GA GC GB a0 a1 a2
  go_upto_region 2 with fail
  have g2 : Below w1.heap.size w1 (w1.alloc (Obj.cells #[Value.int .u64 (al : Int), .int .u64 (ah : Int), .bool ab] 36)) := (Below.refl _ w1).alloc (Nat.le_refl _) _
  have XA : Hid _ := heap_alloc_new w1 (Obj.cells #[Value.int .u64 (al : Int), .int .u64 (ah : Int), .bool ab] 36)
  have GA2 : Hid _ := keep0 GA1.out g2
  have GC2 : Hid _ := keep0 GC1.out g2
  have C2 : Hid (Below w.heap.size w _) := C1.out.trans (g2.mono C1.out.size)
  clear g2 GA1 GC1 C1
  generalize w1.alloc (Obj.cells #[Value.int .u64 (al : Int), .int .u64 (ah : Int), .bool ab] 36) = W1 at XA GA2 GC2 C2 ⊢
  obtain ⟨a0, a1, a2⟩ := cells3 GC2.out
  go_wp2_with fail
  refine Calls.mono (of_any4 bl bh bb _) ?_
  rintro e w2 ⟨rfl, g1⟩
  have XA3 : Hid _ := keep0 XA.out g1
  have GA3 : Hid _ := keep0 GA2.out g1
  have GC3 : Hid _ := keep0 GC2.out g1
  have C3 : Hid (Below w.heap.size w w2) := C2.out.trans (g1.mono C2.out.size)
  clear g1 XA GA2 GC2 C2 a0 a1 a2
  go_upto_region 3 with fail
  have g2 : Below w2.heap.size w2 (w2.alloc (Obj.cells #[Value.int .u64 (bl : Int), .int .u64 (bh : Int), .bool bb] 36)) := (Below.refl _ w2).alloc (Nat.le_refl _) _
  have YB4 : Hid _ := heap_alloc_new w2 (Obj.cells #[Value.int .u64 (bl : Int), .int .u64 (bh : Int), .bool bb] 36)
  have XA4 : Hid _ := keep0 XA3.out g2
  have GA4 : Hid _ := keep0 GA3.out g2
  have GC4 : Hid _ := keep0 GC3.out g2
  have C4 : Hid (Below w.heap.size w _) := C3.out.trans (g2.mono C3.out.size)
  clear g2 XA3 GA3 GC3 C3
  generalize w2.alloc (Obj.cells #[Value.int .u64 (bl : Int), .int .u64 (bh : Int), .bool bb] 36) = V1 at YB4 XA4 GA4 GC4 C4 ⊢
  go_upto_region 13 with fail
  have hS : ∀ W, Below V1.heap.size V1 W → (W.heap[w.heap.size]? = some (Obj.cells #[Value.float .f64 al, .float .f64 ah, .bool ab] 24) ∧ W.heap[w.heap.size + 1]? = some (Obj.cells #[Value.float .f64 bl, .float .f64 bh, .bool bb] 24) ∧ W.heap[w1.heap.size]? = some (Obj.cells #[Value.int .u64 (al : Int), .int .u64 (ah : Int), .bool ab] 36) ∧ W.heap[w2.heap.size]? = some (Obj.cells #[Value.int .u64 (bl : Int), .int .u64 (bh : Int), .bool bb] 36)) := fun W h => ⟨keep0 GA4.out h, keep0 GC4.out h, keep0 XA4.out h, keep0 YB4.out h⟩
  refine wp_region_noPanic ?_
  refine wp_region_held_drew (S := fun W => W.heap[w.heap.size]? = some (Obj.cells #[Value.float .f64 al, .float .f64 ah, .bool ab] 24) ∧ W.heap[w.heap.size + 1]? = some (Obj.cells #[Value.float .f64 bl, .float .f64 bh, .bool bb] 24) ∧ W.heap[w1.heap.size]? = some (Obj.cells #[Value.int .u64 (al : Int), .int .u64 (ah : Int), .bool ab] 36) ∧ W.heap[w2.heap.size]? = some (Obj.cells #[Value.int .u64 (bl : Int), .int .u64 (bh : Int), .bool bb] 36)) (by kernel_rfl) (hS _ (Below.refl _ _).drew) (fun _ => ?_)
  refine takeH 52 (i := 0) (v := (Value.agg #[Value.float .f64 al, .float .f64 ah, .bool ab])) rfl rfl (by kernel_rfl) (by kernel_rfl) (by kernel_rfl) (fun _ _ _ h => h) (Or.inl ⟨(by kernel_rfl), fun w' hq => ex_loadF _ _ rfl (w.heap.size) (by kernel_rfl) w' _ _ _ (hq.1)⟩) (hS _ (Below.refl _ _).drew) ?_
  refine takeH 53 (i := 1) (v := (Value.agg #[Value.float .f64 bl, .float .f64 bh, .bool bb])) rfl rfl (by kernel_rfl) (by kernel_rfl) (by kernel_rfl) (fun _ _ _ h => h) (Or.inl ⟨(by kernel_rfl), fun w' hq => ex_loadF _ _ rfl (w.heap.size + 1) (by kernel_rfl) w' _ _ _ (hq.2.1)⟩) (hS _ (Below.refl _ _).drew) ?_
  refine takeH 55 (i := 3) (v := (Value.agg #[Value.int .u64 (al : Int), .int .u64 (ah : Int), .bool ab])) rfl rfl (by kernel_rfl) (by kernel_rfl) (by kernel_rfl) (fun _ _ _ h => h) (Or.inl ⟨(by kernel_rfl), fun w' hq => ex_loadU _ _ rfl (w1.heap.size) (by kernel_rfl) w' _ _ _ (hq.2.2.1)⟩) (hS _ (Below.refl _ _).drew) ?_
  refine takeH 56 (i := 4) (v := (Value.agg #[Value.int .u64 (bl : Int), .int .u64 (bh : Int), .bool bb])) rfl rfl (by kernel_rfl) (by kernel_rfl) (by kernel_rfl) (fun _ _ _ h => h) (Or.inl ⟨(by kernel_rfl), fun w' hq => ex_loadU _ _ rfl (w2.heap.size) (by kernel_rfl) w' _ _ _ (hq.2.2.2)⟩) (hS _ (Below.refl _ _).drew) ?_
  try (simp only [Act.put, List.setIfInBounds_toArray, List.set_cons_zero, List.set_cons_succ])
  refine wpAnyH_ready (rs := [2]) (by kernel_rfl) (by simp) ?_
  refine consH _ rfl ?_ AllReadyH.nil
  refine hopCd 54 rfl (by kernel_rfl) rfl (by kernel_rfl) (Calls.mono (HAN.out _) ?_)
  rintro e m0 ⟨rfl, g0⟩
  have h0 : Below V1.heap.size V1 m0 := Below.trans ((Below.refl _ _).drew : Below V1.heap.size V1 _) (g0.mono (Below.size ((Below.refl _ _).drew : Below V1.heap.size V1 _)))
  refine ⟨_, rfl, hS _ h0, ?_⟩
  try (simp only [Act.put, List.setIfInBounds_toArray, List.set_cons_zero, List.set_cons_succ])
  refine wpAnyH_ready (rs := [5]) (by kernel_rfl) (by simp) ?_
  refine consH _ rfl ?_ AllReadyH.nil
  refine hopCd 57 rfl (by kernel_rfl) rfl (by kernel_rfl) (Calls.mono (refDiv4_any al ah bl bh ab bb hal hah hbl hbh _ E hE) ?_)
  rintro e m1 ⟨s, rfl, hs, g1⟩
  have h1 : Below V1.heap.size V1 m1 := Below.trans (h0 : Below V1.heap.size V1 _) (g1.mono (Below.size (h0 : Below V1.heap.size V1 _)))
  refine ⟨_, rfl, hS _ h1, ?_⟩
  have hr := HR.out
  obtain rfl : r = s := DivR.uniq hr hs
  try (simp only [Act.put, List.setIfInBounds_toArray, List.set_cons_zero, List.set_cons_succ])
  refine wpAnyH_ready (rs := [6]) (by kernel_rfl) (by simp) ?_
  refine consH _ rfl ?_ AllReadyH.nil
  refine hopCd 58 rfl (by kernel_rfl) rfl (by kernel_rfl) (Calls.mono (same_any4 r.1 r.2.1 r.2.2 _) ?_)
  rintro e m2 ⟨rfl, g2⟩
  have h2 : Below V1.heap.size V1 m2 := Below.trans (h1 : Below V1.heap.size V1 _) (g2.mono (Below.size (h1 : Below V1.heap.size V1 _)))
  refine ⟨_, rfl, hS _ h2, ?_⟩
  try (simp only [Act.put, List.setIfInBounds_toArray, List.set_cons_zero, List.set_cons_succ])
  refine takeH 8 (i := 7) (v := .bool true) rfl rfl (by kernel_rfl) (by kernel_rfl) (by kernel_rfl) (fun _ _ _ h => h) (Or.inl ⟨(by kernel_rfl), fun w' _ => by kernel_rfl⟩) (hS _ h2) ?_
  refine wpAnyH_done (by kernel_rfl) ?_ _
  refine NoPanic.normal ?_
  try (simp only [Act.put, List.setIfInBounds_toArray, List.set_cons_zero, List.set_cons_succ])
  go_wp2_with fail
  go_ret
  exact ⟨rfl, C4.out.trans (h2.mono C4.out.size)⟩
set_option maxRecDepth 100000 in
set_option maxHeartbeats 8000000 in
theorem one54_any (al ah bl bh : Nat) (ab bb : Bool) (n : Int) (hal : al < 18446744073709551616) (hah : ah < 18446744073709551616) (hbl : bl < 18446744073709551616) (hbh : bh < 18446744073709551616) (w : World) (E : Nat) (hE : E = 1074) :
    Calls Tryz.prog 5 #[.int .i64 5, .agg #[Value.float .f64 al, .float .f64 ah, .bool ab], .agg #[Value.float .f64 bl, .float .f64 bh, .bool bb], .int .i64 n] w fun e w' => e = .returned (.bool true) ∧ Below w.heap.size w w' := by
  obtain ⟨r, hr, han⟩ := spScale_any al ah ab n hal hah
  have HAN : Hid _ := han
  have HR : Hid _ := hr
  clear han hr
  obtain ⟨g0, g1, -, gb⟩ := alloc2_facts w (Obj.cells #[Value.float .f64 al, .float .f64 ah, .bool ab] 24) (Obj.cells #[Value.float .f64 bl, .float .f64 bh, .bool bb] 24)
  have GA : Hid _ := g0
  have GC : Hid _ := g1
  have GB : Hid _ := gb
  clear g0 g1 gb
  go_enter Tryz.func5, Tryz.ntmps5
  go_upto_region 1 with fail
  generalize ((w.alloc (Obj.cells #[Value.float .f64 al, .float .f64 ah, .bool ab] 24)).alloc (Obj.cells #[Value.float .f64 bl, .float .f64 bh, .bool bb] 24)) = W0 at GA GC GB ⊢
  obtain ⟨a0, a1, a2⟩ := cells3 GA.out
  go_wp2_with fail
  refine Calls.mono (of_any4 al ah ab _) ?_
  rintro e w1 ⟨rfl, g1⟩
  have GA1 : Hid _ := keep0 GA.out g1
  have GC1 : Hid _ := keep0 GC.out g1
  have C1 : Hid (Below w.heap.size w w1) := GB.out.trans (g1.mono GB.out.size)
  clear g1 GA GC GB a0 a1 a2
  go_upto_region 2 with fail
  have g2 : Below w1.heap.size w1 (w1.alloc (Obj.cells #[Value.int .u64 (al : Int), .int .u64 (ah : Int), .bool ab] 36)) := (Below.refl _ w1).alloc (Nat.le_refl _) _
  have XA : Hid _ := heap_alloc_new w1 (Obj.cells #[Value.int .u64 (al : Int), .int .u64 (ah : Int), .bool ab] 36)
  have GA2 : Hid _ := keep0 GA1.out g2
  have GC2 : Hid _ := keep0 GC1.out g2
  have C2 : Hid (Below w.heap.size w _) := C1.out.trans (g2.mono C1.out.size)
  clear g2 GA1 GC1 C1
  generalize w1.alloc (Obj.cells #[Value.int .u64 (al : Int), .int .u64 (ah : Int), .bool ab] 36) = W1 at XA GA2 GC2 C2 ⊢
  obtain ⟨a0, a1, a2⟩ := cells3 GC2.out
  go_wp2_with fail
  refine Calls.mono (of_any4 bl bh bb _) ?_
  rintro e w2 ⟨rfl, g1⟩
  have XA3 : Hid _ := keep0 XA.out g1
  have GA3 : Hid _ := keep0 GA2.out g1
  have GC3 : Hid _ := keep0 GC2.out g1
  have C3 : Hid (Below w.heap.size w w2) := C2.out.trans (g1.mono C2.out.size)
  clear g1 XA GA2 GC2 C2 a0 a1 a2
  go_upto_region 3 with fail
  have g2 : Below w2.heap.size w2 (w2.alloc (Obj.cells #[Value.int .u64 (bl : Int), .int .u64 (bh : Int), .bool bb] 36)) := (Below.refl _ w2).alloc (Nat.le_refl _) _
  have YB4 : Hid _ := heap_alloc_new w2 (Obj.cells #[Value.int .u64 (bl : Int), .int .u64 (bh : Int), .bool bb] 36)
  have XA4 : Hid _ := keep0 XA3.out g2
  have GA4 : Hid _ := keep0 GA3.out g2
  have GC4 : Hid _ := keep0 GC3.out g2
  have C4 : Hid (Below w.heap.size w _) := C3.out.trans (g2.mono C3.out.size)
  clear g2 XA3 GA3 GC3 C3
  generalize w2.alloc (Obj.cells #[Value.int .u64 (bl : Int), .int .u64 (bh : Int), .bool bb] 36) = V1 at YB4 XA4 GA4 GC4 C4 ⊢
  go_upto_region 15 with fail
  have hS : ∀ W, Below V1.heap.size V1 W → (W.heap[w.heap.size]? = some (Obj.cells #[Value.float .f64 al, .float .f64 ah, .bool ab] 24) ∧ W.heap[w.heap.size + 1]? = some (Obj.cells #[Value.float .f64 bl, .float .f64 bh, .bool bb] 24) ∧ W.heap[w1.heap.size]? = some (Obj.cells #[Value.int .u64 (al : Int), .int .u64 (ah : Int), .bool ab] 36) ∧ W.heap[w2.heap.size]? = some (Obj.cells #[Value.int .u64 (bl : Int), .int .u64 (bh : Int), .bool bb] 36)) := fun W h => ⟨keep0 GA4.out h, keep0 GC4.out h, keep0 XA4.out h, keep0 YB4.out h⟩
  refine wp_region_noPanic ?_
  refine wp_region_held_drew (S := fun W => W.heap[w.heap.size]? = some (Obj.cells #[Value.float .f64 al, .float .f64 ah, .bool ab] 24) ∧ W.heap[w.heap.size + 1]? = some (Obj.cells #[Value.float .f64 bl, .float .f64 bh, .bool bb] 24) ∧ W.heap[w1.heap.size]? = some (Obj.cells #[Value.int .u64 (al : Int), .int .u64 (ah : Int), .bool ab] 36) ∧ W.heap[w2.heap.size]? = some (Obj.cells #[Value.int .u64 (bl : Int), .int .u64 (bh : Int), .bool bb] 36)) (by kernel_rfl) (hS _ (Below.refl _ _).drew) (fun _ => ?_)
  refine takeH 61 (i := 0) (v := (Value.agg #[Value.float .f64 al, .float .f64 ah, .bool ab])) rfl rfl (by kernel_rfl) (by kernel_rfl) (by kernel_rfl) (fun _ _ _ h => h) (Or.inl ⟨(by kernel_rfl), fun w' hq => ex_loadF _ _ rfl (w.heap.size) (by kernel_rfl) w' _ _ _ (hq.1)⟩) (hS _ (Below.refl _ _).drew) ?_
  refine takeH 62 (i := 1) (v := .int .i64 n) rfl rfl (by kernel_rfl) (by kernel_rfl) (by kernel_rfl) (fun _ _ _ h => h) (Or.inl ⟨(by kernel_rfl), fun w' _ => by kernel_rfl⟩) (hS _ (Below.refl _ _).drew) ?_
  refine takeH 64 (i := 3) (v := (Value.agg #[Value.int .u64 (al : Int), .int .u64 (ah : Int), .bool ab])) rfl rfl (by kernel_rfl) (by kernel_rfl) (by kernel_rfl) (fun _ _ _ h => h) (Or.inl ⟨(by kernel_rfl), fun w' hq => ex_loadU _ _ rfl (w1.heap.size) (by kernel_rfl) w' _ _ _ (hq.2.2.1)⟩) (hS _ (Below.refl _ _).drew) ?_
  refine takeH 65 (i := 4) (v := .int .i64 n) rfl rfl (by kernel_rfl) (by kernel_rfl) (by kernel_rfl) (fun _ _ _ h => h) (Or.inl ⟨(by kernel_rfl), fun w' _ => by kernel_rfl⟩) (hS _ (Below.refl _ _).drew) ?_
  try (simp only [Act.put, List.setIfInBounds_toArray, List.set_cons_zero, List.set_cons_succ])
  refine wpAnyH_ready (rs := [2]) (by kernel_rfl) (by simp) ?_
  refine consH _ rfl ?_ AllReadyH.nil
  refine hopCd 63 rfl (by kernel_rfl) rfl (by kernel_rfl) (Calls.mono (HAN.out _) ?_)
  rintro e m0 ⟨rfl, g0⟩
  have h0 : Below V1.heap.size V1 m0 := Below.trans ((Below.refl _ _).drew : Below V1.heap.size V1 _) (g0.mono (Below.size ((Below.refl _ _).drew : Below V1.heap.size V1 _)))
  refine ⟨_, rfl, hS _ h0, ?_⟩
  try (simp only [Act.put, List.setIfInBounds_toArray, List.set_cons_zero, List.set_cons_succ])
  refine wpAnyH_ready (rs := [5]) (by kernel_rfl) (by simp) ?_
  refine consH _ rfl ?_ AllReadyH.nil
  refine hopCd 66 rfl (by kernel_rfl) rfl (by kernel_rfl) (Calls.mono (refScale4_any al ah ab n hal hah _ E hE) ?_)
  rintro e m1 ⟨s, rfl, hs, g1⟩
  have h1 : Below V1.heap.size V1 m1 := Below.trans (h0 : Below V1.heap.size V1 _) (g1.mono (Below.size (h0 : Below V1.heap.size V1 _)))
  refine ⟨_, rfl, hS _ h1, ?_⟩
  have hr := HR.out
  obtain rfl : r = s := UnR.uniq sc_uniq hr hs
  try (simp only [Act.put, List.setIfInBounds_toArray, List.set_cons_zero, List.set_cons_succ])
  refine wpAnyH_ready (rs := [6]) (by kernel_rfl) (by simp) ?_
  refine consH _ rfl ?_ AllReadyH.nil
  refine hopCd 67 rfl (by kernel_rfl) rfl (by kernel_rfl) (Calls.mono (same_any4 r.1 r.2.1 r.2.2 _) ?_)
  rintro e m2 ⟨rfl, g2⟩
  have h2 : Below V1.heap.size V1 m2 := Below.trans (h1 : Below V1.heap.size V1 _) (g2.mono (Below.size (h1 : Below V1.heap.size V1 _)))
  refine ⟨_, rfl, hS _ h2, ?_⟩
  try (simp only [Act.put, List.setIfInBounds_toArray, List.set_cons_zero, List.set_cons_succ])
  refine takeH 8 (i := 7) (v := .bool true) rfl rfl (by kernel_rfl) (by kernel_rfl) (by kernel_rfl) (fun _ _ _ h => h) (Or.inl ⟨(by kernel_rfl), fun w' _ => by kernel_rfl⟩) (hS _ h2) ?_
  refine wpAnyH_done (by kernel_rfl) ?_ _
  refine NoPanic.normal ?_
  try (simp only [Act.put, List.setIfInBounds_toArray, List.set_cons_zero, List.set_cons_succ])
  go_wp2_with fail
  go_ret
  exact ⟨rfl, C4.out.trans (h2.mono C4.out.size)⟩
set_option maxRecDepth 100000 in
set_option maxHeartbeats 8000000 in
theorem one64_any (al ah bl bh : Nat) (ab bb : Bool) (n : Int) (hal : al < 18446744073709551616) (hah : ah < 18446744073709551616) (hbl : bl < 18446744073709551616) (hbh : bh < 18446744073709551616) (w : World) (E : Nat) (hE : E = 1074) :
    Calls Tryz.prog 5 #[.int .i64 6, .agg #[Value.float .f64 al, .float .f64 ah, .bool ab], .agg #[Value.float .f64 bl, .float .f64 bh, .bool bb], .int .i64 n] w fun e w' => e = .returned (.bool true) ∧ Below w.heap.size w w' := by
  obtain ⟨r, hr, han⟩ := spSquare_any al ah ab hal hah E hE
  have HAN : Hid _ := han
  have HR : Hid _ := hr
  clear han hr
  obtain ⟨g0, g1, -, gb⟩ := alloc2_facts w (Obj.cells #[Value.float .f64 al, .float .f64 ah, .bool ab] 24) (Obj.cells #[Value.float .f64 bl, .float .f64 bh, .bool bb] 24)
  have GA : Hid _ := g0
  have GC : Hid _ := g1
  have GB : Hid _ := gb
  clear g0 g1 gb
  go_enter Tryz.func5, Tryz.ntmps5
  go_upto_region 1 with fail
  generalize ((w.alloc (Obj.cells #[Value.float .f64 al, .float .f64 ah, .bool ab] 24)).alloc (Obj.cells #[Value.float .f64 bl, .float .f64 bh, .bool bb] 24)) = W0 at GA GC GB ⊢
  obtain ⟨a0, a1, a2⟩ := cells3 GA.out
  go_wp2_with fail
  refine Calls.mono (of_any4 al ah ab _) ?_
  rintro e w1 ⟨rfl, g1⟩
  have GA1 : Hid _ := keep0 GA.out g1
  have GC1 : Hid _ := keep0 GC.out g1
  have C1 : Hid (Below w.heap.size w w1) := GB.out.trans (g1.mono GB.out.size)
  clear g1 GA GC GB a0 a1 a2
  go_upto_region 2 with fail
  have g2 : Below w1.heap.size w1 (w1.alloc (Obj.cells #[Value.int .u64 (al : Int), .int .u64 (ah : Int), .bool ab] 36)) := (Below.refl _ w1).alloc (Nat.le_refl _) _
  have XA : Hid _ := heap_alloc_new w1 (Obj.cells #[Value.int .u64 (al : Int), .int .u64 (ah : Int), .bool ab] 36)
  have GA2 : Hid _ := keep0 GA1.out g2
  have GC2 : Hid _ := keep0 GC1.out g2
  have C2 : Hid (Below w.heap.size w _) := C1.out.trans (g2.mono C1.out.size)
  clear g2 GA1 GC1 C1
  generalize w1.alloc (Obj.cells #[Value.int .u64 (al : Int), .int .u64 (ah : Int), .bool ab] 36) = W1 at XA GA2 GC2 C2 ⊢
  obtain ⟨a0, a1, a2⟩ := cells3 GC2.out
  go_wp2_with fail
  refine Calls.mono (of_any4 bl bh bb _) ?_
  rintro e w2 ⟨rfl, g1⟩
  have XA3 : Hid _ := keep0 XA.out g1
  have GA3 : Hid _ := keep0 GA2.out g1
  have GC3 : Hid _ := keep0 GC2.out g1
  have C3 : Hid (Below w.heap.size w w2) := C2.out.trans (g1.mono C2.out.size)
  clear g1 XA GA2 GC2 C2 a0 a1 a2
  go_upto_region 3 with fail
  have g2 : Below w2.heap.size w2 (w2.alloc (Obj.cells #[Value.int .u64 (bl : Int), .int .u64 (bh : Int), .bool bb] 36)) := (Below.refl _ w2).alloc (Nat.le_refl _) _
  have YB4 : Hid _ := heap_alloc_new w2 (Obj.cells #[Value.int .u64 (bl : Int), .int .u64 (bh : Int), .bool bb] 36)
  have XA4 : Hid _ := keep0 XA3.out g2
  have GA4 : Hid _ := keep0 GA3.out g2
  have GC4 : Hid _ := keep0 GC3.out g2
  have C4 : Hid (Below w.heap.size w _) := C3.out.trans (g2.mono C3.out.size)
  clear g2 XA3 GA3 GC3 C3
  generalize w2.alloc (Obj.cells #[Value.int .u64 (bl : Int), .int .u64 (bh : Int), .bool bb] 36) = V1 at YB4 XA4 GA4 GC4 C4 ⊢
  go_upto_region 17 with fail
  have hS : ∀ W, Below V1.heap.size V1 W → (W.heap[w.heap.size]? = some (Obj.cells #[Value.float .f64 al, .float .f64 ah, .bool ab] 24) ∧ W.heap[w.heap.size + 1]? = some (Obj.cells #[Value.float .f64 bl, .float .f64 bh, .bool bb] 24) ∧ W.heap[w1.heap.size]? = some (Obj.cells #[Value.int .u64 (al : Int), .int .u64 (ah : Int), .bool ab] 36) ∧ W.heap[w2.heap.size]? = some (Obj.cells #[Value.int .u64 (bl : Int), .int .u64 (bh : Int), .bool bb] 36)) := fun W h => ⟨keep0 GA4.out h, keep0 GC4.out h, keep0 XA4.out h, keep0 YB4.out h⟩
  refine wp_region_noPanic ?_
  refine wp_region_held_drew (S := fun W => W.heap[w.heap.size]? = some (Obj.cells #[Value.float .f64 al, .float .f64 ah, .bool ab] 24) ∧ W.heap[w.heap.size + 1]? = some (Obj.cells #[Value.float .f64 bl, .float .f64 bh, .bool bb] 24) ∧ W.heap[w1.heap.size]? = some (Obj.cells #[Value.int .u64 (al : Int), .int .u64 (ah : Int), .bool ab] 36) ∧ W.heap[w2.heap.size]? = some (Obj.cells #[Value.int .u64 (bl : Int), .int .u64 (bh : Int), .bool bb] 36)) (by kernel_rfl) (hS _ (Below.refl _ _).drew) (fun _ => ?_)
  refine takeH 70 (i := 0) (v := (Value.agg #[Value.float .f64 al, .float .f64 ah, .bool ab])) rfl rfl (by kernel_rfl) (by kernel_rfl) (by kernel_rfl) (fun _ _ _ h => h) (Or.inl ⟨(by kernel_rfl), fun w' hq => ex_loadF _ _ rfl (w.heap.size) (by kernel_rfl) w' _ _ _ (hq.1)⟩) (hS _ (Below.refl _ _).drew) ?_
  refine takeH 72 (i := 2) (v := (Value.agg #[Value.int .u64 (al : Int), .int .u64 (ah : Int), .bool ab])) rfl rfl (by kernel_rfl) (by kernel_rfl) (by kernel_rfl) (fun _ _ _ h => h) (Or.inl ⟨(by kernel_rfl), fun w' hq => ex_loadU _ _ rfl (w1.heap.size) (by kernel_rfl) w' _ _ _ (hq.2.2.1)⟩) (hS _ (Below.refl _ _).drew) ?_
  try (simp only [Act.put, List.setIfInBounds_toArray, List.set_cons_zero, List.set_cons_succ])
  refine wpAnyH_ready (rs := [1]) (by kernel_rfl) (by simp) ?_
  refine consH _ rfl ?_ AllReadyH.nil
  refine hopCd 71 rfl (by kernel_rfl) rfl (by kernel_rfl) (Calls.mono (HAN.out _) ?_)
  rintro e m0 ⟨rfl, g0⟩
  have h0 : Below V1.heap.size V1 m0 := Below.trans ((Below.refl _ _).drew : Below V1.heap.size V1 _) (g0.mono (Below.size ((Below.refl _ _).drew : Below V1.heap.size V1 _)))
  refine ⟨_, rfl, hS _ h0, ?_⟩
  try (simp only [Act.put, List.setIfInBounds_toArray, List.set_cons_zero, List.set_cons_succ])
  refine wpAnyH_ready (rs := [3]) (by kernel_rfl) (by simp) ?_
  refine consH _ rfl ?_ AllReadyH.nil
  refine hopCd 73 rfl (by kernel_rfl) rfl (by kernel_rfl) (Calls.mono (refSquare4_any al ah ab hal hah _ E hE) ?_)
  rintro e m1 ⟨s, rfl, hs, g1⟩
  have h1 : Below V1.heap.size V1 m1 := Below.trans (h0 : Below V1.heap.size V1 _) (g1.mono (Below.size (h0 : Below V1.heap.size V1 _)))
  refine ⟨_, rfl, hS _ h1, ?_⟩
  have hr := HR.out
  obtain rfl : r = s := UnR.uniq (fun _ _ a b => SpR.uniq a b) hr hs
  try (simp only [Act.put, List.setIfInBounds_toArray, List.set_cons_zero, List.set_cons_succ])
  refine wpAnyH_ready (rs := [4]) (by kernel_rfl) (by simp) ?_
  refine consH _ rfl ?_ AllReadyH.nil
  refine hopCd 74 rfl (by kernel_rfl) rfl (by kernel_rfl) (Calls.mono (same_any4 r.1 r.2.1 r.2.2 _) ?_)
  rintro e m2 ⟨rfl, g2⟩
  have h2 : Below V1.heap.size V1 m2 := Below.trans (h1 : Below V1.heap.size V1 _) (g2.mono (Below.size (h1 : Below V1.heap.size V1 _)))
  refine ⟨_, rfl, hS _ h2, ?_⟩
  try (simp only [Act.put, List.setIfInBounds_toArray, List.set_cons_zero, List.set_cons_succ])
  refine takeH 8 (i := 5) (v := .bool true) rfl rfl (by kernel_rfl) (by kernel_rfl) (by kernel_rfl) (fun _ _ _ h => h) (Or.inl ⟨(by kernel_rfl), fun w' _ => by kernel_rfl⟩) (hS _ h2) ?_
  refine wpAnyH_done (by kernel_rfl) ?_ _
  refine NoPanic.normal ?_
  try (simp only [Act.put, List.setIfInBounds_toArray, List.set_cons_zero, List.set_cons_succ])
  go_wp2_with fail
  go_ret
  exact ⟨rfl, C4.out.trans (h2.mono C4.out.size)⟩
set_option maxRecDepth 100000 in
set_option maxHeartbeats 8000000 in
theorem one74_any (al ah bl bh : Nat) (ab bb : Bool) (n : Int) (hal : al < 18446744073709551616) (hah : ah < 18446744073709551616) (hbl : bl < 18446744073709551616) (hbh : bh < 18446744073709551616) (w : World) (E : Nat) (hE : E = 1074) :
    Calls Tryz.prog 5 #[.int .i64 7, .agg #[Value.float .f64 al, .float .f64 ah, .bool ab], .agg #[Value.float .f64 bl, .float .f64 bh, .bool bb], .int .i64 n] w fun e w' => e = .returned (.bool true) ∧ Below w.heap.size w w' := by
  obtain ⟨r, hr, han⟩ := spMax_any al ah bl bh ab bb hal hah hbl hbh
  have HAN : Hid _ := han
  have HR : Hid _ := hr
  clear han hr
  obtain ⟨g0, g1, -, gb⟩ := alloc2_facts w (Obj.cells #[Value.float .f64 al, .float .f64 ah, .bool ab] 24) (Obj.cells #[Value.float .f64 bl, .float .f64 bh, .bool bb] 24)
  have GA : Hid _ := g0
  have GC : Hid _ := g1
  have GB : Hid _ := gb
  clear g0 g1 gb
  go_enter Tryz.func5, Tryz.ntmps5
  go_upto_region 1 with fail
  generalize ((w.alloc (Obj.cells #[Value.float .f64 al, .float .f64 ah, .bool ab] 24)).alloc (Obj.cells #[Value.float .f64 bl, .float .f64 bh, .bool bb] 24)) = W0 at GA GC GB ⊢
  obtain ⟨a0, a1, a2⟩ := cells3 GA.out
  go_wp2_with fail
  refine Calls.mono (of_any4 al ah ab _) ?_
  rintro e w1 ⟨rfl, g1⟩
  have GA1 : Hid _ := keep0 GA.out g1
  have GC1 : Hid _ := keep0 GC.out g1
  have C1 : Hid (Below w.heap.size w w1) := GB.out.trans (g1.mono GB.out.size)
  clear g1 GA GC GB a0 a1 a2
  go_upto_region 2 with fail
  have g2 : Below w1.heap.size w1 (w1.alloc (Obj.cells #[Value.int .u64 (al : Int), .int .u64 (ah : Int), .bool ab] 36)) := (Below.refl _ w1).alloc (Nat.le_refl _) _
  have XA : Hid _ := heap_alloc_new w1 (Obj.cells #[Value.int .u64 (al : Int), .int .u64 (ah : Int), .bool ab] 36)
  have GA2 : Hid _ := keep0 GA1.out g2
  have GC2 : Hid _ := keep0 GC1.out g2
  have C2 : Hid (Below w.heap.size w _) := C1.out.trans (g2.mono C1.out.size)
  clear g2 GA1 GC1 C1
  generalize w1.alloc (Obj.cells #[Value.int .u64 (al : Int), .int .u64 (ah : Int), .bool ab] 36) = W1 at XA GA2 GC2 C2 ⊢
  obtain ⟨a0, a1, a2⟩ := cells3 GC2.out
  go_wp2_with fail
  refine Calls.mono (of_any4 bl bh bb _) ?_
  rintro e w2 ⟨rfl, g1⟩
  have XA3 : Hid _ := keep0 XA.out g1
  have GA3 : Hid _ := keep0 GA2.out g1
  have GC3 : Hid _ := keep0 GC2.out g1
  have C3 : Hid (Below w.heap.size w w2) := C2.out.trans (g1.mono C2.out.size)
  clear g1 XA GA2 GC2 C2 a0 a1 a2
  go_upto_region 3 with fail
  have g2 : Below w2.heap.size w2 (w2.alloc (Obj.cells #[Value.int .u64 (bl : Int), .int .u64 (bh : Int), .bool bb] 36)) := (Below.refl _ w2).alloc (Nat.le_refl _) _
  have YB4 : Hid _ := heap_alloc_new w2 (Obj.cells #[Value.int .u64 (bl : Int), .int .u64 (bh : Int), .bool bb] 36)
  have XA4 : Hid _ := keep0 XA3.out g2
  have GA4 : Hid _ := keep0 GA3.out g2
  have GC4 : Hid _ := keep0 GC3.out g2
  have C4 : Hid (Below w.heap.size w _) := C3.out.trans (g2.mono C3.out.size)
  clear g2 XA3 GA3 GC3 C3
  generalize w2.alloc (Obj.cells #[Value.int .u64 (bl : Int), .int .u64 (bh : Int), .bool bb] 36) = V1 at YB4 XA4 GA4 GC4 C4 ⊢
  go_upto_region 19 with fail
  have hS : ∀ W, Below V1.heap.size V1 W → (W.heap[w.heap.size]? = some (Obj.cells #[Value.float .f64 al, .float .f64 ah, .bool ab] 24) ∧ W.heap[w.heap.size + 1]? = some (Obj.cells #[Value.float .f64 bl, .float .f64 bh, .bool bb] 24) ∧ W.heap[w1.heap.size]? = some (Obj.cells #[Value.int .u64 (al : Int), .int .u64 (ah : Int), .bool ab] 36) ∧ W.heap[w2.heap.size]? = some (Obj.cells #[Value.int .u64 (bl : Int), .int .u64 (bh : Int), .bool bb] 36)) := fun W h => ⟨keep0 GA4.out h, keep0 GC4.out h, keep0 XA4.out h, keep0 YB4.out h⟩
  refine wp_region_noPanic ?_
  refine wp_region_held_drew (S := fun W => W.heap[w.heap.size]? = some (Obj.cells #[Value.float .f64 al, .float .f64 ah, .bool ab] 24) ∧ W.heap[w.heap.size + 1]? = some (Obj.cells #[Value.float .f64 bl, .float .f64 bh, .bool bb] 24) ∧ W.heap[w1.heap.size]? = some (Obj.cells #[Value.int .u64 (al : Int), .int .u64 (ah : Int), .bool ab] 36) ∧ W.heap[w2.heap.size]? = some (Obj.cells #[Value.int .u64 (bl : Int), .int .u64 (bh : Int), .bool bb] 36)) (by kernel_rfl) (hS _ (Below.refl _ _).drew) (fun _ => ?_)
  refine takeH 77 (i := 0) (v := (Value.agg #[Value.float .f64 al, .float .f64 ah, .bool ab])) rfl rfl (by kernel_rfl) (by kernel_rfl) (by kernel_rfl) (fun _ _ _ h => h) (Or.inl ⟨(by kernel_rfl), fun w' hq => ex_loadF _ _ rfl (w.heap.size) (by kernel_rfl) w' _ _ _ (hq.1)⟩) (hS _ (Below.refl _ _).drew) ?_
  refine takeH 78 (i := 1) (v := (Value.agg #[Value.float .f64 bl, .float .f64 bh, .bool bb])) rfl rfl (by kernel_rfl) (by kernel_rfl) (by kernel_rfl) (fun _ _ _ h => h) (Or.inl ⟨(by kernel_rfl), fun w' hq => ex_loadF _ _ rfl (w.heap.size + 1) (by kernel_rfl) w' _ _ _ (hq.2.1)⟩) (hS _ (Below.refl _ _).drew) ?_
  refine takeH 80 (i := 3) (v := (Value.agg #[Value.int .u64 (al : Int), .int .u64 (ah : Int), .bool ab])) rfl rfl (by kernel_rfl) (by kernel_rfl) (by kernel_rfl) (fun _ _ _ h => h) (Or.inl ⟨(by kernel_rfl), fun w' hq => ex_loadU _ _ rfl (w1.heap.size) (by kernel_rfl) w' _ _ _ (hq.2.2.1)⟩) (hS _ (Below.refl _ _).drew) ?_
  refine takeH 81 (i := 4) (v := (Value.agg #[Value.int .u64 (bl : Int), .int .u64 (bh : Int), .bool bb])) rfl rfl (by kernel_rfl) (by kernel_rfl) (by kernel_rfl) (fun _ _ _ h => h) (Or.inl ⟨(by kernel_rfl), fun w' hq => ex_loadU _ _ rfl (w2.heap.size) (by kernel_rfl) w' _ _ _ (hq.2.2.2)⟩) (hS _ (Below.refl _ _).drew) ?_
  try (simp only [Act.put, List.setIfInBounds_toArray, List.set_cons_zero, List.set_cons_succ])
  refine wpAnyH_ready (rs := [2]) (by kernel_rfl) (by simp) ?_
  refine consH _ rfl ?_ AllReadyH.nil
  refine hopCd 79 rfl (by kernel_rfl) rfl (by kernel_rfl) (Calls.mono (HAN.out _) ?_)
  rintro e m0 ⟨rfl, g0⟩
  have h0 : Below V1.heap.size V1 m0 := Below.trans ((Below.refl _ _).drew : Below V1.heap.size V1 _) (g0.mono (Below.size ((Below.refl _ _).drew : Below V1.heap.size V1 _)))
  refine ⟨_, rfl, hS _ h0, ?_⟩
  try (simp only [Act.put, List.setIfInBounds_toArray, List.set_cons_zero, List.set_cons_succ])
  refine wpAnyH_ready (rs := [5]) (by kernel_rfl) (by simp) ?_
  refine consH _ rfl ?_ AllReadyH.nil
  refine hopCd 82 rfl (by kernel_rfl) rfl (by kernel_rfl) (Calls.mono (refMax_any al ah bl bh ab bb hal hah hbl hbh _ E hE) ?_)
  rintro e m1 ⟨s, rfl, hs, g1⟩
  have h1 : Below V1.heap.size V1 m1 := Below.trans (h0 : Below V1.heap.size V1 _) (g1.mono (Below.size (h0 : Below V1.heap.size V1 _)))
  refine ⟨_, rfl, hS _ h1, ?_⟩
  have hr := HR.out
  obtain rfl : r = s := BinR.uniq (fun _ _ a b => MkR.uniq a b) hr (mk_of (fun hg => by have h1 := (srung_le al ah).1 hg.1.2.2.2; have h2 := (srung_le bl bh).1 hg.2.2.2.2; omega) hs)
  try (simp only [Act.put, List.setIfInBounds_toArray, List.set_cons_zero, List.set_cons_succ])
  refine wpAnyH_ready (rs := [6]) (by kernel_rfl) (by simp) ?_
  refine consH _ rfl ?_ AllReadyH.nil
  refine hopCd 83 rfl (by kernel_rfl) rfl (by kernel_rfl) (Calls.mono (same_any4 r.1 r.2.1 r.2.2 _) ?_)
  rintro e m2 ⟨rfl, g2⟩
  have h2 : Below V1.heap.size V1 m2 := Below.trans (h1 : Below V1.heap.size V1 _) (g2.mono (Below.size (h1 : Below V1.heap.size V1 _)))
  refine ⟨_, rfl, hS _ h2, ?_⟩
  try (simp only [Act.put, List.setIfInBounds_toArray, List.set_cons_zero, List.set_cons_succ])
  refine takeH 8 (i := 7) (v := .bool true) rfl rfl (by kernel_rfl) (by kernel_rfl) (by kernel_rfl) (fun _ _ _ h => h) (Or.inl ⟨(by kernel_rfl), fun w' _ => by kernel_rfl⟩) (hS _ h2) ?_
  refine wpAnyH_done (by kernel_rfl) ?_ _
  refine NoPanic.normal ?_
  try (simp only [Act.put, List.setIfInBounds_toArray, List.set_cons_zero, List.set_cons_succ])
  go_wp2_with fail
  go_ret
  exact ⟨rfl, C4.out.trans (h2.mono C4.out.size)⟩
set_option maxRecDepth 100000 in
set_option maxHeartbeats 8000000 in
theorem one84_any (al ah bl bh : Nat) (ab bb : Bool) (n : Int) (hal : al < 18446744073709551616) (hah : ah < 18446744073709551616) (hbl : bl < 18446744073709551616) (hbh : bh < 18446744073709551616) (w : World) (E : Nat) (hE : E = 1074) :
    Calls Tryz.prog 5 #[.int .i64 8, .agg #[Value.float .f64 al, .float .f64 ah, .bool ab], .agg #[Value.float .f64 bl, .float .f64 bh, .bool bb], .int .i64 n] w fun e w' => e = .returned (.bool true) ∧ Below w.heap.size w w' := by
  obtain ⟨r, hr, han⟩ := spHull_any al ah bl bh ab bb hal hah hbl hbh
  have HAN : Hid _ := han
  have HR : Hid _ := hr
  clear han hr
  obtain ⟨g0, g1, -, gb⟩ := alloc2_facts w (Obj.cells #[Value.float .f64 al, .float .f64 ah, .bool ab] 24) (Obj.cells #[Value.float .f64 bl, .float .f64 bh, .bool bb] 24)
  have GA : Hid _ := g0
  have GC : Hid _ := g1
  have GB : Hid _ := gb
  clear g0 g1 gb
  go_enter Tryz.func5, Tryz.ntmps5
  go_upto_region 1 with fail
  generalize ((w.alloc (Obj.cells #[Value.float .f64 al, .float .f64 ah, .bool ab] 24)).alloc (Obj.cells #[Value.float .f64 bl, .float .f64 bh, .bool bb] 24)) = W0 at GA GC GB ⊢
  obtain ⟨a0, a1, a2⟩ := cells3 GA.out
  go_wp2_with fail
  refine Calls.mono (of_any4 al ah ab _) ?_
  rintro e w1 ⟨rfl, g1⟩
  have GA1 : Hid _ := keep0 GA.out g1
  have GC1 : Hid _ := keep0 GC.out g1
  have C1 : Hid (Below w.heap.size w w1) := GB.out.trans (g1.mono GB.out.size)
  clear g1 GA GC GB a0 a1 a2
  go_upto_region 2 with fail
  have g2 : Below w1.heap.size w1 (w1.alloc (Obj.cells #[Value.int .u64 (al : Int), .int .u64 (ah : Int), .bool ab] 36)) := (Below.refl _ w1).alloc (Nat.le_refl _) _
  have XA : Hid _ := heap_alloc_new w1 (Obj.cells #[Value.int .u64 (al : Int), .int .u64 (ah : Int), .bool ab] 36)
  have GA2 : Hid _ := keep0 GA1.out g2
  have GC2 : Hid _ := keep0 GC1.out g2
  have C2 : Hid (Below w.heap.size w _) := C1.out.trans (g2.mono C1.out.size)
  clear g2 GA1 GC1 C1
  generalize w1.alloc (Obj.cells #[Value.int .u64 (al : Int), .int .u64 (ah : Int), .bool ab] 36) = W1 at XA GA2 GC2 C2 ⊢
  obtain ⟨a0, a1, a2⟩ := cells3 GC2.out
  go_wp2_with fail
  refine Calls.mono (of_any4 bl bh bb _) ?_
  rintro e w2 ⟨rfl, g1⟩
  have XA3 : Hid _ := keep0 XA.out g1
  have GA3 : Hid _ := keep0 GA2.out g1
  have GC3 : Hid _ := keep0 GC2.out g1
  have C3 : Hid (Below w.heap.size w w2) := C2.out.trans (g1.mono C2.out.size)
  clear g1 XA GA2 GC2 C2 a0 a1 a2
  go_upto_region 3 with fail
  have g2 : Below w2.heap.size w2 (w2.alloc (Obj.cells #[Value.int .u64 (bl : Int), .int .u64 (bh : Int), .bool bb] 36)) := (Below.refl _ w2).alloc (Nat.le_refl _) _
  have YB4 : Hid _ := heap_alloc_new w2 (Obj.cells #[Value.int .u64 (bl : Int), .int .u64 (bh : Int), .bool bb] 36)
  have XA4 : Hid _ := keep0 XA3.out g2
  have GA4 : Hid _ := keep0 GA3.out g2
  have GC4 : Hid _ := keep0 GC3.out g2
  have C4 : Hid (Below w.heap.size w _) := C3.out.trans (g2.mono C3.out.size)
  clear g2 XA3 GA3 GC3 C3
  generalize w2.alloc (Obj.cells #[Value.int .u64 (bl : Int), .int .u64 (bh : Int), .bool bb] 36) = V1 at YB4 XA4 GA4 GC4 C4 ⊢
  go_upto_region 21 with fail
  have hS : ∀ W, Below V1.heap.size V1 W → (W.heap[w.heap.size]? = some (Obj.cells #[Value.float .f64 al, .float .f64 ah, .bool ab] 24) ∧ W.heap[w.heap.size + 1]? = some (Obj.cells #[Value.float .f64 bl, .float .f64 bh, .bool bb] 24) ∧ W.heap[w1.heap.size]? = some (Obj.cells #[Value.int .u64 (al : Int), .int .u64 (ah : Int), .bool ab] 36) ∧ W.heap[w2.heap.size]? = some (Obj.cells #[Value.int .u64 (bl : Int), .int .u64 (bh : Int), .bool bb] 36)) := fun W h => ⟨keep0 GA4.out h, keep0 GC4.out h, keep0 XA4.out h, keep0 YB4.out h⟩
  refine wp_region_noPanic ?_
  refine wp_region_held_drew (S := fun W => W.heap[w.heap.size]? = some (Obj.cells #[Value.float .f64 al, .float .f64 ah, .bool ab] 24) ∧ W.heap[w.heap.size + 1]? = some (Obj.cells #[Value.float .f64 bl, .float .f64 bh, .bool bb] 24) ∧ W.heap[w1.heap.size]? = some (Obj.cells #[Value.int .u64 (al : Int), .int .u64 (ah : Int), .bool ab] 36) ∧ W.heap[w2.heap.size]? = some (Obj.cells #[Value.int .u64 (bl : Int), .int .u64 (bh : Int), .bool bb] 36)) (by kernel_rfl) (hS _ (Below.refl _ _).drew) (fun _ => ?_)
  refine takeH 86 (i := 0) (v := (Value.agg #[Value.float .f64 al, .float .f64 ah, .bool ab])) rfl rfl (by kernel_rfl) (by kernel_rfl) (by kernel_rfl) (fun _ _ _ h => h) (Or.inl ⟨(by kernel_rfl), fun w' hq => ex_loadF _ _ rfl (w.heap.size) (by kernel_rfl) w' _ _ _ (hq.1)⟩) (hS _ (Below.refl _ _).drew) ?_
  refine takeH 87 (i := 1) (v := (Value.agg #[Value.float .f64 bl, .float .f64 bh, .bool bb])) rfl rfl (by kernel_rfl) (by kernel_rfl) (by kernel_rfl) (fun _ _ _ h => h) (Or.inl ⟨(by kernel_rfl), fun w' hq => ex_loadF _ _ rfl (w.heap.size + 1) (by kernel_rfl) w' _ _ _ (hq.2.1)⟩) (hS _ (Below.refl _ _).drew) ?_
  refine takeH 89 (i := 3) (v := (Value.agg #[Value.int .u64 (al : Int), .int .u64 (ah : Int), .bool ab])) rfl rfl (by kernel_rfl) (by kernel_rfl) (by kernel_rfl) (fun _ _ _ h => h) (Or.inl ⟨(by kernel_rfl), fun w' hq => ex_loadU _ _ rfl (w1.heap.size) (by kernel_rfl) w' _ _ _ (hq.2.2.1)⟩) (hS _ (Below.refl _ _).drew) ?_
  refine takeH 90 (i := 4) (v := (Value.agg #[Value.int .u64 (bl : Int), .int .u64 (bh : Int), .bool bb])) rfl rfl (by kernel_rfl) (by kernel_rfl) (by kernel_rfl) (fun _ _ _ h => h) (Or.inl ⟨(by kernel_rfl), fun w' hq => ex_loadU _ _ rfl (w2.heap.size) (by kernel_rfl) w' _ _ _ (hq.2.2.2)⟩) (hS _ (Below.refl _ _).drew) ?_
  try (simp only [Act.put, List.setIfInBounds_toArray, List.set_cons_zero, List.set_cons_succ])
  refine wpAnyH_ready (rs := [2]) (by kernel_rfl) (by simp) ?_
  refine consH _ rfl ?_ AllReadyH.nil
  refine hopCd 88 rfl (by kernel_rfl) rfl (by kernel_rfl) (Calls.mono (HAN.out _) ?_)
  rintro e m0 ⟨rfl, g0⟩
  have h0 : Below V1.heap.size V1 m0 := Below.trans ((Below.refl _ _).drew : Below V1.heap.size V1 _) (g0.mono (Below.size ((Below.refl _ _).drew : Below V1.heap.size V1 _)))
  refine ⟨_, rfl, hS _ h0, ?_⟩
  try (simp only [Act.put, List.setIfInBounds_toArray, List.set_cons_zero, List.set_cons_succ])
  refine wpAnyH_ready (rs := [5]) (by kernel_rfl) (by simp) ?_
  refine consH _ rfl ?_ AllReadyH.nil
  refine hopCd 91 rfl (by kernel_rfl) rfl (by kernel_rfl) (Calls.mono (refHull_any al ah bl bh ab bb hal hah hbl hbh _ E hE) ?_)
  rintro e m1 ⟨s, rfl, hs, g1⟩
  have h1 : Below V1.heap.size V1 m1 := Below.trans (h0 : Below V1.heap.size V1 _) (g1.mono (Below.size (h0 : Below V1.heap.size V1 _)))
  refine ⟨_, rfl, hS _ h1, ?_⟩
  have hr := HR.out
  obtain rfl : r = s := BinR.uniq (fun _ _ a b => MkR.uniq a b) hr (mk_of (fun hg => by have h1 := (srung_le al ah).1 hg.1.2.2.2; have h2 := (srung_le bl bh).1 hg.2.2.2.2; omega) hs)
  try (simp only [Act.put, List.setIfInBounds_toArray, List.set_cons_zero, List.set_cons_succ])
  refine wpAnyH_ready (rs := [6]) (by kernel_rfl) (by simp) ?_
  refine consH _ rfl ?_ AllReadyH.nil
  refine hopCd 92 rfl (by kernel_rfl) rfl (by kernel_rfl) (Calls.mono (same_any4 r.1 r.2.1 r.2.2 _) ?_)
  rintro e m2 ⟨rfl, g2⟩
  have h2 : Below V1.heap.size V1 m2 := Below.trans (h1 : Below V1.heap.size V1 _) (g2.mono (Below.size (h1 : Below V1.heap.size V1 _)))
  refine ⟨_, rfl, hS _ h2, ?_⟩
  try (simp only [Act.put, List.setIfInBounds_toArray, List.set_cons_zero, List.set_cons_succ])
  refine takeH 8 (i := 7) (v := .bool true) rfl rfl (by kernel_rfl) (by kernel_rfl) (by kernel_rfl) (fun _ _ _ h => h) (Or.inl ⟨(by kernel_rfl), fun w' _ => by kernel_rfl⟩) (hS _ h2) ?_
  refine wpAnyH_done (by kernel_rfl) ?_ _
  refine NoPanic.normal ?_
  try (simp only [Act.put, List.setIfInBounds_toArray, List.set_cons_zero, List.set_cons_succ])
  go_wp2_with fail
  go_ret
  exact ⟨rfl, C4.out.trans (h2.mono C4.out.size)⟩
set_option maxRecDepth 100000 in
set_option maxHeartbeats 8000000 in
theorem one94_any (al ah bl bh : Nat) (ab bb : Bool) (n : Int) (hal : al < 18446744073709551616) (hah : ah < 18446744073709551616) (hbl : bl < 18446744073709551616) (hbh : bh < 18446744073709551616) (w : World) (E : Nat) (hE : E = 1074) :
    Calls Tryz.prog 5 #[.int .i64 9, .agg #[Value.float .f64 al, .float .f64 ah, .bool ab], .agg #[Value.float .f64 bl, .float .f64 bh, .bool bb], .int .i64 n] w fun e w' => e = .returned (.bool true) ∧ Below w.heap.size w w' := by
  obtain ⟨r, hr, han⟩ := spMeet_any al ah bl bh ab bb hal hah hbl hbh
  have HAN : Hid _ := han
  have HR : Hid _ := hr
  clear han hr
  obtain ⟨g0, g1, -, gb⟩ := alloc2_facts w (Obj.cells #[Value.float .f64 al, .float .f64 ah, .bool ab] 24) (Obj.cells #[Value.float .f64 bl, .float .f64 bh, .bool bb] 24)
  have GA : Hid _ := g0
  have GC : Hid _ := g1
  have GB : Hid _ := gb
  clear g0 g1 gb
  go_enter Tryz.func5, Tryz.ntmps5
  go_upto_region 1 with fail
  generalize ((w.alloc (Obj.cells #[Value.float .f64 al, .float .f64 ah, .bool ab] 24)).alloc (Obj.cells #[Value.float .f64 bl, .float .f64 bh, .bool bb] 24)) = W0 at GA GC GB ⊢
  obtain ⟨a0, a1, a2⟩ := cells3 GA.out
  go_wp2_with fail
  refine Calls.mono (of_any4 al ah ab _) ?_
  rintro e w1 ⟨rfl, g1⟩
  have GA1 : Hid _ := keep0 GA.out g1
  have GC1 : Hid _ := keep0 GC.out g1
  have C1 : Hid (Below w.heap.size w w1) := GB.out.trans (g1.mono GB.out.size)
  clear g1 GA GC GB a0 a1 a2
  go_upto_region 2 with fail
  have g2 : Below w1.heap.size w1 (w1.alloc (Obj.cells #[Value.int .u64 (al : Int), .int .u64 (ah : Int), .bool ab] 36)) := (Below.refl _ w1).alloc (Nat.le_refl _) _
  have XA : Hid _ := heap_alloc_new w1 (Obj.cells #[Value.int .u64 (al : Int), .int .u64 (ah : Int), .bool ab] 36)
  have GA2 : Hid _ := keep0 GA1.out g2
  have GC2 : Hid _ := keep0 GC1.out g2
  have C2 : Hid (Below w.heap.size w _) := C1.out.trans (g2.mono C1.out.size)
  clear g2 GA1 GC1 C1
  generalize w1.alloc (Obj.cells #[Value.int .u64 (al : Int), .int .u64 (ah : Int), .bool ab] 36) = W1 at XA GA2 GC2 C2 ⊢
  obtain ⟨a0, a1, a2⟩ := cells3 GC2.out
  go_wp2_with fail
  refine Calls.mono (of_any4 bl bh bb _) ?_
  rintro e w2 ⟨rfl, g1⟩
  have XA3 : Hid _ := keep0 XA.out g1
  have GA3 : Hid _ := keep0 GA2.out g1
  have GC3 : Hid _ := keep0 GC2.out g1
  have C3 : Hid (Below w.heap.size w w2) := C2.out.trans (g1.mono C2.out.size)
  clear g1 XA GA2 GC2 C2 a0 a1 a2
  go_upto_region 3 with fail
  have g2 : Below w2.heap.size w2 (w2.alloc (Obj.cells #[Value.int .u64 (bl : Int), .int .u64 (bh : Int), .bool bb] 36)) := (Below.refl _ w2).alloc (Nat.le_refl _) _
  have YB4 : Hid _ := heap_alloc_new w2 (Obj.cells #[Value.int .u64 (bl : Int), .int .u64 (bh : Int), .bool bb] 36)
  have XA4 : Hid _ := keep0 XA3.out g2
  have GA4 : Hid _ := keep0 GA3.out g2
  have GC4 : Hid _ := keep0 GC3.out g2
  have C4 : Hid (Below w.heap.size w _) := C3.out.trans (g2.mono C3.out.size)
  clear g2 XA3 GA3 GC3 C3
  generalize w2.alloc (Obj.cells #[Value.int .u64 (bl : Int), .int .u64 (bh : Int), .bool bb] 36) = V1 at YB4 XA4 GA4 GC4 C4 ⊢
  go_upto_region 22 with fail
  have hS : ∀ W, Below V1.heap.size V1 W → (W.heap[w.heap.size]? = some (Obj.cells #[Value.float .f64 al, .float .f64 ah, .bool ab] 24) ∧ W.heap[w.heap.size + 1]? = some (Obj.cells #[Value.float .f64 bl, .float .f64 bh, .bool bb] 24) ∧ W.heap[w1.heap.size]? = some (Obj.cells #[Value.int .u64 (al : Int), .int .u64 (ah : Int), .bool ab] 36) ∧ W.heap[w2.heap.size]? = some (Obj.cells #[Value.int .u64 (bl : Int), .int .u64 (bh : Int), .bool bb] 36)) := fun W h => ⟨keep0 GA4.out h, keep0 GC4.out h, keep0 XA4.out h, keep0 YB4.out h⟩
  refine wp_region_noPanic ?_
  refine wp_region_held_drew (S := fun W => W.heap[w.heap.size]? = some (Obj.cells #[Value.float .f64 al, .float .f64 ah, .bool ab] 24) ∧ W.heap[w.heap.size + 1]? = some (Obj.cells #[Value.float .f64 bl, .float .f64 bh, .bool bb] 24) ∧ W.heap[w1.heap.size]? = some (Obj.cells #[Value.int .u64 (al : Int), .int .u64 (ah : Int), .bool ab] 36) ∧ W.heap[w2.heap.size]? = some (Obj.cells #[Value.int .u64 (bl : Int), .int .u64 (bh : Int), .bool bb] 36)) (by kernel_rfl) (hS _ (Below.refl _ _).drew) (fun _ => ?_)
  refine takeH 93 (i := 0) (v := (Value.agg #[Value.float .f64 al, .float .f64 ah, .bool ab])) rfl rfl (by kernel_rfl) (by kernel_rfl) (by kernel_rfl) (fun _ _ _ h => h) (Or.inl ⟨(by kernel_rfl), fun w' hq => ex_loadF _ _ rfl (w.heap.size) (by kernel_rfl) w' _ _ _ (hq.1)⟩) (hS _ (Below.refl _ _).drew) ?_
  refine takeH 94 (i := 1) (v := (Value.agg #[Value.float .f64 bl, .float .f64 bh, .bool bb])) rfl rfl (by kernel_rfl) (by kernel_rfl) (by kernel_rfl) (fun _ _ _ h => h) (Or.inl ⟨(by kernel_rfl), fun w' hq => ex_loadF _ _ rfl (w.heap.size + 1) (by kernel_rfl) w' _ _ _ (hq.2.1)⟩) (hS _ (Below.refl _ _).drew) ?_
  refine takeH 96 (i := 3) (v := (Value.agg #[Value.int .u64 (al : Int), .int .u64 (ah : Int), .bool ab])) rfl rfl (by kernel_rfl) (by kernel_rfl) (by kernel_rfl) (fun _ _ _ h => h) (Or.inl ⟨(by kernel_rfl), fun w' hq => ex_loadU _ _ rfl (w1.heap.size) (by kernel_rfl) w' _ _ _ (hq.2.2.1)⟩) (hS _ (Below.refl _ _).drew) ?_
  refine takeH 97 (i := 4) (v := (Value.agg #[Value.int .u64 (bl : Int), .int .u64 (bh : Int), .bool bb])) rfl rfl (by kernel_rfl) (by kernel_rfl) (by kernel_rfl) (fun _ _ _ h => h) (Or.inl ⟨(by kernel_rfl), fun w' hq => ex_loadU _ _ rfl (w2.heap.size) (by kernel_rfl) w' _ _ _ (hq.2.2.2)⟩) (hS _ (Below.refl _ _).drew) ?_
  try (simp only [Act.put, List.setIfInBounds_toArray, List.set_cons_zero, List.set_cons_succ])
  refine wpAnyH_ready (rs := [2]) (by kernel_rfl) (by simp) ?_
  refine consH _ rfl ?_ AllReadyH.nil
  refine hopCd 95 rfl (by kernel_rfl) rfl (by kernel_rfl) (Calls.mono (HAN.out _) ?_)
  rintro e m0 ⟨rfl, g0⟩
  have h0 : Below V1.heap.size V1 m0 := Below.trans ((Below.refl _ _).drew : Below V1.heap.size V1 _) (g0.mono (Below.size ((Below.refl _ _).drew : Below V1.heap.size V1 _)))
  refine ⟨_, rfl, hS _ h0, ?_⟩
  try (simp only [Act.put, List.setIfInBounds_toArray, List.set_cons_zero, List.set_cons_succ])
  refine wpAnyH_ready (rs := [5]) (by kernel_rfl) (by simp) ?_
  refine consH _ rfl ?_ AllReadyH.nil
  refine hopCd 98 rfl (by kernel_rfl) rfl (by kernel_rfl) (Calls.mono (refMeet_any al ah bl bh ab bb hal hah hbl hbh _ E hE) ?_)
  rintro e m1 ⟨s, rfl, hs, g1⟩
  have h1 : Below V1.heap.size V1 m1 := Below.trans (h0 : Below V1.heap.size V1 _) (g1.mono (Below.size (h0 : Below V1.heap.size V1 _)))
  refine ⟨_, rfl, hS _ h1, ?_⟩
  have hr := HR.out
  obtain rfl : r = s := BinR.uniq (fun _ _ a b => MkR.uniq a b) hr hs
  try (simp only [Act.put, List.setIfInBounds_toArray, List.set_cons_zero, List.set_cons_succ])
  refine wpAnyH_ready (rs := [6]) (by kernel_rfl) (by simp) ?_
  refine consH _ rfl ?_ AllReadyH.nil
  refine hopCd 99 rfl (by kernel_rfl) rfl (by kernel_rfl) (Calls.mono (same_any4 r.1 r.2.1 r.2.2 _) ?_)
  rintro e m2 ⟨rfl, g2⟩
  have h2 : Below V1.heap.size V1 m2 := Below.trans (h1 : Below V1.heap.size V1 _) (g2.mono (Below.size (h1 : Below V1.heap.size V1 _)))
  refine ⟨_, rfl, hS _ h2, ?_⟩
  try (simp only [Act.put, List.setIfInBounds_toArray, List.set_cons_zero, List.set_cons_succ])
  refine takeH 8 (i := 7) (v := .bool true) rfl rfl (by kernel_rfl) (by kernel_rfl) (by kernel_rfl) (fun _ _ _ h => h) (Or.inl ⟨(by kernel_rfl), fun w' _ => by kernel_rfl⟩) (hS _ h2) ?_
  refine wpAnyH_done (by kernel_rfl) ?_ _
  refine NoPanic.normal ?_
  try (simp only [Act.put, List.setIfInBounds_toArray, List.set_cons_zero, List.set_cons_succ])
  go_wp2_with fail
  go_ret
  exact ⟨rfl, C4.out.trans (h2.mono C4.out.size)⟩
end Go.Proofs.YtnjjichanfpbhaaGreat
