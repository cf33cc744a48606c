import Derived.Test.YtigaggkipmcgeaaZJ
namespace Go.Proofs.Ytigaggkipmcgeaa
open Go.RowKit
set_option linter.unusedVariables false

theorem sp_m1 : makeS 13835058055282163712 4613937818241073152 = (13835058055282163712, 4613937818241073152, false) := by decide
theorem sp_m2 : makeS 13840687554816376832 4619567317775286272 = (13840687554816376832, 4619567317775286272, false) := by decide
theorem sp_m3 : makeS 4607182418800017408 4611686018427387904 = (4607182418800017408, 4611686018427387904, false) := by decide
theorem sp_m4 : makeS 4613937818241073152 4616189618054758400 = (4613937818241073152, 4616189618054758400, false) := by decide
theorem sp_m5 : makeS 4607182418800017408 4607182418800017408 = (4607182418800017408, 4607182418800017408, false) := by decide
theorem sp_m6 : makeS 13830554455654793216 4607182418800017408 = (13830554455654793216, 4607182418800017408, false) := by decide
theorem sp_a : MulR 13835058055282163712 4613937818241073152 13840687554816376832 4619567317775286272 false false 1074 (13848005904210853888, 4626604192193052672, false) := by
  unfold MulR
  rw [if_pos (by decide)]
  exact ⟨(13848005904210853888, true), (4626604192193052672, true), ⟨4624633867356078080, ⟨by decide +kernel, by decide +kernel⟩, by decide +kernel⟩, ⟨4626604192193052672, ⟨by decide +kernel, by decide +kernel⟩, by decide +kernel⟩, by decide⟩
theorem sp_b : DivR 4607182418800017408 4611686018427387904 4613937818241073152 4616189618054758400 false false 1074 (4598175219545276416, 4604180019048437078, false) := by
  unfold DivR
  rw [if_pos (by decide)]
  exact ⟨(4598175219545276416, true), (4604180019048437078, true), ⟨4598175219545276416, ⟨by decide +kernel, by decide +kernel⟩, by decide +kernel⟩, ⟨4604180019048437077, ⟨by decide +kernel, by decide +kernel⟩, by decide +kernel⟩, by decide⟩
theorem sp_c : DivR 4607182418800017408 4607182418800017408 13830554455654793216 4607182418800017408 false false 1074 (0, 0, true) := by
  unfold DivR
  rw [if_neg (by decide)]
theorem make_at {lo hi : Nat} (hlo : lo < 18446744073709551616) (hhi : hi < 18446744073709551616) {r : Nat × Nat × Bool} (h : makeS lo hi = r) : Ans 31 #[.float .f64 lo, .float .f64 hi] r := by
  intro w; have := make_any lo hi hlo hhi w; rw [h] at this; exact this
set_option maxRecDepth 100000 in
set_option maxHeartbeats 2000000 in
theorem spStarted_any (w : World) : Calls Try.prog 34 #[] w fun e w' => e = .returned (.bool true) ∧ Below w.heap.size w w' := by
  have m1 : Hid _ := make_at (by decide) (by decide) sp_m1
  have m2 : Hid _ := make_at (by decide) (by decide) sp_m2
  have m3 : Hid _ := make_at (by decide) (by decide) sp_m3
  have m4 : Hid _ := make_at (by decide) (by decide) sp_m4
  have m5 : Hid _ := make_at (by decide) (by decide) sp_m5
  have m6 : Hid _ := make_at (by decide) (by decide) sp_m6
  obtain ⟨ra, ha, ca⟩ := spMul_any 13835058055282163712 4613937818241073152 13840687554816376832 4619567317775286272 false false (by decide) (by decide) (by decide) (by decide) 1074 rfl
  obtain rfl := ha.uniq sp_a
  obtain ⟨rb, hb, cb⟩ := spDiv_any 4607182418800017408 4611686018427387904 4613937818241073152 4616189618054758400 false false (by decide) (by decide) (by decide) (by decide) 1074 rfl
  obtain rfl := hb.uniq sp_b
  obtain ⟨rc, hc, cc⟩ := spDiv_any 4607182418800017408 4607182418800017408 13830554455654793216 4607182418800017408 false false (by decide) (by decide) (by decide) (by decide) 1074 rfl
  obtain rfl := hc.uniq sp_c
  have CA : Hid _ := ca
  have CB : Hid _ := cb
  have CC : Hid _ := cc
  clear ha hb hc ca cb cc
  have hsf := run_store_f
  have hfl := float_int
  go_enter Try.func34, Try.ntmps34
  have B0 : Hid (Below w.heap.size w w) := Below.refl _ _
  have B0 : Hid (Below w.heap.size w w) := Below.refl _ _
  have B0 : Hid (Below w.heap.size w w) := Below.refl _ _
  have B0 : Hid (Below w.heap.size w w) := Below.refl _ _
  go_wp2_with fail
  refine Calls.mono (m1.out _) ?_
  rintro e w1 ⟨rfl, bw⟩
  have B1 : Hid (Below w.heap.size w w1) := B0.out.trans (bw.mono B0.out.size)
  clear bw B0
  go_wp2_with fail
  refine Calls.mono (m2.out _) ?_
  rintro e w2 ⟨rfl, bw⟩
  have B2 : Hid (Below w.heap.size w w2) := B1.out.trans (bw.mono B1.out.size)
  clear bw B1
  go_wp2_with fail
  refine Calls.mono (CA.out _) ?_
  rintro e w3 ⟨rfl, bw⟩
  have B3 : Hid (Below w.heap.size w w3) := B2.out.trans (bw.mono B2.out.size)
  clear bw B2
  go_upto_region 2 with fail
  have Ka4 : Hid _ := heap_alloc_new w3 (Obj.cells #[Value.float .f64 13848005904210853888, .float .f64 4626604192193052672, .bool false] 68)
  have B4 : Hid (Below w.heap.size w (w3.alloc (Obj.cells #[Value.float .f64 13848005904210853888, .float .f64 4626604192193052672, .bool false] 68))) := B3.out.alloc B3.out.size _
  generalize w3.alloc (Obj.cells #[Value.float .f64 13848005904210853888, .float .f64 4626604192193052672, .bool false] 68) = w4 at Ka4 B4 ⊢
  obtain ⟨Pa, hPa⟩ : ∃ P, w3.heap.size = P := ⟨_, rfl⟩
  rw [hPa] at Ka4 ⊢
  clear hPa B3
  go_wp2_with fail
  refine Calls.mono (m3.out _) ?_
  rintro e w5 ⟨rfl, bw⟩
  have Ka5 : Hid _ := (bw.block _ (blk_lt Ka4.out)).trans Ka4.out
  have B5 : Hid (Below w.heap.size w w5) := B4.out.trans (bw.mono B4.out.size)
  clear bw B4 Ka4
  go_wp2_with fail
  refine Calls.mono (m4.out _) ?_
  rintro e w6 ⟨rfl, bw⟩
  have Ka6 : Hid _ := (bw.block _ (blk_lt Ka5.out)).trans Ka5.out
  have B6 : Hid (Below w.heap.size w w6) := B5.out.trans (bw.mono B5.out.size)
  clear bw B5 Ka5
  go_wp2_with fail
  refine Calls.mono (CB.out _) ?_
  rintro e w7 ⟨rfl, bw⟩
  have Ka7 : Hid _ := (bw.block _ (blk_lt Ka6.out)).trans Ka6.out
  have B7 : Hid (Below w.heap.size w w7) := B6.out.trans (bw.mono B6.out.size)
  clear bw B6 Ka6
  go_upto_region 3 with fail
  have Kb8 : Hid _ := heap_alloc_new w7 (Obj.cells #[Value.float .f64 4598175219545276416, .float .f64 4604180019048437078, .bool false] 68)
  have Ka8 : Hid _ := (alloc4 Ka7.out B7.out (Obj.cells #[Value.float .f64 4598175219545276416, .float .f64 4604180019048437078, .bool false] 68)).1
  have B8 : Hid (Below w.heap.size w (w7.alloc (Obj.cells #[Value.float .f64 4598175219545276416, .float .f64 4604180019048437078, .bool false] 68))) := B7.out.alloc B7.out.size _
  generalize w7.alloc (Obj.cells #[Value.float .f64 4598175219545276416, .float .f64 4604180019048437078, .bool false] 68) = w8 at Kb8 B8 Ka8 ⊢
  obtain ⟨Pb, hPb⟩ : ∃ P, w7.heap.size = P := ⟨_, rfl⟩
  rw [hPb] at Kb8 ⊢
  clear hPb B7 Ka7
  go_wp2_with fail
  refine Calls.mono (m5.out _) ?_
  rintro e w9 ⟨rfl, bw⟩
  have Ka9 : Hid _ := (bw.block _ (blk_lt Ka8.out)).trans Ka8.out
  have Kb9 : Hid _ := (bw.block _ (blk_lt Kb8.out)).trans Kb8.out
  have B9 : Hid (Below w.heap.size w w9) := B8.out.trans (bw.mono B8.out.size)
  clear bw B8 Ka8 Kb8
  go_wp2_with fail
  refine Calls.mono (m6.out _) ?_
  rintro e w10 ⟨rfl, bw⟩
  have Ka10 : Hid _ := (bw.block _ (blk_lt Ka9.out)).trans Ka9.out
  have Kb10 : Hid _ := (bw.block _ (blk_lt Kb9.out)).trans Kb9.out
  have B10 : Hid (Below w.heap.size w w10) := B9.out.trans (bw.mono B9.out.size)
  clear bw B9 Ka9 Kb9
  go_wp2_with fail
  refine Calls.mono (CC.out _) ?_
  rintro e w11 ⟨rfl, bw⟩
  have Ka11 : Hid _ := (bw.block _ (blk_lt Ka10.out)).trans Ka10.out
  have Kb11 : Hid _ := (bw.block _ (blk_lt Kb10.out)).trans Kb10.out
  have B11 : Hid (Below w.heap.size w w11) := B10.out.trans (bw.mono B10.out.size)
  clear bw B10 Ka10 Kb10
  go_upto_region 4 with fail
  have Kc12 : Hid _ := heap_alloc_new w11 (Obj.cells #[Value.float .f64 0, .float .f64 0, .bool true] 68)
  have Ka12 : Hid _ := (alloc4 Ka11.out B11.out (Obj.cells #[Value.float .f64 0, .float .f64 0, .bool true] 68)).1
  have Kb12 : Hid _ := (alloc4 Kb11.out B11.out (Obj.cells #[Value.float .f64 0, .float .f64 0, .bool true] 68)).1
  have B12 : Hid (Below w.heap.size w (w11.alloc (Obj.cells #[Value.float .f64 0, .float .f64 0, .bool true] 68))) := B11.out.alloc B11.out.size _
  generalize w11.alloc (Obj.cells #[Value.float .f64 0, .float .f64 0, .bool true] 68) = w12 at Kc12 B12 Ka12 Kb12 ⊢
  obtain ⟨Pc, hPc⟩ : ∃ P, w11.heap.size = P := ⟨_, rfl⟩
  rw [hPc] at Kc12 ⊢
  clear hPc B11 Ka11 Kb11
  obtain ⟨a0, a1, a2⟩ := cells3 Ka12.out
  obtain ⟨b0, b1, b2⟩ := cells3 Kb12.out
  obtain ⟨c0, c1, c2⟩ := cells3 Kc12.out
  have q1 : ∀ w, (binOp .eql 68 (.agg #[Value.float .f64 13848005904210853888, .float .f64 4626604192193052672, .bool false]) (.agg #[Value.float .f64 13848005904210853888, .float .f64 4626604192193052672, .bool false])).run Try.prog w = .ok (.bool true) w := fun w => by kernel_rfl
  have q2 : ∀ w, (binOp .eql 68 (.agg #[Value.float .f64 4598175219545276416, .float .f64 4604180019048437078, .bool false]) (.agg #[Value.float .f64 4598175219545276416, .float .f64 4604180019048437078, .bool false])).run Try.prog w = .ok (.bool true) w := fun w => by kernel_rfl
  have q3 : ∀ w, (binOp .eql 68 (.agg #[Value.float .f64 0, .float .f64 0, .bool true]) (.agg #[Value.float .f64 0, .float .f64 0, .bool true])).run Try.prog w = .ok (.bool true) w := fun w => by kernel_rfl
  have HF : Hid (∀ w, Calls Try.prog 21 #[.int .u64 4604180019048437078] w fun e w' => e = .returned (.float .f64 4604180019048437078) ∧ w' = w) := fun w => float_int 4604180019048437078 w
  have H1 : Hid (∀ w, Calls Try.prog 41 #[.agg #[Value.float .f64 13848005904210853888, .float .f64 4626604192193052672, .bool false], .float .f64 4626604192193052672] w fun e w' => e = .returned (.bool true) ∧ Below w.heap.size w w') := fun w => has_any _ _ 4626604192193052672 false (by decide) (by decide) w
  have H2 : Hid (∀ w, Calls Try.prog 41 #[.agg #[Value.float .f64 13848005904210853888, .float .f64 4626604192193052672, .bool false], .float .f64 4626885667169763328] w fun e w' => e = .returned (.bool false) ∧ Below w.heap.size w w') := fun w => has_any _ _ 4626885667169763328 false (by decide) (by decide) w
  have H3 : Hid (∀ w, Calls Try.prog 43 #[.agg #[Value.float .f64 4598175219545276416, .float .f64 4604180019048437078, .bool false], .agg #[Value.float .f64 13848005904210853888, .float .f64 4626604192193052672, .bool false]] w fun e w' => e = .returned (.bool true) ∧ Below w.heap.size w w') := fun w => inside_any _ _ _ _ false false (by decide) (by decide) (by decide) (by decide) w
  have HC : Hid (∀ wx wy, Below w12.heap.size w12 wx → Below wx.heap.size wx wy → Below w12.heap.size w12 wy ∧ wy.cell? ⟨Pa, 0, none⟩ = some (Value.float .f64 13848005904210853888) ∧ wy.cell? ⟨Pa, 1, none⟩ = some (Value.float .f64 4626604192193052672) ∧ wy.cell? ⟨Pa, 2, none⟩ = some (Value.bool false) ∧ wy.cell? ⟨Pb, 0, none⟩ = some (Value.float .f64 4598175219545276416) ∧ wy.cell? ⟨Pb, 1, none⟩ = some (Value.float .f64 4604180019048437078) ∧ wy.cell? ⟨Pb, 2, none⟩ = some (Value.bool false) ∧ wy.cell? ⟨Pc, 0, none⟩ = some (Value.float .f64 0) ∧ wy.cell? ⟨Pc, 1, none⟩ = some (Value.float .f64 0) ∧ wy.cell? ⟨Pc, 2, none⟩ = some (Value.bool true)) := by
    intro wx wy hx hy
    have h := hx.trans (hy.mono hx.size)
    obtain ⟨d0, d1, d2⟩ := cells3 ((h.block _ (blk_lt Ka12.out)).trans Ka12.out)
    obtain ⟨e0, e1, e2⟩ := cells3 ((h.block _ (blk_lt Kb12.out)).trans Kb12.out)
    obtain ⟨f0, f1, f2⟩ := cells3 ((h.block _ (blk_lt Kc12.out)).trans Kc12.out)
    exact ⟨h, d0, d1, d2, e0, e1, e2, f0, f1, f2⟩
  clear hfl m1 m2 m3 m4 m5 m6 CA CB CC
  go_region_held3 (fun w' => w'.cell? ⟨Pa, 0, none⟩ = some (Value.float .f64 13848005904210853888) ∧ w'.cell? ⟨Pa, 1, none⟩ = some (Value.float .f64 4626604192193052672) ∧ w'.cell? ⟨Pa, 2, none⟩ = some (Value.bool false) ∧ w'.cell? ⟨Pb, 0, none⟩ = some (Value.float .f64 4598175219545276416) ∧ w'.cell? ⟨Pb, 1, none⟩ = some (Value.float .f64 4604180019048437078) ∧ w'.cell? ⟨Pb, 2, none⟩ = some (Value.bool false) ∧ w'.cell? ⟨Pc, 0, none⟩ = some (Value.float .f64 0) ∧ w'.cell? ⟨Pc, 1, none⟩ = some (Value.float .f64 0) ∧ w'.cell? ⟨Pc, 2, none⟩ = some (Value.bool true)) (go_keep) ((first
    | (go_at_call 21; refine Calls.mono (HF.out _) ?_; rintro e wf ⟨rfl, rfl⟩)
    | (go_at_call_of 41 (Value.float FloatKind.f64 4626885667169763328); refine Calls.mono (H2.out _) ?_; rintro e wx2 ⟨rfl, bx2⟩; obtain ⟨bb2, t0, t1, t2, t3, t4, t5, t6, t7, t8⟩ := HC.out _ wx2 (by first | assumption | exact (Below.refl _ _).drew) bx2)
    | (go_at_call 41; refine Calls.mono (H1.out _) ?_; rintro e wx1 ⟨rfl, bx1⟩; obtain ⟨bb1, s0, s1, s2, s3, s4, s5, s6, s7, s8⟩ := HC.out _ wx1 (by first | assumption | exact (Below.refl _ _).drew) bx1)
    | (go_at_call 43; refine Calls.mono (H3.out _) ?_; rintro e wx3 ⟨rfl, bx3⟩; obtain ⟨bb3, u0, u1, u2, u3, u4, u5, u6, u7, u8⟩ := HC.out _ wx3 (by first | assumption | exact (Below.refl _ _).drew) bx3)))
  go_wp2_with fail
  go_ret
  exact ⟨rfl, B12.out.trans (bb3.mono B12.out.size)⟩
end Go.Proofs.Ytigaggkipmcgeaa
