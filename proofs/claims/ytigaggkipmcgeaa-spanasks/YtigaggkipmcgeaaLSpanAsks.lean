import Derived.Test.YtigaggkipmcgeaaZW
namespace Go.Proofs.Ytigaggkipmcgeaa
open Go.RowKit
set_option linter.unusedVariables false

theorem tell_same {P : Prop} {d V : Int} {D a a' : Nat} {b b' : Bool} (h1 : P → RndZ d V D (a, b)) (h2 : ¬ P → (a = 0 ∧ b = false)) (k1 : P → RndZ d V D (a', b')) (k2 : ¬ P → (a' = 0 ∧ b' = false)) : a = a' ∧ b = b' := by
  by_cases h : P
  · have := (h1 h).uniq (k1 h)
    exact ⟨congrArg Prod.fst this, congrArg Prod.snd this⟩
  · obtain ⟨rfl, rfl⟩ := h2 h
    obtain ⟨rfl, rfl⟩ := k2 h
    exact ⟨rfl, rfl⟩
set_option maxRecDepth 100000 in
set_option maxHeartbeats 8000000 in
theorem spanAsks_walk (al ah : Nat) (ab : Bool) (hal : al < 18446744073709551616) (hah : ah < 18446744073709551616) (bl bh : Nat) (bb : Bool) (hbl : bl < 18446744073709551616) (hbh : bh < 18446744073709551616) (v : Nat) (hv : v < 18446744073709551616) (w : World) :
    Calls Try.prog 7 #[.agg #[Value.float .f64 al, .float .f64 ah, .bool ab], .agg #[Value.float .f64 bl, .float .f64 bh, .bool bb], .float .f64 v] w fun e w' => e = .returned (.bool true) ∧ Below w.heap.size w w' := by
  obtain ⟨p, hp1, hp2, hpc⟩ := width_any al ah ab hal hah
  have WP : Hid _ := hpc
  have WP1 : Hid _ := hp1
  have WP2 : Hid (¬ Good al ah ab → p.1 = 0 ∧ p.2 = false) := fun h => by rw [hp2 h]; exact ⟨rfl, rfl⟩
  clear hp1 hp2 hpc
  obtain ⟨g0, g1, -, gb⟩ := alloc2_facts w (Obj.cells #[Value.float .f64 al, .float .f64 ah, .bool ab] 68) (Obj.cells #[Value.float .f64 bl, .float .f64 bh, .bool bb] 68)
  have Na : Hid _ := g0
  have Nb : Hid _ := g1
  have NB : Hid _ := gb
  clear g0 g1 gb
  go_enter Try.func7, Try.ntmps7
  go_upto_region 1 with fail
  generalize ((w.alloc (Obj.cells #[Value.float .f64 al, .float .f64 ah, .bool ab] 68)).alloc (Obj.cells #[Value.float .f64 bl, .float .f64 bh, .bool bb] 68)) = W0 at Na Nb NB ⊢
  obtain ⟨Pb, hPb⟩ : ∃ P, w.heap.size + 1 = P := ⟨_, rfl⟩
  rw [hPb] at Nb ⊢
  obtain ⟨Pa, hPa⟩ : ∃ P, w.heap.size = P := ⟨_, rfl⟩
  have HPa : Hid (w.heap.size = Pa) := hPa
  rw [hPa] at Na ⊢
  clear hPa hPb
  obtain ⟨a0, a1, a2⟩ := cells3 Na.out
  go_wp2_with fail
  refine Calls.mono (of_any4 al ah ab _) ?_
  rintro e w1 ⟨rfl, bw⟩
  have Ma : Hid _ := (bw.block _ (blk_lt Na.out)).trans Na.out
  have Mb : Hid _ := (bw.block _ (blk_lt Nb.out)).trans Nb.out
  have MB : Hid (Below w.heap.size w w1) := NB.out.trans (bw.mono NB.out.size)
  clear bw Na Nb NB a0 a1 a2
  go_upto_region 2 with fail
  have Ka0 : Hid _ := (alloc4 Ma.out MB.out (Obj.cells #[Value.int .u64 (al : Int), .int .u64 (ah : Int), .bool ab] 71)).1
  have Kb0 : Hid _ := (alloc4 Mb.out MB.out (Obj.cells #[Value.int .u64 (al : Int), .int .u64 (ah : Int), .bool ab] 71)).1
  have Kx0 : Hid _ := heap_alloc_new w1 (Obj.cells #[Value.int .u64 (al : Int), .int .u64 (ah : Int), .bool ab] 71)
  have C0 : Hid (Below w.heap.size w (w1.alloc (Obj.cells #[Value.int .u64 (al : Int), .int .u64 (ah : Int), .bool ab] 71))) := MB.out.alloc MB.out.size _
  obtain ⟨Px, hPx⟩ : ∃ P, w1.heap.size = P := ⟨_, rfl⟩
  rw [hPx] at Kx0 ⊢
  generalize w1.alloc (Obj.cells #[Value.int .u64 (al : Int), .int .u64 (ah : Int), .bool ab] 71) = W1 at Ka0 Kb0 Kx0 C0 ⊢
  clear hPx Ma Mb MB
  obtain ⟨a0, a1, a2⟩ := cells3 Ka0.out
  obtain ⟨b0, b1, b2⟩ := cells3 Kb0.out
  obtain ⟨x0, x1, x2⟩ := cells3 Kx0.out
  go_wp2_with fail
  refine Calls.mono (WP.out _) ?_
  rintro e w1 ⟨rfl, bw⟩
  have Ka1 : Hid _ := (bw.block _ (blk_lt Ka0.out)).trans Ka0.out
  have Kb1 : Hid _ := (bw.block _ (blk_lt Kb0.out)).trans Kb0.out
  have Kx1 : Hid _ := (bw.block _ (blk_lt Kx0.out)).trans Kx0.out
  have C1 : Hid (Below w.heap.size w w1) := C0.out.trans (bw.mono C0.out.size)
  clear bw Ka0 Kb0 Kx0 C0 a0 a1 a2 b0 b1 b2 x0 x1 x2
  obtain ⟨a0, a1, a2⟩ := cells3 Ka1.out
  obtain ⟨b0, b1, b2⟩ := cells3 Kb1.out
  obtain ⟨x0, x1, x2⟩ := cells3 Kx1.out
  go_wp2_with fail
  refine Calls.mono (refWidth_any al ah ab hal hah _ 1074 rfl) ?_
  rintro e w2 ⟨u1, o1, rfl, k1, k2, bw⟩
  have hs1 := tell_same WP1.out WP2.out k1 k2
  have HS1 : Hid _ := hs1
  clear hs1 k1 k2
  have Ka2 : Hid _ := (bw.block _ (blk_lt Ka1.out)).trans Ka1.out
  have Kb2 : Hid _ := (bw.block _ (blk_lt Kb1.out)).trans Kb1.out
  have Kx2 : Hid _ := (bw.block _ (blk_lt Kx1.out)).trans Kx1.out
  have C2 : Hid (Below w.heap.size w w2) := C1.out.trans (bw.mono C1.out.size)
  clear bw Ka1 Kb1 Kx1 C1 a0 a1 a2 b0 b1 b2 x0 x1 x2
  obtain ⟨a0, a1, a2⟩ := cells3 Ka2.out
  obtain ⟨b0, b1, b2⟩ := cells3 Kb2.out
  obtain ⟨x0, x1, x2⟩ := cells3 Kx2.out
  go_wp2_with fail
  refine Calls.mono (middle_any al ah ab hal hah _) ?_
  rintro e w3 ⟨u2, o2, rfl, k1, k2, bw⟩
  have MK1 : Hid _ := k1
  have MK2 : Hid _ := k2
  clear k1 k2
  have Ka3 : Hid _ := (bw.block _ (blk_lt Ka2.out)).trans Ka2.out
  have Kb3 : Hid _ := (bw.block _ (blk_lt Kb2.out)).trans Kb2.out
  have Kx3 : Hid _ := (bw.block _ (blk_lt Kx2.out)).trans Kx2.out
  have C3 : Hid (Below w.heap.size w w3) := C2.out.trans (bw.mono C2.out.size)
  clear bw Ka2 Kb2 Kx2 C2 a0 a1 a2 b0 b1 b2 x0 x1 x2
  obtain ⟨a0, a1, a2⟩ := cells3 Ka3.out
  obtain ⟨b0, b1, b2⟩ := cells3 Kb3.out
  obtain ⟨x0, x1, x2⟩ := cells3 Kx3.out
  go_wp2_with fail
  refine Calls.mono (refMiddle_any al ah ab hal hah _ 1074 rfl) ?_
  rintro e w4 ⟨u3, o3, rfl, k1, k2, bw⟩
  have hs2 := tell_same MK1.out MK2.out k1 k2
  have HS2 : Hid _ := hs2
  clear hs2 k1 k2 MK1 MK2
  have Ka4 : Hid _ := (bw.block _ (blk_lt Ka3.out)).trans Ka3.out
  have Kb4 : Hid _ := (bw.block _ (blk_lt Kb3.out)).trans Kb3.out
  have Kx4 : Hid _ := (bw.block _ (blk_lt Kx3.out)).trans Kx3.out
  have C4 : Hid (Below w.heap.size w w4) := C3.out.trans (bw.mono C3.out.size)
  clear bw Ka3 Kb3 Kx3 C3 a0 a1 a2 b0 b1 b2 x0 x1 x2
  obtain ⟨pu, pk⟩ := p
  have hs1 : pu = u1 ∧ pk = o1 := HS1.out
  have hs2 : u2 = u3 ∧ o2 = o3 := HS2.out
  obtain ⟨rfl, rfl⟩ := hs1
  obtain ⟨rfl, rfl⟩ := hs2
  clear HS1 HS2 WP WP1 WP2
  go_wp2_with fail
  refine Calls.mono (number4_any pu pk _) ?_
  rintro e w5 ⟨rfl, hw⟩
  rw [hw]; clear hw
  go_wp2_with fail
  refine Calls.mono (number4_any u2 o2 _) ?_
  rintro e w5 ⟨rfl, hw⟩
  rw [hw]; clear hw
  go_upto_region 8 with fail
  have HC : Hid (∀ wx wy, Below w4.heap.size w4 wx → Below wx.heap.size wx wy → Below w4.heap.size w4 wy ∧ (wy.cell? ⟨Pa, 0, none⟩ = some (.float .f64 al) ∧ wy.cell? ⟨Pa, 1, none⟩ = some (.float .f64 ah) ∧ wy.cell? ⟨Pa, 2, none⟩ = some (.bool ab)) ∧ (wy.cell? ⟨Pb, 0, none⟩ = some (.float .f64 bl) ∧ wy.cell? ⟨Pb, 1, none⟩ = some (.float .f64 bh) ∧ wy.cell? ⟨Pb, 2, none⟩ = some (.bool bb)) ∧ (wy.cell? ⟨Px, 0, none⟩ = some (.int .u64 (al : Int)) ∧ wy.cell? ⟨Px, 1, none⟩ = some (.int .u64 (ah : Int)) ∧ wy.cell? ⟨Px, 2, none⟩ = some (.bool ab))) := by
    intro wx wy q1 q2
    have h := q1.trans (q2.mono q1.size)
    exact ⟨h, cells3 ((h.block _ (blk_lt Ka4.out)).trans Ka4.out), cells3 ((h.block _ (blk_lt Kb4.out)).trans Kb4.out), cells3 ((h.block _ (blk_lt Kx4.out)).trans Kx4.out)⟩
  obtain ⟨a0, a1, a2⟩ := cells3 Ka4.out
  obtain ⟨b0, b1, b2⟩ := cells3 Kb4.out
  obtain ⟨x0, x1, x2⟩ := cells3 Kx4.out
  have H1 : Hid _ := has_any al ah v ab hal hah
  have H2 : Hid _ := fun w => refHas_any al ah v ab hal hah hv w 1074 rfl
  have H3 : Hid _ := inside_any al ah bl bh ab bb hal hah hbl hbh
  have H4 : Hid _ := fun w => refInside_any al ah bl bh ab bb hal hah hbl hbh w 1074 rfl
  have H5 : Hid _ := of_any4 bl bh bb
  have H6 : Hid _ := spStarted_any
  have H7 : Hid (∀ w, Calls Try.prog 25 #[.float .f64 v] w fun e w' => e = .returned (.int .u64 (v : Int)) ∧ w' = w) := fun w => bits_any v w
  generalize (decide (Good al ah ab) && hasB al ah v) = h1 at H1 H2
  generalize (decide (Good al ah ab ∧ Good bl bh bb) && (leF bl al && leF ah bh)) = h2 at H3 H4
  have qb1 : (h1 == h1) = true := by cases h1 <;> rfl
  have qb2 : (h2 == h2) = true := by cases h2 <;> rfl
  go_region_held3 (fun w' => (w'.cell? ⟨Pa, 0, none⟩ = some (.float .f64 al) ∧ w'.cell? ⟨Pa, 1, none⟩ = some (.float .f64 ah) ∧ w'.cell? ⟨Pa, 2, none⟩ = some (.bool ab)) ∧ (w'.cell? ⟨Pb, 0, none⟩ = some (.float .f64 bl) ∧ w'.cell? ⟨Pb, 1, none⟩ = some (.float .f64 bh) ∧ w'.cell? ⟨Pb, 2, none⟩ = some (.bool bb)) ∧ (w'.cell? ⟨Px, 0, none⟩ = some (.int .u64 (al : Int)) ∧ w'.cell? ⟨Px, 1, none⟩ = some (.int .u64 (ah : Int)) ∧ w'.cell? ⟨Px, 2, none⟩ = some (.bool ab))) (go_keep) ((first
    | (go_at_call 41; refine Calls.mono (H1.out _) ?_; rintro e wx1 ⟨rfl, bx1⟩; obtain ⟨bb1, ⟨s10, s11, s12⟩, ⟨s13, s14, s15⟩, ⟨s16, s17, s18⟩⟩ := HC.out _ wx1 (by first | assumption | exact (Below.refl _ _).drew) bx1)
    | (go_at_call 42; refine Calls.mono (H2.out _) ?_; rintro e wx2 ⟨rfl, bx2⟩; obtain ⟨bb2, ⟨s20, s21, s22⟩, ⟨s23, s24, s25⟩, ⟨s26, s27, s28⟩⟩ := HC.out _ wx2 (by first | assumption | exact (Below.refl _ _).drew) bx2)
    | (go_at_call 43; refine Calls.mono (H3.out _) ?_; rintro e wx3 ⟨rfl, bx3⟩; obtain ⟨bb3, ⟨s30, s31, s32⟩, ⟨s33, s34, s35⟩, ⟨s36, s37, s38⟩⟩ := HC.out _ wx3 (by first | assumption | exact (Below.refl _ _).drew) bx3)
    | (go_at_call 44; refine Calls.mono (H4.out _) ?_; rintro e wx4 ⟨rfl, bx4⟩; obtain ⟨bb4, ⟨s40, s41, s42⟩, ⟨s43, s44, s45⟩, ⟨s46, s47, s48⟩⟩ := HC.out _ wx4 (by first | assumption | exact (Below.refl _ _).drew) bx4)
    | (go_at_call 35; refine Calls.mono (H5.out _) ?_; rintro e wx5 ⟨rfl, bx5⟩; obtain ⟨bb5, ⟨s50, s51, s52⟩, ⟨s53, s54, s55⟩, ⟨s56, s57, s58⟩⟩ := HC.out _ wx5 (by first | assumption | exact (Below.refl _ _).drew) bx5)
    | (go_at_call 34; refine Calls.mono (H6.out _) ?_; rintro e wx6 ⟨rfl, bx6⟩; obtain ⟨bb6, ⟨s60, s61, s62⟩, ⟨s63, s64, s65⟩, ⟨s66, s67, s68⟩⟩ := HC.out _ wx6 (by first | assumption | exact (Below.refl _ _).drew) bx6)
    | (go_at_call 25; refine Calls.mono (H7.out _) ?_; rintro e wf ⟨rfl, rfl⟩)))
  all_goals
    go_wp2_with fail
    go_ret
    exact ⟨rfl, C4.out.trans (bb6.mono C4.out.size)⟩
end Go.Proofs.Ytigaggkipmcgeaa
