import Derived.Test.YtaadhjdbieoieaaSPLb
namespace Go.Proofs.Ytaadhjdbieoieaa
open Go.RowKit
set_option linter.unusedVariables false
set_option linter.unusedSimpArgs false
set_option maxRecDepth 100000 in
set_option maxHeartbeats 20000000 in
theorem settled_any (ko : Option Addr) (m kc : Nat) (g c : Nat → Nat) (n base : Nat) (C0 : Nat → List Int) (W0 : World) (hm : m ≤ 100) (hn : n ≤ 100) (hb0 : base ≤ W0.heap.size)
    (hk : m = 0 ∨ ∃ q qo, ko = some ⟨q, qo, none⟩ ∧ ∀ i, i < m → W0.cell? ⟨q, qo + i * 2, none⟩ = some (.slice (some ⟨g (2 * i), 0, none⟩) n (c (2 * i))) ∧ W0.cell? ⟨q, qo + i * 2 + 1, none⟩ = some (.slice (some ⟨g (2 * i + 1), 0, none⟩) n (c (2 * i + 1))))
    (hF : ∀ k, k < 2 * m → OwL W0 base (g k) n (c k) (C0 k)) (hinj : ∀ i j, i < 2 * m → j < 2 * m → g i = g j → i = j) :
    Calls Try.prog 25 #[.slice ko m kc] W0 fun e w' => e = .returned (.bool true) ∧ Below base W0 w' := by
  obtain ⟨K, hK⟩ : ∃ K, 2 * m = K := ⟨_, rfl⟩
  have HK0 : Hid (m = 0 ∨ ∃ q qo, ko = some ⟨q, qo, none⟩ ∧ ∀ i, i < m → W0.cell? ⟨q, qo + i * 2, none⟩ = some (.slice (some ⟨g (2 * i), 0, none⟩) n (c (2 * i))) ∧ W0.cell? ⟨q, qo + i * 2 + 1, none⟩ = some (.slice (some ⟨g (2 * i + 1), 0, none⟩) n (c (2 * i + 1)))) := hk
  have HF : Hid (∀ k, k < K → OwL W0 base (g k) n (c k) (C0 k)) := by unfold Hid; rw [← hK]; exact hF
  have HI : Hid (∀ i j, i < K → j < K → g i = g j → i = j) := by unfold Hid; rw [← hK]; exact hinj
  have HG : Hid (∀ k, k < K → g k < W0.heap.size) := fun k hk => (HF.out k hk).lt
  have HB0 : Hid (base ≤ W0.heap.size) := hb0
  clear hk hF hinj hb0
  go_enter Try.func25, Try.ntmps25
  go_wp2_with fail
  go_loopg [3, 4] m (fun gg lv iv wx => ∃ i : Nat, iv = .int .i64 i ∧ i + gg = m ∧ Hid (Below W0.heap.size W0 wx ∧ wx.ownsRow W0.heap.size 22 1 lv (2 * i) (slL g c n (2 * i))))
  case atStart => exact ⟨0, rfl, by omega, Below.refl _ _, World.ownsRow_nil _ _ _ _⟩
  case round =>
    obtain ⟨i, rfl, hj, P1⟩ := hrel
    by_cases hlt : i < m
    · have e1 : decide ((i : Int) < (m : Int)) = true := decide_eq_true (by omega)
      obtain ⟨qq, rfl⟩ : ∃ q, gk = q + 1 := ⟨gk - 1, by omega⟩
      have HIG : Hid (i + (qq + 1) = m) := hj
      have hlt' : (i : Int) < (m : Int) := by omega
      rcases HK0.out with h0 | ⟨q, qo, rfl, hct⟩
      · omega
      have hc := hct i hlt
      have KC : Hid (wr.cell? ⟨q, qo + i * 2, none⟩ = some (.slice (some ⟨g (2 * i), 0, none⟩) n (c (2 * i))) ∧ wr.cell? ⟨q, qo + i * 2 + 1, none⟩ = some (.slice (some ⟨g (2 * i + 1), 0, none⟩) n (c (2 * i + 1))) ∧ q < W0.heap.size) := ⟨cell_later hc.1 P1.out.1, cell_later hc.2 P1.out.1, World.block_lt_of_cell? _ _ hc.1⟩
      have HO : Hid (wr.drew.ownsRow W0.heap.size 22 1 u3 (2 * i) (slL g c n (2 * i))) := P1.out.2
      clear hc hct hj
      go_upto_region 5 with fail
      refine wp_region_noPanic ?_
      refine wp_region_P (S := (fun V => Below W0.heap.size wr V)) (s := 13) (by kernel_rfl) ?_
      have SX : Below W0.heap.size wr wr.drew := (Below.refl _ _).drew
      refine takeP 20 (i := 0) (v := ?_) rfl rfl (by kernel_rfl) (by kernel_rfl) (by kernel_rfl) (by kernel_rfl) rfl (by kernel_rfl) (fun _ _ _ h => h) (Or.inl ⟨by kernel_rfl, ?_⟩) SX ?_
      rotate_left
      · intro w' hSw; skip; go_simp; try with_reducible rfl
      try simp only [Act.put, List.setIfInBounds_toArray, List.set_cons_zero, List.set_cons_succ]
      refine takeP 21 (i := 1) (v := ?_) rfl rfl (by kernel_rfl) (by kernel_rfl) (by kernel_rfl) (by kernel_rfl) rfl (by kernel_rfl) (fun _ _ _ h => h) (Or.inl ⟨by kernel_rfl, ?_⟩) SX ?_
      rotate_left
      · intro w' hSw; skip; go_simp; try with_reducible rfl
      try simp only [Act.put, List.setIfInBounds_toArray, List.set_cons_zero, List.set_cons_succ]
      refine takeP 22 (i := 2) (v := ?_) rfl rfl (by kernel_rfl) (by kernel_rfl) (by kernel_rfl) (by kernel_rfl) rfl (by kernel_rfl) (fun _ _ _ h => h) (Or.inl ⟨by kernel_rfl, ?_⟩) SX ?_
      rotate_left
      · intro w' hSw; skip; go_simp; try with_reducible rfl
      try simp only [Act.put, List.setIfInBounds_toArray, List.set_cons_zero, List.set_cons_succ]
      refine takeP 23 (i := 3) (v := ?_) rfl rfl (by kernel_rfl) (by kernel_rfl) (by kernel_rfl) (by kernel_rfl) rfl (by kernel_rfl) (fun _ _ _ h => h) (Or.inl ⟨by kernel_rfl, ?_⟩) SX ?_
      rotate_left
      · intro w' hSw; skip; go_simp; try with_reducible rfl
      try simp only [Act.put, List.setIfInBounds_toArray, List.set_cons_zero, List.set_cons_succ]
      refine takeP 24 (i := 4) (v := ?_) rfl rfl (by kernel_rfl) (by kernel_rfl) (by kernel_rfl) (by kernel_rfl) rfl (by kernel_rfl) (fun _ _ _ h => h) (Or.inl ⟨by kernel_rfl, ?_⟩) SX ?_
      rotate_left
      · intro w' hSw; skip; go_simp; try with_reducible rfl
      try simp only [Act.put, List.setIfInBounds_toArray, List.set_cons_zero, List.set_cons_succ]
      refine takeP 25 (i := 5) (v := ?_) rfl rfl (by kernel_rfl) (by kernel_rfl) (by kernel_rfl) (by kernel_rfl) rfl (by kernel_rfl) (fun _ _ _ h => h) (Or.inl ⟨by kernel_rfl, ?_⟩) SX ?_
      rotate_left
      · intro w' hSw; have t0 := cell_low KC.out.1 hSw KC.out.2.2; have t1 := cell_low KC.out.2.1 hSw KC.out.2.2; go_simp; try with_reducible rfl
      try simp only [Act.put, List.setIfInBounds_toArray, List.set_cons_zero, List.set_cons_succ]
      refine takeP 26 (i := 6) (v := ?_) rfl rfl (by kernel_rfl) (by kernel_rfl) (by kernel_rfl) (by kernel_rfl) rfl (by kernel_rfl) (fun _ _ _ h => h) (Or.inl ⟨by kernel_rfl, ?_⟩) SX ?_
      rotate_left
      · intro w' hSw; skip; go_simp; try with_reducible rfl
      try simp only [Act.put, List.setIfInBounds_toArray, List.set_cons_zero, List.set_cons_succ]
      refine takeP 27 (i := 7) (v := ?_) rfl rfl (by kernel_rfl) (by kernel_rfl) (by kernel_rfl) (by kernel_rfl) rfl (by kernel_rfl) (fun _ _ _ h => h) (Or.inl ⟨by kernel_rfl, ?_⟩) SX ?_
      rotate_left
      · intro w' hSw; skip; go_simp; try with_reducible rfl
      try simp only [Act.put, List.setIfInBounds_toArray, List.set_cons_zero, List.set_cons_succ]
      refine takeP 28 (i := 8) (v := ?_) rfl rfl (by kernel_rfl) (by kernel_rfl) (by kernel_rfl) (by kernel_rfl) rfl (by kernel_rfl) (fun _ _ _ h => h) (Or.inl ⟨by kernel_rfl, ?_⟩) SX ?_
      rotate_left
      · intro w' hSw; skip; go_simp; try with_reducible rfl
      try simp only [Act.put, List.setIfInBounds_toArray, List.set_cons_zero, List.set_cons_succ]
      refine takeP 29 (i := 9) (v := ?_) rfl rfl (by kernel_rfl) (by kernel_rfl) (by kernel_rfl) (by kernel_rfl) rfl (by kernel_rfl) (fun _ _ _ h => h) (Or.inl ⟨by kernel_rfl, ?_⟩) SX ?_
      rotate_left
      · intro w' hSw; skip; go_simp; try with_reducible rfl
      try simp only [Act.put, List.setIfInBounds_toArray, List.set_cons_zero, List.set_cons_succ]
      refine takeP 30 (i := 10) (v := ?_) rfl rfl (by kernel_rfl) (by kernel_rfl) (by kernel_rfl) (by kernel_rfl) rfl (by kernel_rfl) (fun _ _ _ h => h) (Or.inl ⟨by kernel_rfl, ?_⟩) SX ?_
      rotate_left
      · intro w' hSw; have t0 := cell_low KC.out.1 hSw KC.out.2.2; have t1 := cell_low KC.out.2.1 hSw KC.out.2.2; go_simp; try with_reducible rfl
      try simp only [Act.put, List.setIfInBounds_toArray, List.set_cons_zero, List.set_cons_succ]
      refine wpAnyP_ready (rs := [11]) (by kernel_rfl) (by simp) ?_
      refine consP _ rfl (hopV 31 (v := .slice (some ⟨wr.drew.heap.size, 0, none⟩) 2 2) (w' := wr.drew.alloc (.cells #[(.slice (some ⟨g (2 * i), 0, none⟩) n (c (2 * i))), (.slice (some ⟨g (2 * i + 1), 0, none⟩) n (c (2 * i + 1)))] 22)) rfl rfl rfl (by kernel_rfl) ?_) AllReadyP.nil
      have SX2 : Below W0.heap.size wr (wr.drew.alloc (.cells #[(.slice (some ⟨g (2 * i), 0, none⟩) n (c (2 * i))), (.slice (some ⟨g (2 * i + 1), 0, none⟩) n (c (2 * i + 1)))] 22)) := SX.alloc P1.out.1.size _
      refine ⟨SX2, ?_⟩
      try simp only [Act.put, List.setIfInBounds_toArray, List.set_cons_zero, List.set_cons_succ]
      refine wpAnyP_ready (rs := [12]) (by kernel_rfl) (by simp) ?_
      refine consP _ rfl (hopL rfl (append_gSB Try.underlying78 Try.infoLJ rfl (by decide) (by decide) wr.drew (by rfl) _ _ (by rfl) W0.heap.size u3 (2 * i) (slL g c n (2 * i)) (by kernel_rfl) HO.out 2 [(.slice (some ⟨g (2 * i), 0, none⟩) n (c (2 * i))), (.slice (some ⟨g (2 * i + 1), 0, none⟩) n (c (2 * i + 1)))] (by kernel_rfl) rfl (by decide) (fun u hu => by rcases List.mem_cons.1 hu with rfl | hu; rfl; rcases List.mem_cons.1 hu with rfl | hu; rfl; cases hu) (by omega) P1.out.1.size fun v4 w4 o4 g4 => ?_)) AllReadyP.nil
      have SX3 : Below W0.heap.size wr.drew w4 := g4.grw.below (fun k hk => (World.ownsRow.lt HO.out k hk).1) P1.out.1.size
      have SX4 : Below W0.heap.size wr w4 := SX.trans SX3
      refine ⟨SX4, ?_⟩
      try simp only [Act.put, List.setIfInBounds_toArray, List.set_cons_zero, List.set_cons_succ]
      refine wpAnyP_ready (rs := [13]) (by kernel_rfl) (by simp) ?_
      refine consPs _ rfl (by kernel_rfl) (hopV 3 (v := v4) (w' := w4) rfl rfl rfl (by kernel_rfl) ?_) AllReadyP.nil
      refine ⟨trivial, ?_⟩
      try simp only [Act.put, List.setIfInBounds_toArray, List.set_cons_zero, List.set_cons_succ]
      refine wpAnyP_done (by kernel_rfl) ?_ _
      refine NoPanic.normal ?_
      try simp only [Act.put, List.setIfInBounds_toArray, List.set_cons_zero, List.set_cons_succ]
      have P2 : Hid (Below W0.heap.size W0 w4 ∧ w4.ownsRow W0.heap.size 22 1 v4 (2 * (i + 1)) (slL g c n (2 * (i + 1)))) := by
        refine ⟨P1.out.1.trans SX4, ?_⟩
        rw [← slL_two]
        exact o4
      clear P1 HO KC SX SX2 SX3 SX4 o4 g4
      go_wp2_with fail
      go_roundg qq
      case measure => omega
      case rel => exact ⟨i + 1, by go_num, by have := HIG.out; omega, P2⟩
    · have e1 : decide ((i : Int) < (m : Int)) = false := decide_eq_false (by omega)
      have e2 : decide (i < m) = false := decide_eq_false hlt
      obtain rfl : i = m := by omega
      have P3 : Hid (Below W0.heap.size W0 wr ∧ wr.ownsRow W0.heap.size 22 1 u3 K (slL g c n K)) := by unfold Hid; rw [← hK]; exact P1.out
      obtain ⟨lo, lc, rfl, -⟩ := owns_slice P3.out.2
      have P4 : Hid (SeA W0 wr base n K g c lo lc C0) := ⟨P3.out.1.mono HB0.out, P3.out.2, fun k hk => (HF.out k hk).later P3.out.1⟩
      have hK2 : K ≤ 200 := by omega
      clear P1 P3 hj hlt HK0
      go_wp2_with fail
      clear e1 e2
      go_loopg [5] K (fun gg iv wx => ∃ i : Nat, iv = .int .i64 i ∧ i + gg = K ∧ Hid (∃ C, SeA W0 wx base n K g c lo lc C ∧ (∀ k, k < i → C k = mkL n k)))
      case atStart => exact ⟨0, rfl, by omega, C0, P4.out, fun k hk => absurd hk (by omega)⟩
      case round =>
        clear P4
        obtain ⟨i, rfl, hj, P5⟩ := hrel
        by_cases hiK : i < K
        · have e1 : decide ((i : Int) < (K : Int)) = true := decide_eq_true (by omega)
          obtain ⟨qq, rfl⟩ : ∃ q, gk = q + 1 := ⟨gk - 1, by omega⟩
          have HIG : Hid (i + (qq + 1) = K) := hj
          have hiK' : (i : Int) < (K : Int) := by omega
          obtain ⟨C, S, hC⟩ := P5.out
          obtain ⟨q, rfl⟩ := own_some S.l (by omega)
          clear hj
          have P6 : Hid (∃ C, SeA W0 wr base n K g c (some ⟨q, 0, none⟩) lc C ∧ (∀ k, k < i → C k = mkL n k) ∧ ∀ (j' : Nat), j' < 0 → (C i)[j']? = some (1000 * (i : Int) + (j' : Int))) := ⟨C, S, hC, fun j' h => absurd h (by omega)⟩
          clear P5 S hC
          go_wp2_with fail
          go_loopg [6] n (fun gg iv wx => ∃ j : Nat, iv = .int .i64 j ∧ j + gg = n ∧ Hid (∃ C, SeA W0 wx base n K g c (some ⟨q, 0, none⟩) lc C ∧ (∀ k, k < i → C k = mkL n k) ∧ ∀ (j' : Nat), j' < j → (C i)[j']? = some (1000 * (i : Int) + (j' : Int))))
          case atStart => exact ⟨0, rfl, by omega, P6⟩
          case round =>
            clear P6
            obtain ⟨j, rfl, hj, P6⟩ := hrel
            obtain ⟨C, S', hC', hM'⟩ := P6.out
            have S : Hid (SeA W0 wr base n K g c (some ⟨q, 0, none⟩) lc C) := S'
            have hC : Hid (∀ k, k < i → C k = mkL n k) := hC'
            have hM : Hid (∀ (j' : Nat), j' < j → (C i)[j']? = some (1000 * (i : Int) + (j' : Int))) := hM'
            clear P6 S' hC' hM'
            have CL : wr.cell? ⟨q, i, none⟩ = some (.slice (some ⟨g i, 0, none⟩) n (c i)) := by
              have h := World.ownsRow.cellAt S.out.l i (by rw [Nat.mul_one]; exact hiK)
              rw [slL_at g c n K i hiK] at h
              exact h
            by_cases hjn : j < n
            · have e2 : decide ((j : Int) < (n : Int)) = true := decide_eq_true (by omega)
              obtain ⟨qr, rfl⟩ : ∃ q, gk = q + 1 := ⟨gk - 1, by omega⟩
              have HJG : Hid (j + (qr + 1) = n) := hj
              have hjn' : (j : Int) < (n : Int) := by omega
              have hi3 : i < 300 := by omega
              have hj3 : j < 300 := by omega
              have v1 : IntKind.i64.wrap (1000 * (i : Int)) = 1000 * (i : Int) := wr_i hi3
              have v2 : IntKind.i64.wrap (1000 * (i : Int) + (j : Int)) = 1000 * (i : Int) + (j : Int) := wr_ij hi3 hj3
              clear hj
              go_wp2_with (first | (refine OwL.write (by rfl) _ _ (by rfl) Try.szIM W0 base base (g i) n (c i) j (C i) (1000 * (i : Int) + (j : Int)) (by rfl) (by rfl) (S.out.f i hiK) hjn S.out.b (Nat.le_refl _) ?_; intro W7 e7 b7 s7 o7))
              have P7 : Hid (∃ C, SeA W0 W7 base n K g c (some ⟨q, 0, none⟩) lc C ∧ (∀ k, k < i → C k = mkL n k) ∧ ∀ (j' : Nat), j' < j + 1 → (C i)[j']? = some (1000 * (i : Int) + (j' : Int))) := by
                refine ⟨_, S.out.write HG.out HI.out hiK e7 b7 o7, fun k hk => ?_, fun j' hj' => ?_⟩
                · simp only [if_neg (show k ≠ i by omega)]
                  exact hC.out k hk
                · simp only [if_pos]
                  by_cases h : j' = j
                  · subst h
                    rw [List.getElem?_set_self (by rw [(S.out.f i hiK).get.1]; exact hjn)]
                  · rw [List.getElem?_set_ne (Ne.symm h)]
                    exact hM.out j' (by omega)
              clear S hC hM CL v1 v2 e7 b7 s7 o7
              go_roundg qr
              case measure => omega
              case rel => exact ⟨j + 1, by go_num, by have := HJG.out; omega, P7⟩
            · have e2 : decide ((j : Int) < (n : Int)) = false := decide_eq_false (by omega)
              have e3 : decide (j < n) = false := decide_eq_false hjn
              have P8 : Hid (∃ C, SeA W0 wr base n K g c (some ⟨q, 0, none⟩) lc C ∧ (∀ k, k < i + 1 → C k = mkL n k)) := by
                refine ⟨C, S.out, fun k hk => ?_⟩
                by_cases h : k = i
                · subst h
                  exact mkL_of (S.out.f k hiK).get.1 fun j' hj' => hM.out j' (by omega)
                · exact hC.out k (by omega)
              clear S hC hM hj
              go_wp2_with fail
              clear CL
              go_roundg qq
              case measure => omega
              case rel => exact ⟨i + 1, by go_num, by have := HIG.out; omega, P8⟩
        · have e1 : decide ((i : Int) < (K : Int)) = false := decide_eq_false (by omega)
          have e2 : decide (i < K) = false := decide_eq_false hiK
          have HGW : Hid (W0.heap.size ≤ wr.heap.size) := by obtain ⟨C, S, -⟩ := P5.out; exact S.b.size
          obtain ⟨H, hH⟩ : ∃ H, wr.heap.size = H := ⟨_, rfl⟩
          have HGH : Hid ((∀ k, k < K → g k < H) ∧ base ≤ H) := by
            rw [← hH]
            exact ⟨fun k hk => Nat.lt_of_lt_of_le (HG.out k hk) HGW.out, Nat.le_trans HB0.out HGW.out⟩
          have P9 : Hid (∃ h d, SeB W0 wr H base n K 0 g c h d lo lc (.slice none 0 0)) := by
            obtain ⟨C, S, hC⟩ := P5.out
            rw [← hH]
            exact ⟨g, c, S.toB fun k hk => hC k (by omega)⟩
          clear P5 hj hiK hH HGW
          go_wp2_with fail
          clear e1 e2
          go_loopg [7, 8] K (fun gg gv iv wx => ∃ i : Nat, iv = .int .i64 i ∧ i + gg = K ∧ Hid (∃ h d, SeB W0 wx H base n K i g c h d lo lc gv))
          case atStart => exact ⟨0, rfl, by omega, P9⟩
          case round =>
            clear P9
            obtain ⟨i, rfl, hj, PA⟩ := hrel
            by_cases hiK : i < K
            · have e1 : decide ((i : Int) < (K : Int)) = true := decide_eq_true (by omega)
              obtain ⟨qq, rfl⟩ : ∃ q, gk = q + 1 := ⟨gk - 1, by omega⟩
              have HIG : Hid (i + (qq + 1) = K) := hj
              have hiK' : (i : Int) < (K : Int) := by omega
              obtain ⟨h, d, S'⟩ := PA.out
              obtain ⟨q, rfl⟩ := own_some S'.l (by omega)
              have S : Hid (SeB W0 wr H base n K i g c h d (some ⟨q, 0, none⟩) lc u7) := S'
              have CL : wr.cell? ⟨q, i, none⟩ = some (.slice (some ⟨g i, 0, none⟩) n (c i)) := by
                have h := World.ownsRow.cellAt S.out.l i (by rw [Nat.mul_one]; exact hiK)
                rw [slL_at g c n K i hiK] at h
                exact h
              clear hj PA S'
              have PB : Hid (∃ hh dd, .slice (some ⟨g i, 0, none⟩) n (c i) = Value.slice (some ⟨hh, 0, none⟩) (n + 0) dd ∧ SeC wr wr base n (g i) i 0 hh dd) := ⟨g i, c i, rfl, S.out.begin hiK⟩
              go_wp2_with fail
              clear CL
              obtain ⟨Wy, hWy⟩ : ∃ W, wr = W := ⟨_, rfl⟩
              rw [hWy] at S PB
              go_loopg [9, 10] 20 (fun gg bv iv wx => ∃ j : Nat, iv = .int .i64 j ∧ j + gg = 20 ∧ Hid (∃ hh dd, bv = .slice (some ⟨hh, 0, none⟩) (n + j) dd ∧ SeC Wy wx base n (g i) i j hh dd))
              case atStart => exact ⟨0, rfl, by omega, by rw [hWy]; exact PB⟩
              case round =>
                clear PB hWy
                obtain ⟨j, rfl, hj, PC⟩ := hrel
                obtain ⟨hh, dd, rfl, T'⟩ := PC.out
                have T : Hid (SeC Wy wr base n (g i) i j hh dd) := T'
                clear PC T'
                by_cases hj20 : j < 20
                · have e2 : decide ((j : Int) < 20) = true := decide_eq_true (by omega)
                  obtain ⟨qr, rfl⟩ : ∃ q, gk = q + 1 := ⟨gk - 1, by omega⟩
                  have HJG : Hid (j + (qr + 1) = 20) := hj
                  have hbw : base ≤ wr.heap.size := Nat.le_trans (Nat.le_trans HGH.out.2 S.out.z) T.out.gr.size
                  have hi3 : i < 300 := by omega
                  have hj3 : j < 300 := by omega
                  have v1 : IntKind.i64.wrap (1000 * (i : Int)) = 1000 * (i : Int) := wr_i hi3
                  have v2 : IntKind.i64.wrap (1000 * (i : Int) + (j : Int)) = 1000 * (i : Int) + (j : Int) := wr_ij hi3 hj3
                  have v3 : IntKind.i64.wrap (1000 * (i : Int) + (j : Int) + 1) = 1000 * (i : Int) + (j : Int) + 1 := wr_ij1 hi3 hj3
                  have v4 : IntKind.i64.wrap (-(1000 * (i : Int) + (j : Int) + 1)) = -(1000 * (i : Int) + (j : Int) + 1) := wr_ijn hi3 hj3
                  clear hj
                  go_upto_region 20 with (first | (at_builtin; refine append_gSB Try.underlying22 Try.infoIJ rfl (by decide) (by decide) wr (by rfl) _ _ (by rfl) base (.slice (some ⟨hh, 0, none⟩) (n + j) dd) (n + j) ((mkL n i ++ ngL j i).map (Value.int .i64)) (by rfl) T.out.o 1 [.int .i64 (-(1000 * (i : Int) + (j : Int) + 1))] (by rfl) rfl (by decide) (one_int _) (len_ok hn hj20) hbw ?_; intro v5 w5 o5 g5))
                  obtain ⟨hh2, dd2, rfl, T2⟩ := T.out.step o5 g5
                  have PD : Hid (∃ hh dd, Value.slice (some ⟨hh2, 0, none⟩) (n + (j + 1)) dd2 = .slice (some ⟨hh, 0, none⟩) (n + (j + 1)) dd ∧ SeC Wy w5 base n (g i) i (j + 1) hh dd) := ⟨hh2, dd2, rfl, T2⟩
                  clear T T2 o5 g5 v1 v2 v3 v4 hbw
                  go_wp2_with fail
                  go_roundg qr
                  case measure => omega
                  case rel => exact ⟨j + 1, by go_num, by have := HJG.out; omega, PD⟩
                · have e2 : decide ((j : Int) < 20) = false := decide_eq_false (by omega)
                  have e3 : decide (j < 20) = false := decide_eq_false hj20
                  obtain rfl : j = 20 := by omega
                  have HV : Hid _ := SeC.v S.out T.out (HGH.out.1 i hiK)
                  have hbw : H ≤ wr.heap.size := Nat.le_trans S.out.z T.out.gr.size
                  clear hj
                  go_wp2_with (first | (at_builtin; refine append_gSB Try.underlying78 Try.infoLJ rfl (by decide) (by decide) wr (by rfl) _ _ (by rfl) H u7 i (slL h d (n + 20) i) (by rfl) HV.out 1 [.slice (some ⟨hh, 0, none⟩) (n + 20) dd] (by rfl) rfl (by decide) (one_slc _ _ _) (by omega) hbw ?_; intro v5 w5 o5 g5))
                  have PE : Hid (∃ h d, SeB W0 w5 H base n K (i + 1) g c h d (some ⟨q, 0, none⟩) lc v5) := S.out.next T.out hiK HGH.out.1 HI.out HGH.out.2 o5 g5
                  clear S T HV hbw o5 g5
                  go_roundg qq
                  case measure => omega
                  case rel => exact ⟨i + 1, by go_num, by have := HIG.out; omega, PE⟩
            · have e1 : decide ((i : Int) < (K : Int)) = false := decide_eq_false (by omega)
              have e2 : decide (i < K) = false := decide_eq_false hiK
              obtain rfl : i = K := by omega
              obtain ⟨h, d, S'⟩ := PA.out
              obtain ⟨go, gc, rfl, -⟩ := owns_slice S'.v
              have S : Hid (SeB W0 wr H base n i i g c h d lo lc (.slice go i gc)) := S'
              clear PA S' hj hiK
              go_wp2_with fail
              clear e1 e2
              obtain ⟨K, rfl⟩ : ∃ K, K = i := ⟨_, rfl⟩
              go_loopg [11] K (fun gg iv wx => ∃ i : Nat, iv = .int .i64 i ∧ i + gg = K ∧ Hid (SeB W0 wx H base n K K g c h d lo lc (.slice go K gc)))
              case atStart => exact ⟨0, rfl, by omega, S⟩
              case round =>
                clear S
                obtain ⟨i, rfl, hj, S⟩ := hrel
                by_cases hiK : i < K
                · have e1 : decide ((i : Int) < (K : Int)) = true := decide_eq_true (by omega)
                  obtain ⟨qq, rfl⟩ : ∃ q, gk = q + 1 := ⟨gk - 1, by omega⟩
                  have HIG : Hid (i + (qq + 1) = K) := hj
                  have hiK' : (i : Int) < (K : Int) := by omega
                  obtain ⟨q, rfl⟩ := own_some S.out.l (by omega)
                  obtain ⟨p, rfl⟩ := own_some S.out.v (by omega)
                  clear hj
                  go_wp2_with fail
                  go_loopg [12] n (fun gg iv wx => ∃ j : Nat, iv = .int .i64 j ∧ j + gg = n ∧ Hid (SeB W0 wx H base n K K g c h d (some ⟨q, 0, none⟩) lc (.slice (some ⟨p, 0, none⟩) K gc)))
                  case atStart => exact ⟨0, rfl, by omega, S⟩
                  case round =>
                    clear S
                    obtain ⟨j, rfl, hj, S⟩ := hrel
                    have CL : wr.cell? ⟨q, i, none⟩ = some (.slice (some ⟨g i, 0, none⟩) n (c i)) := by
                      have h := World.ownsRow.cellAt S.out.l i (by rw [Nat.mul_one]; exact hiK)
                      rw [slL_at g c n K i hiK] at h
                      exact h
                    by_cases hjn : j < n
                    · have e2 : decide ((j : Int) < (n : Int)) = true := decide_eq_true (by omega)
                      obtain ⟨qr, rfl⟩ : ∃ q, gk = q + 1 := ⟨gk - 1, by omega⟩
                      have HJG : Hid (j + (qr + 1) = n) := hj
                      have hjn' : (j : Int) < (n : Int) := by omega
                      have hi3 : i < 300 := by omega
                      have hj3 : j < 300 := by omega
                      have v1 : IntKind.i64.wrap (1000 * (i : Int)) = 1000 * (i : Int) := wr_i hi3
                      have v2 : IntKind.i64.wrap (1000 * (i : Int) + (j : Int)) = 1000 * (i : Int) + (j : Int) := wr_ij hi3 hj3
                      have CM := S.out.r i hiK j hjn
                      have f4 : ((1000 * (i : Int) + (j : Int)) != (1000 * (i : Int) + (j : Int))) = false := by simp
                      clear hj
                      go_wp2_with fail
                      clear CL CM v1 v2 f4
                      go_roundg qr
                      case measure => omega
                      case rel => exact ⟨j + 1, by go_num, by have := HJG.out; omega, S⟩
                    · have e2 : decide ((j : Int) < (n : Int)) = false := decide_eq_false (by omega)
                      have e3 : decide (j < n) = false := decide_eq_false hjn
                      clear hj
                      go_wp2_with fail
                      clear CL
                      go_loopg [13] 20 (fun gg iv wx => ∃ j : Nat, iv = .int .i64 j ∧ j + gg = 20 ∧ Hid (SeB W0 wx H base n K K g c h d (some ⟨q, 0, none⟩) lc (.slice (some ⟨p, 0, none⟩) K gc)))
                      case atStart => exact ⟨0, rfl, by omega, S⟩
                      case round =>
                        clear S
                        obtain ⟨j, rfl, hj, S⟩ := hrel
                        by_cases hj20 : j < 20
                        · have e2 : decide ((j : Int) < 20) = true := decide_eq_true (by omega)
                          obtain ⟨qr, rfl⟩ : ∃ q, gk = q + 1 := ⟨gk - 1, by omega⟩
                          have HJG : Hid (j + (qr + 1) = 20) := hj
                          have CL : wr.cell? ⟨q, i, none⟩ = some (.slice (some ⟨g i, 0, none⟩) n (c i)) := by
                            have h := World.ownsRow.cellAt S.out.l i (by rw [Nat.mul_one]; exact hiK)
                            rw [slL_at g c n K i hiK] at h
                            exact h
                          have CP : wr.cell? ⟨p, i, none⟩ = some (.slice (some ⟨h i, 0, none⟩) (n + 20) (d i)) := by
                            have hq := World.ownsRow.cellAt S.out.v i (by rw [Nat.mul_one]; exact hiK)
                            rw [slL_at h d (n + 20) K i hiK] at hq
                            exact hq
                          have CM : wr.cell? ⟨h i, n + j, none⟩ = some (.int .i64 (-(1000 * (i : Int) + (j : Int) + 1))) := by
                            have hq := (S.out.w i hiK).at (n + j) (by omega)
                            rw [List.getElem?_append_right (by rw [mkL_len]; omega), mkL_len, Nat.add_sub_cancel_left, ngL_at 20 i j hj20] at hq
                            exact hq
                          have f4 : ((-(1000 * (i : Int) + (j : Int) + 1)) != (-(1000 * (i : Int) + (j : Int) + 1))) = false := by simp
                          have f5 : (n : Int) + (j : Int) < ((n + 20 : Nat) : Int) := by omega
                          have f6 : (0 : Int) ≤ (n : Int) + (j : Int) := by omega
                          have hn3 : n < 300 := by omega
                          have hi3 : i < 300 := by omega
                          have hj3 : j < 300 := by omega
                          have v1 : IntKind.i64.wrap (1000 * (i : Int)) = 1000 * (i : Int) := wr_i hi3
                          have v2 : IntKind.i64.wrap (1000 * (i : Int) + (j : Int)) = 1000 * (i : Int) + (j : Int) := wr_ij hi3 hj3
                          have v3 : IntKind.i64.wrap (1000 * (i : Int) + (j : Int) + 1) = 1000 * (i : Int) + (j : Int) + 1 := wr_ij1 hi3 hj3
                          have v4 : IntKind.i64.wrap (-(1000 * (i : Int) + (j : Int) + 1)) = -(1000 * (i : Int) + (j : Int) + 1) := wr_ijn hi3 hj3
                          have v5 : IntKind.i64.wrap ((n : Int) + (j : Int)) = (n : Int) + (j : Int) := wr_nj hn3 hj3
                          clear hj
                          go_upto_region 34 with fail
                          go_quiet (fail)
                          clear CL CM CP v1 v2 v3 v4 v5 f4 f5 f6
                          have S9 : Hid (SeB W0 (wr.drewN nq) H base n K K g c h d (some ⟨q, 0, none⟩) lc (.slice (some ⟨p, 0, none⟩) K gc)) := ⟨below_drewN S.out.b _, S.out.l, S.out.lb, S.out.v, S.out.f, S.out.r, S.out.w, S.out.s, S.out.z⟩
                          clear S
                          go_wp2_with fail
                          go_roundg qr
                          case measure => omega
                          case rel => exact ⟨j + 1, by go_num, by have := HJG.out; omega, S9⟩
                        · have e2 : decide ((j : Int) < 20) = false := decide_eq_false (by omega)
                          have e3 : decide (j < 20) = false := decide_eq_false hj20
                          clear hj
                          go_wp2_with fail
                          go_roundg qq
                          case measure => omega
                          case rel => exact ⟨i + 1, by go_num, by have := HIG.out; omega, S⟩
                · have e1 : decide ((i : Int) < (K : Int)) = false := decide_eq_false (by omega)
                  have e2 : decide (i < K) = false := decide_eq_false hiK
                  have PZ : Hid (Below base W0 wr) := S.out.b
                  clear hj hiK S
                  go_wp2_with fail
                  go_ret
                  exact ⟨rfl, PZ.out⟩
end Go.Proofs.Ytaadhjdbieoieaa
