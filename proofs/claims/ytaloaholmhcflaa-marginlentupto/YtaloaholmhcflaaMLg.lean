import Derived.Deep.QuietTactic
import Derived.BigQuiet
import Derived.Test.YtaloaholmhcflaaMLf
namespace Go.Proofs.Ytaloaholmhcflaa
open Go.RowKit Go.Shelf
set_option linter.unusedVariables false
set_option linter.unusedSimpArgs false
theorem num_x {i j xn : Nat} {xi : Int} (h1 : 1000 * (i : Int) + (j : Int) + 500000000 = xi) (h2 : 1000 * i + j + 500000000 = xn) : xi.toNat = xn := by
  have h3 : 1000 * (i : Int) + (j : Int) + 500000000 = ((1000 * i + j + 500000000 : Nat) : Int) := by simp
  rw [← h1, h3, h2, Int.toNat_natCast]
theorem Try.szFV : (Try.prog.info? 50).map (·.size) = some 1 := by kernel_rfl
theorem Try.szIV : (Try.prog.info? 3).map (·.size) = some 1 := by kernel_rfl
theorem Try.infoFV : (Try.prog.info? 50).map (fun i => (i.zero, i.size, i.bytes)) = some (some (.float .f64 0), 1, 8) := by kernel_rfl
theorem Try.infoIV : (Try.prog.info? 3).map (fun i => (i.zero, i.size, i.bytes)) = some (some (.int .i64 0), 1, 8) := by kernel_rfl
theorem Try.infoFsV : (Try.prog.info? 22).map (fun i => (i.zero, i.size, i.bytes)) = some (some (.slice none 0 0), 1, 24) := by kernel_rfl
theorem Try.infoIsV : (Try.prog.info? 23).map (fun i => (i.zero, i.size, i.bytes)) = some (some (.slice none 0 0), 1, 24) := by kernel_rfl
theorem put_noneV {P : Program} {md : Region.Mode} {ops : Array Oper} {Q : Exit → Act → World → Prop} {S : World → Prop} {s fuel : Nat} {l : Array Bool} {a : Act} {dst : Option Tmp} {v : Value} {w : World} (hd : dst = none) (h : wpAnyP P md ops Q S s fuel l a w) : wpAnyP P md ops Q S s fuel l (a.put dst v) w := by subst hd; exact h
/-- While lists are marked; all else stays. -/
structure SvM (W0 W : World) (E : TypeId) (base n K : Nat) (g c : Nat → Nat) (C : Nat → List Value) : Prop where
  a : SvA W0 W E base n K g c C
  o : ∀ k, (∀ i, i < K → k ≠ g i) → W.heap[k]? = W0.heap[k]?
  z : W.heap.size = W0.heap.size
theorem SvM.write {W0 W W' : World} {E : TypeId} {base n K : Nat} {g c : Nat → Nat} {C : Nat → List Value} (h : SvM W0 W E base n K g c C) (hi : ∀ i j, i < K → j < K → g i = g j → i = j)
    {i : Nat} (hiK : i < K) {vs : List Value} (e : OwV W' base E (g i) n (c i) vs) (b : Below base W0 W') (z : W'.heap.size = W.heap.size) (o : ∀ k, k ≠ g i → W'.heap[k]? = W.heap[k]?) : SvM W0 W' E base n K g c (fun k => if k = i then vs else C k) :=
  ⟨h.a.write hi hiK e b o, fun k hk => (o k (hk i hiK)).trans (h.o k hk), z.trans h.z⟩
theorem SvM.drew {W0 W : World} {E : TypeId} {base n K : Nat} {g c : Nat → Nat} {C : Nat → List Value} (h : SvM W0 W E base n K g c C) : SvM W0 W.drew E base n K g c C := ⟨⟨h.a.b.drew, h.a.f⟩, h.o, h.z⟩
set_option maxRecDepth 100000 in
set_option maxHeartbeats 20000000 in
theorem marked_any (K1 K2 n m base : Nat) (g c g' c' : Nat → Nat) (lo io : Option Addr) (lc ic bl bi : Nat) (C0 D0 : Nat → List Value) (W0 : World) (hK1 : K1 ≤ 2000) (hK2 : K2 ≤ 100) (hn : n ≤ 2000) (hm : m ≤ 100) (hb0 : base ≤ W0.heap.size)
    (hl : W0.ownsRow bl 22 1 (.slice lo K1 lc) K1 (slL g c n K1)) (hi : W0.ownsRow bi 23 1 (.slice io K2 ic) K2 (slL g' c' m K2))
    (hF : ∀ k, k < K1 → OwV W0 base 50 (g k) n (c k) (C0 k)) (hinj : ∀ i j, i < K1 → j < K1 → g i = g j → i = j) (hG : ∀ k, k < K2 → OwV W0 base 3 (g' k) m (c' k) (D0 k)) (hinj' : ∀ i j, i < K2 → j < K2 → g' i = g' j → i = j) :
    Calls Try.prog 12 #[.slice lo K1 lc, .slice io K2 ic] W0 fun e w' => e = .returned (.bool true) ∧ Below base W0 w' ∧ ∀ k, k < W0.heap.size → (∀ i, i < K1 → k ≠ g i) → (∀ i, i < K2 → k ≠ g' i) → w'.heap[k]? = W0.heap[k]? := by
  have tyne : ∀ {k k' : Nat} {cur cur' : Array Value} {t t' : TypeId}, t ≠ t' → W0.heap[k]? = some (.cells cur t) → W0.heap[k']? = some (.cells cur' t') → k ≠ k' := by
    rintro k k' cur cur' t t' ht h1 h2 rfl
    rw [h1] at h2
    injection h2 with h2
    injection h2 with _ h2
    exact ht h2
  have HGT : Hid (∀ i, i < K1 → ∃ cur, W0.heap[g i]? = some (.cells cur 50)) := fun i hi => by obtain ⟨_, _, _, _, cur, h1, _⟩ := (hF i hi).get; exact ⟨cur, h1⟩
  have HGT' : Hid (∀ i, i < K2 → ∃ cur, W0.heap[g' i]? = some (.cells cur 3)) := fun i hi => by obtain ⟨_, _, _, _, cur, h1, _⟩ := (hG i hi).get; exact ⟨cur, h1⟩
  have HD1 : Hid (∀ i j, i < K1 → j < K2 → g i ≠ g' j) := fun i j hi hj => by obtain ⟨_, h1⟩ := HGT.out i hi; obtain ⟨_, h2⟩ := HGT'.out j hj; exact tyne (by decide) h1 h2
  have HDL : Hid (∀ k, (Value.slice lo K1 lc).ownBlock = some k → (∀ i, i < K1 → k ≠ g i) ∧ (∀ i, i < K2 → k ≠ g' i) ∧ k < W0.heap.size) := fun k e => by
    obtain ⟨_, h1⟩ := owns_type hl e
    exact ⟨fun i hi => (by obtain ⟨_, h2⟩ := HGT.out i hi; exact tyne (by decide) h1 h2), fun i hi => (by obtain ⟨_, h2⟩ := HGT'.out i hi; exact tyne (by decide) h1 h2), blk_lt h1⟩
  have HDI : Hid (∀ k, (Value.slice io K2 ic).ownBlock = some k → (∀ i, i < K1 → k ≠ g i) ∧ (∀ i, i < K2 → k ≠ g' i) ∧ k < W0.heap.size) := fun k e => by
    obtain ⟨_, h1⟩ := owns_type hi e
    exact ⟨fun i hi => (by obtain ⟨_, h2⟩ := HGT.out i hi; exact tyne (by decide) h1 h2), fun i hi => (by obtain ⟨_, h2⟩ := HGT'.out i hi; exact tyne (by decide) h1 h2), blk_lt h1⟩
  have HI : Hid (∀ i j, i < K1 → j < K1 → g i = g j → i = j) := hinj
  have HI2 : Hid (∀ i j, i < K2 → j < K2 → g' i = g' j → i = j) := hinj'
  have HB0 : Hid (base ≤ W0.heap.size) := hb0
  have HLR : Hid (W0.ownsRow bl 22 1 (.slice lo K1 lc) K1 (slL g c n K1) ∧ ∀ W : World, (∀ k, (∀ i, i < K1 → k ≠ g i) → W.heap[k]? = W0.heap[k]?) → W.ownsRow bl 22 1 (.slice lo K1 lc) K1 (slL g c n K1)) := ⟨hl, fun W hW => owns_keep hl fun k e => hW k (HDL.out k e).1⟩
  have HGL : Hid ((∀ k, k < K1 → g k < W0.heap.size) ∧ (∀ k, k < K2 → g' k < W0.heap.size)) := ⟨fun k hk => (hF k hk).lt, fun k hk => (hG k hk).lt⟩
  have HIL : Hid _ := hi
  have HGF : Hid (∀ k, k < K2 → OwV W0 base 3 (g' k) m (c' k) (D0 k)) := hG
  have PA : Hid (∃ C, SvM W0 W0 50 base n K1 g c C ∧ (∀ k, k < 0 → C k = mkV fmF n k)) := ⟨C0, ⟨⟨Below.refl _ _, hF⟩, fun _ _ => rfl, rfl⟩, fun k hk => absurd hk (by omega)⟩
  clear hl hi hF hinj hG hinj' hb0 tyne
  go_enter Try.func12, Try.ntmps12
  go_wp2_with fail
  go_loopg [5] K1 (fun gg iv wx => ∃ i : Nat, iv = .int .i64 i ∧ i + gg = K1 ∧ Hid (∃ C, SvM W0 wx 50 base n K1 g c C ∧ (∀ k, k < i → C k = mkV fmF n k)))
  case atStart => exact ⟨0, rfl, by omega, PA⟩
  case round =>
    clear PA
    obtain ⟨i, rfl, hj, P5⟩ := hrel
    by_cases hiK : i < K1
    · have e1 : decide ((i : Int) < (K1 : Int)) = true := decide_eq_true (by omega)
      obtain ⟨qq, rfl⟩ : ∃ q, gk = q + 1 := ⟨gk - 1, by omega⟩
      have HIG : Hid (i + (qq + 1) = K1) := hj
      have hiK' : (i : Int) < (K1 : Int) := by omega
      obtain ⟨q, rfl⟩ := own_someV HLR.out.1 (by omega)
      have P6 : Hid (∃ C, SvM W0 wr 50 base n K1 g c C ∧ (∀ k, k < i → C k = mkV fmF n k) ∧ ∀ j', j' < 0 → (C i)[j']? = some (fmF i j')) := by obtain ⟨C, S, hC⟩ := P5.out; exact ⟨C, S, hC, fun j' h => absurd h (by omega)⟩
      clear hj P5
      go_wp2_with fail
      go_loopg [6] n (fun gg iv wx => ∃ j : Nat, iv = .int .i64 j ∧ j + gg = n ∧ Hid (∃ C, SvM W0 wx 50 base n K1 g c C ∧ (∀ k, k < i → C k = mkV fmF n k) ∧ ∀ j', j' < j → (C i)[j']? = some (fmF i j')))
      case atStart => exact ⟨0, rfl, by omega, P6⟩
      case round =>
        clear P6
        obtain ⟨j, rfl, hj, P6⟩ := hrel
        obtain ⟨C, S', hC', hM'⟩ := P6.out
        have S : Hid (SvM W0 wr 50 base n K1 g c C) := S'
        have hC : Hid (∀ k, k < i → C k = mkV fmF n k) := hC'
        have hM : Hid (∀ j', j' < j → (C i)[j']? = some (fmF i j')) := hM'
        clear P6 S' hC' hM'
        have CL : wr.cell? ⟨q, i, none⟩ = some (.slice (some ⟨g i, 0, none⟩) n (c i)) := by
          have h9 := World.ownsRow.cellAt (HLR.out.2 _ S.out.o) i (by rw [Nat.mul_one]; exact hiK)
          rw [slL_at g c n K1 i hiK] at h9
          exact h9
        by_cases hjn : j < n
        · have e2 : decide ((j : Int) < (n : Int)) = true := decide_eq_true (by omega)
          obtain ⟨qr, rfl⟩ : ∃ q, gk = q + 1 := ⟨gk - 1, by omega⟩
          have HJG : Hid (j + (qr + 1) = n) := hj
          have hjn' : (j : Int) < (n : Int) := by omega
          have hi3 : i < 3000 := by omega
          have hj3 : j < 3000 := by omega
          have v1 := wv_i hi3
          have v2 := wv_ij hi3 hj3
          have u2 := wu_ij hi3 hj3
          clear hj
          have HNJ : Hid ((1000 * (i : Int) + (j : Int)).toNat = 1000 * i + j) := by unfold Hid; omega
          go_upto_region 7 with fail
          refine wp_region_noPanic ?_
          refine wp_region_P (fun V => Below wr.heap.size wr V) 12 (by kernel_rfl) ?_
          have SQ : Below wr.heap.size wr wr.drew := (Below.refl _ wr).drew
          refine takeP0 32 (i := 0) (v := ?_) rfl rfl (by kernel_rfl) (by kernel_rfl) (by kernel_rfl) rfl (fun _ _ _ h => h) (Or.inl ⟨by kernel_rfl, ?_⟩) (fun _ => SQ) ?_
          rotate_left
          · intro w' hSw; go_simp; try with_reducible rfl
          try simp only [Act.put, List.setIfInBounds_toArray, List.set_cons_zero, List.set_cons_succ]
          refine takeP0 33 (i := 1) (v := ?_) rfl rfl (by kernel_rfl) (by kernel_rfl) (by kernel_rfl) rfl (fun _ _ _ h => h) (Or.inl ⟨by kernel_rfl, ?_⟩) (fun _ => SQ) ?_
          rotate_left
          · intro w' hSw; go_simp; try with_reducible rfl
          try simp only [Act.put, List.setIfInBounds_toArray, List.set_cons_zero, List.set_cons_succ]
          refine takeP0 34 (i := 2) (v := ?_) rfl rfl (by kernel_rfl) (by kernel_rfl) (by kernel_rfl) rfl (fun _ _ _ h => h) (Or.inl ⟨by kernel_rfl, ?_⟩) (fun _ => SQ) ?_
          rotate_left
          · intro w' hSw; go_simp; try with_reducible rfl
          try simp only [Act.put, List.setIfInBounds_toArray, List.set_cons_zero, List.set_cons_succ]
          refine takeP 35 (i := 3) (v := ?_) rfl rfl (by kernel_rfl) (by kernel_rfl) (by kernel_rfl) (by kernel_rfl) rfl (by kernel_rfl) (fun _ _ _ h => h) (Or.inl ⟨by kernel_rfl, ?_⟩) SQ ?_
          rotate_left
          · intro w' hSw; have s1 := (hSw.cell (World.block_lt_of_cell? _ _ CL)).trans CL; go_simp; try with_reducible rfl
          try simp only [Act.put, List.setIfInBounds_toArray, List.set_cons_zero, List.set_cons_succ]
          refine takeP0 36 (i := 4) (v := ?_) rfl rfl (by kernel_rfl) (by kernel_rfl) (by kernel_rfl) rfl (fun _ _ _ h => h) (Or.inl ⟨by kernel_rfl, ?_⟩) (fun _ => SQ) ?_
          rotate_left
          · intro w' hSw; go_simp; try with_reducible rfl
          try simp only [Act.put, List.setIfInBounds_toArray, List.set_cons_zero, List.set_cons_succ]
          refine takeP0 37 (i := 5) (v := ?_) rfl rfl (by kernel_rfl) (by kernel_rfl) (by kernel_rfl) rfl (fun _ _ _ h => h) (Or.inl ⟨by kernel_rfl, ?_⟩) (fun _ => SQ) ?_
          rotate_left
          · intro w' hSw; go_simp; try with_reducible rfl
          try simp only [Act.put, List.setIfInBounds_toArray, List.set_cons_zero, List.set_cons_succ]
          refine takeP0 38 (i := 6) (v := ?_) rfl rfl (by kernel_rfl) (by kernel_rfl) (by kernel_rfl) rfl (fun _ _ _ h => h) (Or.inl ⟨by kernel_rfl, ?_⟩) (fun _ => SQ) ?_
          rotate_left
          · intro w' hSw; go_simp; try with_reducible rfl
          try simp only [Act.put, List.setIfInBounds_toArray, List.set_cons_zero, List.set_cons_succ]
          refine takeP0 39 (i := 7) (v := ?_) rfl rfl (by kernel_rfl) (by kernel_rfl) (by kernel_rfl) rfl (fun _ _ _ h => h) (Or.inl ⟨by kernel_rfl, ?_⟩) (fun _ => SQ) ?_
          rotate_left
          · intro w' hSw; go_simp; try with_reducible rfl
          try simp only [Act.put, List.setIfInBounds_toArray, List.set_cons_zero, List.set_cons_succ]
          refine takeP0 40 (i := 8) (v := ?_) rfl rfl (by kernel_rfl) (by kernel_rfl) (by kernel_rfl) rfl (fun _ _ _ h => h) (Or.inl ⟨by kernel_rfl, ?_⟩) (fun _ => SQ) ?_
          rotate_left
          · intro w' hSw; go_simp; try with_reducible rfl
          try simp only [Act.put, List.setIfInBounds_toArray, List.set_cons_zero, List.set_cons_succ]
          refine takeP0 41 (i := 9) (v := ?_) rfl rfl (by kernel_rfl) (by kernel_rfl) (by kernel_rfl) rfl (fun _ _ _ h => h) (Or.inl ⟨by kernel_rfl, ?_⟩) (fun _ => SQ) ?_
          rotate_left
          · intro w' hSw; go_simp; try with_reducible rfl
          try simp only [Act.put, List.setIfInBounds_toArray, List.set_cons_zero, List.set_cons_succ]
          refine wpAnyP_ready (rs := [10]) (by kernel_rfl) (by simp) ?_
          refine consP _ rfl (hopCd 42 rfl (by kernel_rfl) rfl (by kernel_rfl) (Calls.mono (float_int (1000 * (i : Int) + (j : Int)) _) ?_)) AllReadyP.nil
          rintro e V1 ⟨rfl, hV1⟩
          rw [hV1, HNJ.out]
          clear hV1
          refine ⟨_, rfl, SQ, ?_⟩
          try simp only [Act.put, List.setIfInBounds_toArray, List.set_cons_zero, List.set_cons_succ]
          refine takeP0 43 (i := 11) (v := ?_) rfl rfl (by kernel_rfl) (by kernel_rfl) (by kernel_rfl) rfl (fun _ _ _ h => h) (Or.inl ⟨by kernel_rfl, ?_⟩) (fun _ => SQ) ?_
          rotate_left
          · intro w' hSw; go_simp; try with_reducible rfl
          try simp only [Act.put, List.setIfInBounds_toArray, List.set_cons_zero, List.set_cons_succ]
          refine wpAnyP_ready (rs := [12]) (by kernel_rfl) (by simp) ?_
          refine consPs _ rfl (by kernel_rfl) (hopL rfl (OwV.write (by rfl) _ _ (by rfl) Try.szFV W0 base base (g i) n (c i) j (C i) (.float .f64 (1000 * i + j)) rfl rfl (by kernel_rfl) (by kernel_rfl) (S.out.drew.a.f i hiK) hjn S.out.drew.a.b (Nat.le_refl _) fun W7 e7 b7 s7 o7 => ?_)) AllReadyP.nil
          refine ⟨trivial, ?_⟩
          refine put_noneV rfl ?_
          try simp only [Act.put, List.setIfInBounds_toArray, List.set_cons_zero, List.set_cons_succ]
          refine wpAnyP_done (by kernel_rfl) ?_ _
          refine NoPanic.normal ?_
          try simp only [Act.put, List.setIfInBounds_toArray, List.set_cons_zero, List.set_cons_succ]
          have P7 : Hid (∃ C, SvM W0 W7 50 base n K1 g c C ∧ (∀ k, k < i → C k = mkV fmF n k) ∧ ∀ j', j' < j + 1 → (C i)[j']? = some (fmF i j')) := by
            refine ⟨_, S.out.drew.write HI.out hiK e7 b7 s7 o7, fun k hk => ?_, fun j' hj' => ?_⟩
            · simp only [if_neg (show k ≠ i by omega)]
              exact hC.out k hk
            · simp only [if_pos]
              by_cases h : j' = j
              · subst h
                rw [List.getElem?_set_self (by rw [(S.out.a.f i hiK).get.1]; exact hjn)]
                rfl
              · rw [List.getElem?_set_ne (Ne.symm h)]
                exact hM.out j' (by omega)
          clear S hC hM CL v1 v2 e7 b7 s7 o7 u2 SQ HNJ
          go_wp2_with fail
          go_roundg qr
          case measure => omega
          case rel => exact ⟨j + 1, by go_num, by have := HJG.out; omega, P7⟩
        · have e2 : decide ((j : Int) < (n : Int)) = false := decide_eq_false (by omega)
          have e3 : decide (j < n) = false := decide_eq_false hjn
          have P8 : Hid (∃ C, SvM W0 wr 50 base n K1 g c C ∧ (∀ k, k < i + 1 → C k = mkV fmF n k)) := by
            refine ⟨C, S.out, fun k hk => ?_⟩
            by_cases h : k = i
            · subst h
              exact mkV_of (S.out.a.f k hiK).get.1 fun j' hj' => hM.out j' (by omega)
            · exact hC.out k (by omega)
          clear S hC hM hj
          go_wp2_with fail
          clear CL
          go_roundg qq
          case measure => omega
          case rel => exact ⟨i + 1, by go_num, by have := HIG.out; omega, P8⟩
    · have e1 : decide ((i : Int) < (K1 : Int)) = false := decide_eq_false (by omega)
      have e2 : decide (i < K1) = false := decide_eq_false hiK
      have PE : Hid (∃ C, SvM W0 wr 50 base n K1 g c C ∧ (∀ k, k < K1 → C k = mkV fmF n k)) := by obtain ⟨C, S, hC⟩ := P5.out; exact ⟨C, S, fun k hk => hC k (by omega)⟩
      clear P5 hj hiK
      go_wp2_with fail
      clear e1 e2
      obtain ⟨W1, hW1⟩ : ∃ W, wr = W := ⟨_, rfl⟩
      rw [hW1] at PE ⊢
      clear hW1
      have H1 : Hid ((∀ k, (∀ i, i < K1 → k ≠ g i) → W1.heap[k]? = W0.heap[k]?) ∧ W1.heap.size = W0.heap.size ∧ Below base W0 W1 ∧ ∀ k, k < K1 → OwV W1 base 50 (g k) n (c k) (mkV fmF n k)) := by obtain ⟨C, S, hC⟩ := PE.out; exact ⟨S.o, S.z, S.a.b, fun k hk => hC k hk ▸ S.a.f k hk⟩
      have HIR : Hid (W1.ownsRow bi 23 1 (.slice io K2 ic) K2 (slL g' c' m K2) ∧ ∀ W : World, (∀ k, (∀ i, i < K2 → k ≠ g' i) → W.heap[k]? = W1.heap[k]?) → W.ownsRow bi 23 1 (.slice io K2 ic) K2 (slL g' c' m K2)) := by
        have h9 := owns_keep HIL.out (w' := W1) fun k e => H1.out.1 k (HDI.out k e).1
        exact ⟨h9, fun W hW => owns_keep h9 fun k e => hW k (HDI.out k e).2.1⟩
      have PB : Hid (∃ D, SvM W1 W1 3 base m K2 g' c' D ∧ (∀ k, k < 0 → D k = mkV fmI m k)) := ⟨D0, ⟨⟨Below.refl _ _, fun k hk => (HGF.out k hk).keep (H1.out.1 _ fun i hi e => HD1.out i k hi hk e.symm)⟩, fun _ _ => rfl, rfl⟩, fun k hk => absurd hk (by omega)⟩
      clear PE
      go_loopg [7] K2 (fun gg iv wx => ∃ i : Nat, iv = .int .i64 i ∧ i + gg = K2 ∧ Hid (∃ D, SvM W1 wx 3 base m K2 g' c' D ∧ (∀ k, k < i → D k = mkV fmI m k)))
      case atStart => exact ⟨0, rfl, by omega, PB⟩
      case round =>
        clear PB
        obtain ⟨i, rfl, hj, P5⟩ := hrel
        by_cases hiK : i < K2
        · have e1 : decide ((i : Int) < (K2 : Int)) = true := decide_eq_true (by omega)
          obtain ⟨qq, rfl⟩ : ∃ q, gk = q + 1 := ⟨gk - 1, by omega⟩
          have HIG : Hid (i + (qq + 1) = K2) := hj
          have hiK' : (i : Int) < (K2 : Int) := by omega
          obtain ⟨p, rfl⟩ := own_someV HIR.out.1 (by omega)
          have P6 : Hid (∃ D, SvM W1 wr 3 base m K2 g' c' D ∧ (∀ k, k < i → D k = mkV fmI m k) ∧ ∀ j', j' < 0 → (D i)[j']? = some (fmI i j')) := by obtain ⟨D, S, hC⟩ := P5.out; exact ⟨D, S, hC, fun j' h => absurd h (by omega)⟩
          clear hj P5
          go_wp2_with fail
          go_loopg [8] m (fun gg iv wx => ∃ j : Nat, iv = .int .i64 j ∧ j + gg = m ∧ Hid (∃ D, SvM W1 wx 3 base m K2 g' c' D ∧ (∀ k, k < i → D k = mkV fmI m k) ∧ ∀ j', j' < j → (D i)[j']? = some (fmI i j')))
          case atStart => exact ⟨0, rfl, by omega, P6⟩
          case round =>
            clear P6
            obtain ⟨j, rfl, hj, P6⟩ := hrel
            obtain ⟨D, S', hC', hM'⟩ := P6.out
            have S : Hid (SvM W1 wr 3 base m K2 g' c' D) := S'
            have hC : Hid (∀ k, k < i → D k = mkV fmI m k) := hC'
            have hM : Hid (∀ j', j' < j → (D i)[j']? = some (fmI i j')) := hM'
            clear P6 S' hC' hM'
            have CL : wr.cell? ⟨p, i, none⟩ = some (.slice (some ⟨g' i, 0, none⟩) m (c' i)) := by
              have h9 := World.ownsRow.cellAt (HIR.out.2 _ S.out.o) i (by rw [Nat.mul_one]; exact hiK)
              rw [slL_at g' c' m K2 i hiK] at h9
              exact h9
            by_cases hjn : j < m
            · have e2 : decide ((j : Int) < (m : Int)) = true := decide_eq_true (by omega)
              obtain ⟨qr, rfl⟩ : ∃ q, gk = q + 1 := ⟨gk - 1, by omega⟩
              have HJG : Hid (j + (qr + 1) = m) := hj
              have hjn' : (j : Int) < (m : Int) := by omega
              have hi3 : i < 3000 := by omega
              have hj3 : j < 3000 := by omega
              have v1 := wv_i hi3
              have v2 := wv_ij hi3 hj3
              clear hj
              go_wp2_with (first | (refine OwV.write (by rfl) _ _ (by rfl) Try.szIV W1 base base (g' i) m (c' i) j (D i) (.int .i64 (1000 * (i : Int) + (j : Int))) rfl rfl (by rfl) (by rfl) (S.out.a.f i hiK) hjn S.out.a.b (Nat.le_refl _) ?_; intro W7 e7 b7 s7 o7))
              have P7 : Hid (∃ D, SvM W1 W7 3 base m K2 g' c' D ∧ (∀ k, k < i → D k = mkV fmI m k) ∧ ∀ j', j' < j + 1 → (D i)[j']? = some (fmI i j')) := by
                refine ⟨_, S.out.write HI2.out hiK e7 b7 s7 o7, fun k hk => ?_, fun j' hj' => ?_⟩
                · simp only [if_neg (show k ≠ i by omega)]
                  exact hC.out k hk
                · simp only [if_pos]
                  by_cases h : j' = j
                  · subst h
                    rw [List.getElem?_set_self (by rw [(S.out.a.f i hiK).get.1]; exact hjn)]
                    rfl
                  · rw [List.getElem?_set_ne (Ne.symm h)]
                    exact hM.out j' (by omega)
              clear S hC hM CL v1 v2 e7 b7 s7 o7
              skip
              go_roundg qr
              case measure => omega
              case rel => exact ⟨j + 1, by go_num, by have := HJG.out; omega, P7⟩
            · have e2 : decide ((j : Int) < (m : Int)) = false := decide_eq_false (by omega)
              have e3 : decide (j < m) = false := decide_eq_false hjn
              have P8 : Hid (∃ D, SvM W1 wr 3 base m K2 g' c' D ∧ (∀ k, k < i + 1 → D k = mkV fmI m k)) := by
                refine ⟨D, S.out, fun k hk => ?_⟩
                by_cases h : k = i
                · subst h
                  exact mkV_of (S.out.a.f k hiK).get.1 fun j' hj' => hM.out j' (by omega)
                · exact hC.out k (by omega)
              clear S hC hM hj
              go_wp2_with fail
              clear CL
              go_roundg qq
              case measure => omega
              case rel => exact ⟨i + 1, by go_num, by have := HIG.out; omega, P8⟩
        · have e1 : decide ((i : Int) < (K2 : Int)) = false := decide_eq_false (by omega)
          have e2 : decide (i < K2) = false := decide_eq_false hiK
          have PE : Hid (∃ D, SvM W1 wr 3 base m K2 g' c' D ∧ (∀ k, k < K2 → D k = mkV fmI m k)) := by obtain ⟨D, S, hC⟩ := P5.out; exact ⟨D, S, fun k hk => hC k (by omega)⟩
          clear P5 hj hiK
          go_wp2_with fail
          clear e1 e2
          obtain ⟨W2, hW2⟩ : ∃ W, wr = W := ⟨_, rfl⟩
          rw [hW2] at PE ⊢
          clear hW2
          have H2 : Hid ((∀ k, (∀ i, i < K2 → k ≠ g' i) → W2.heap[k]? = W1.heap[k]?) ∧ W2.heap.size = W0.heap.size ∧ Below base W0 W2 ∧ (∀ k, k < K2 → OwV W2 base 3 (g' k) m (c' k) (mkV fmI m k)) ∧ ∀ k, k < K1 → OwV W2 base 50 (g k) n (c k) (mkV fmF n k)) := by obtain ⟨D, S, hD⟩ := PE.out; exact ⟨S.o, S.z.trans H1.out.2.1, H1.out.2.2.1.trans S.a.b, fun k hk => hD k hk ▸ S.a.f k hk, fun k hk => (H1.out.2.2.2 k hk).keep (S.o _ fun i hi e => HD1.out k i hk hi e)⟩
          obtain ⟨H1', hH1'⟩ : ∃ H, W2.heap.size = H := ⟨_, rfl⟩
          have HSZ : Hid (H1' = W0.heap.size) := by unfold Hid; rw [← hH1']; exact H2.out.2.1
          have HGH1 : Hid ((∀ k, k < K1 → g k < H1') ∧ base ≤ H1') := by unfold Hid; rw [HSZ.out]; exact ⟨HGL.out.1, HB0.out⟩
          have P9 : Hid (∃ h d, SvB W2 W2 50 22 fmF fxF 9 H1' base n K1 0 g c h d (.slice none 0 0)) := ⟨g, c, by rw [← hH1']; exact SvA.toB (W0 := W2) (C := fun k => mkV fmF n k) ⟨Below.refl _ _, H2.out.2.2.2.2⟩ fun _ _ => rfl⟩
          have HLR3 : Hid (W2.ownsRow bl 22 1 (.slice lo K1 lc) K1 (slL g c n K1) ∧ ∀ W : World, (∀ k, k < H1' → (∀ i, i < K1 → k ≠ g i) → W.heap[k]? = W2.heap[k]?) → W.ownsRow bl 22 1 (.slice lo K1 lc) K1 (slL g c n K1)) := by
            have h9 := HLR.out.2 W1 H1.out.1
            have h8 := owns_keep h9 (w' := W2) fun k e => H2.out.1 k (HDL.out k e).2.1
            exact ⟨h8, fun W hW => owns_keep h8 fun k e => hW k (by rw [HSZ.out]; exact (HDL.out k e).2.2) (HDL.out k e).1⟩
          have HIR3 : Hid (W2.ownsRow bi 23 1 (.slice io K2 ic) K2 (slL g' c' m K2)) := HIR.out.2 W2 H2.out.1
          clear PE hH1'
          go_loopg [9, 11] K1 (fun gg gv iv wx => ∃ i : Nat, iv = .int .i64 i ∧ i + gg = K1 ∧ Hid (∃ h d, SvB W2 wx 50 22 fmF fxF 9 H1' base n K1 i g c h d gv))
          case atStart => exact ⟨0, rfl, by omega, P9⟩
          case round =>
            clear P9
            obtain ⟨i, rfl, hj, PA⟩ := hrel
            by_cases hiK : i < K1
            · have e1 : decide ((i : Int) < (K1 : Int)) = true := decide_eq_true (by omega)
              obtain ⟨qq, rfl⟩ : ∃ q, gk = q + 1 := ⟨gk - 1, by omega⟩
              have HIG : Hid (i + (qq + 1) = K1) := hj
              have hiK' : (i : Int) < (K1 : Int) := by omega
              obtain ⟨h, d, S'⟩ := PA.out
              obtain ⟨q, rfl⟩ := own_someV HLR3.out.1 (by omega)
              have S : Hid (SvB W2 wr 50 22 fmF fxF 9 H1' base n K1 i g c h d u9) := S'
              have CL : wr.cell? ⟨q, i, none⟩ = some (.slice (some ⟨g i, 0, none⟩) n (c i)) := by
                have h9 := World.ownsRow.cellAt (HLR3.out.2 _ S.out.o) i (by rw [Nat.mul_one]; exact hiK)
                rw [slL_at g c n K1 i hiK] at h9
                exact h9
              clear hj PA S'
              have PB : Hid (∃ hh dd, (.slice (some ⟨g i, 0, none⟩) n (c i)) = Value.slice (some ⟨hh, 0, none⟩) (n + 0) dd ∧ SvC wr wr 50 fmF fxF base n (g i) i 0 hh dd) := ⟨g i, c i, rfl, S.out.begin hiK⟩
              go_wp2_with fail
              clear CL
              obtain ⟨Wy, hWy⟩ : ∃ W, wr = W := ⟨_, rfl⟩
              rw [hWy] at S PB
              go_loopg [12, 13] 9 (fun gg bv iv wx => ∃ j : Nat, iv = .int .i64 j ∧ j + gg = 9 ∧ Hid (∃ hh dd, bv = .slice (some ⟨hh, 0, none⟩) (n + j) dd ∧ SvC Wy wx 50 fmF fxF base n (g i) i j hh dd))
              case atStart => exact ⟨0, rfl, by omega, by rw [hWy]; exact PB⟩
              case round =>
                clear PB hWy
                obtain ⟨j, rfl, hj, PC⟩ := hrel
                obtain ⟨hh, dd, rfl, T'⟩ := PC.out
                have T : Hid (SvC Wy wr 50 fmF fxF base n (g i) i j hh dd) := T'
                clear PC T'
                by_cases hj9 : j < 9
                · have e2 : decide ((j : Int) < 9) = true := decide_eq_true (by omega)
                  obtain ⟨qr, rfl⟩ : ∃ q, gk = q + 1 := ⟨gk - 1, by omega⟩
                  have HJG : Hid (j + (qr + 1) = 9) := hj
                  have hbw : base ≤ wr.heap.size := Nat.le_trans (Nat.le_trans HGH1.out.2 S.out.z) T.out.gr.size
                  have hl9 : n + j + 1 ≤ 2000000 := by omega
                  have hi3 : i < 3000 := by omega
                  have hj3 : j < 3000 := by omega
                  have v1 := wv_i hi3
                  have v2 := wv_ij hi3 hj3
                  have v3 := wv_ijx hi3 hj3
                  have u3 := wu_ijx hi3 hj3
                  obtain ⟨xn, hxn⟩ : ∃ x, 1000 * i + j + 500000000 = x := ⟨_, rfl⟩
                  have HXN : Hid (Value.float .f64 xn = fxF i j) := by unfold Hid fxF; rw [hxn]
                  obtain ⟨xi, hxi⟩ : ∃ x, 1000 * (i : Int) + (j : Int) + 500000000 = x := ⟨_, rfl⟩
                  have HNJ : Hid (xi.toNat = xn) := num_x hxi hxn
                  rw [hxi] at v3 u3
                  have HXI : Hid (1000 * (i : Int) + (j : Int) + 500000000 = xi) := hxi
                  clear hxn
                  clear hj
                  go_upto_region 23 with (first
                    | (go_at_call 27; refine (float_int xi _).mono ?_; rintro e w' ⟨rfl, hw'⟩; have hw' := hw'.symm; subst hw'; rw [HNJ.out])
                    | (at_builtin; refine append_gx Try.underlying22 Try.infoFV rfl (by decide) _ (by rfl) _ _ (by rfl) base (.slice (some ⟨hh, 0, none⟩) (n + j) dd) (n + j) (mkV fmF n i ++ mkV fxF j i) (by rfl) (OwX.alloc (OwX.of T.out.o) _) ⟨wr.heap.size, 0, none⟩ 1 1 [.float .f64 xn] (by rfl) rfl (by decide) (news_oneJ (heap_alloc_new wr _)) (by intro u hu; simp at hu; subst hu; rfl) hl9 (by rw [alloc_size]; exact Nat.le_succ_of_le hbw) ?_; intro v5 w5 o5 g5))
                  rw [HXN.out] at o5
                  obtain ⟨hh2, dd2, rfl, T2⟩ := T.out.step o5 g5.alloc.grx
                  have PD : Hid (∃ hh dd, Value.slice (some ⟨hh2, 0, none⟩) (n + (j + 1)) dd2 = .slice (some ⟨hh, 0, none⟩) (n + (j + 1)) dd ∧ SvC Wy w5 50 fmF fxF base n (g i) i (j + 1) hh dd) := ⟨hh2, dd2, rfl, T2⟩
                  clear T T2 o5 g5 v1 v2 v3 hbw u3 HNJ HXN HXI hxi
                  go_wp2_with fail
                  go_roundg qr
                  case measure => omega
                  case rel => exact ⟨j + 1, by go_num, by have := HJG.out; omega, PD⟩
                · have e2 : decide ((j : Int) < 9) = false := decide_eq_false (by omega)
                  have e3 : decide (j < 9) = false := decide_eq_false hj9
                  obtain rfl : j = 9 := by omega
                  have HV : Hid (wr.ownsRow H1' 22 1 u9 i (slL h d (n + 9) i)) := SvC.v S.out T.out (HGH1.out.1 i hiK)
                  have hbw : H1' ≤ wr.heap.size := Nat.le_trans S.out.z T.out.gr.size
                  have hl9 : i + 1 ≤ 2000000 := by omega
                  clear hj
                  go_wp2_with (first | (at_builtin; refine append_gx Try.underlying24 Try.infoFsV rfl (by decide) _ (by rfl) _ _ (by rfl) H1' u9 i (slL h d (n + 9) i) (by rfl) (OwX.alloc (OwX.of HV.out) _) ⟨wr.heap.size, 0, none⟩ 1 1 [.slice (some ⟨hh, 0, none⟩) (n + 9) dd] (by rfl) rfl (by decide) (news_oneJ (heap_alloc_new wr _)) (by intro u hu; simp at hu; subst hu; rfl) hl9 (by rw [alloc_size]; exact Nat.le_succ_of_le hbw) ?_; intro v5 w5 o5 g5))
                  have PE : Hid (∃ h d, SvB W2 w5 50 22 fmF fxF 9 H1' base n K1 (i + 1) g c h d v5) := S.out.next (by decide) T.out hiK HGH1.out.1 HI.out HGH1.out.2 o5 g5.alloc.grx
                  clear S T HV hbw o5 g5
                  go_roundg qq
                  case measure => omega
                  case rel => exact ⟨i + 1, by go_num, by have := HIG.out; omega, PE⟩
            · have e1 : decide ((i : Int) < (K1 : Int)) = false := decide_eq_false (by omega)
              have e2 : decide (i < K1) = false := decide_eq_false hiK
              have h9 : i = K1 := by omega
              rw [h9] at PA
              have PZ : Hid (∃ h d, SvB W2 wr 50 22 fmF fxF 9 H1' base n K1 K1 g c h d u9) := PA
              clear h9
              clear PA hj hiK
              go_wp2_with fail
              clear e1 e2
              obtain ⟨W3, hW3⟩ : ∃ W, wr = W := ⟨_, rfl⟩
              rw [hW3] at PZ ⊢
              clear hW3
              obtain ⟨h, d, hS3⟩ := PZ.out
              have S3 : Hid (SvB W2 W3 50 22 fmF fxF 9 H1' base n K1 K1 g c h d u9) := hS3
              obtain ⟨go, gc, hu9, -⟩ := owns_slice hS3.v
              subst hu9
              clear PZ hS3
              have H3 : Hid (∀ k, k < K2 → OwV W3 base 3 (g' k) m (c' k) (mkV fmI m k)) := fun k hk => (H2.out.2.2.2.1 k hk).keep (S3.out.o _ (by rw [HSZ.out]; exact HGL.out.2 k hk) fun i hi e => HD1.out i k hi hk e.symm)
              obtain ⟨H2', hH2'⟩ : ∃ H, W3.heap.size = H := ⟨_, rfl⟩
              have HZ2 : Hid (H1' ≤ H2' ∧ W3.heap.size = H2') := ⟨by rw [← hH2']; exact S3.out.z, hH2'⟩
              have HGH2 : Hid ((∀ k, k < K2 → g' k < H2') ∧ base ≤ H2') := ⟨fun k hk => by have := (H3.out k hk).lt; omega, Nat.le_trans HGH1.out.2 HZ2.out.1⟩
              have PX : Hid (∃ h d, SvB W3 W3 3 23 fmI fxI 9 H2' base m K2 0 g' c' h d (.slice none 0 0)) := ⟨g', c', by rw [← hH2']; exact SvA.toB (W0 := W3) (C := fun k => mkV fmI m k) ⟨Below.refl _ _, H3.out⟩ fun _ _ => rfl⟩
              have HIR4 : Hid (W3.ownsRow bi 23 1 (.slice io K2 ic) K2 (slL g' c' m K2) ∧ ∀ W : World, (∀ k, k < H2' → (∀ i, i < K2 → k ≠ g' i) → W.heap[k]? = W3.heap[k]?) → W.ownsRow bi 23 1 (.slice io K2 ic) K2 (slL g' c' m K2)) := by
                have h8 := owns_keep HIR3.out (w' := W3) fun k e => S3.out.o k (by rw [HSZ.out]; exact (HDI.out k e).2.2) (HDI.out k e).1
                exact ⟨h8, fun W hW => owns_keep h8 fun k e => hW k (by have h5 := (HDI.out k e).2.2; have h6 := HZ2.out.1; have h7 := HSZ.out; omega) (HDI.out k e).2.1⟩
              clear hH2'
              go_loopg [10, 14] K2 (fun gg gv iv wx => ∃ i : Nat, iv = .int .i64 i ∧ i + gg = K2 ∧ Hid (∃ h d, SvB W3 wx 3 23 fmI fxI 9 H2' base m K2 i g' c' h d gv))
              case atStart => exact ⟨0, rfl, by omega, PX⟩
              case round =>
                clear PX
                obtain ⟨i, rfl, hj, PA⟩ := hrel
                by_cases hiK : i < K2
                · have e1 : decide ((i : Int) < (K2 : Int)) = true := decide_eq_true (by omega)
                  obtain ⟨qq, rfl⟩ : ∃ q, gk = q + 1 := ⟨gk - 1, by omega⟩
                  have HIG : Hid (i + (qq + 1) = K2) := hj
                  have hiK' : (i : Int) < (K2 : Int) := by omega
                  obtain ⟨h, d, S'⟩ := PA.out
                  obtain ⟨p, rfl⟩ := own_someV HIR4.out.1 (by omega)
                  have S : Hid (SvB W3 wr 3 23 fmI fxI 9 H2' base m K2 i g' c' h d u10) := S'
                  have CL : wr.cell? ⟨p, i, none⟩ = some (.slice (some ⟨g' i, 0, none⟩) m (c' i)) := by
                    have h9 := World.ownsRow.cellAt (HIR4.out.2 _ S.out.o) i (by rw [Nat.mul_one]; exact hiK)
                    rw [slL_at g' c' m K2 i hiK] at h9
                    exact h9
                  clear hj PA S'
                  have PB : Hid (∃ hh dd, (.slice (some ⟨g' i, 0, none⟩) m (c' i)) = Value.slice (some ⟨hh, 0, none⟩) (m + 0) dd ∧ SvC wr wr 3 fmI fxI base m (g' i) i 0 hh dd) := ⟨g' i, c' i, rfl, S.out.begin hiK⟩
                  go_wp2_with fail
                  clear CL
                  obtain ⟨Wy, hWy⟩ : ∃ W, wr = W := ⟨_, rfl⟩
                  rw [hWy] at S PB
                  go_loopg [15, 16] 9 (fun gg bv iv wx => ∃ j : Nat, iv = .int .i64 j ∧ j + gg = 9 ∧ Hid (∃ hh dd, bv = .slice (some ⟨hh, 0, none⟩) (m + j) dd ∧ SvC Wy wx 3 fmI fxI base m (g' i) i j hh dd))
                  case atStart => exact ⟨0, rfl, by omega, by rw [hWy]; exact PB⟩
                  case round =>
                    clear PB hWy
                    obtain ⟨j, rfl, hj, PC⟩ := hrel
                    obtain ⟨hh, dd, rfl, T'⟩ := PC.out
                    have T : Hid (SvC Wy wr 3 fmI fxI base m (g' i) i j hh dd) := T'
                    clear PC T'
                    by_cases hj9 : j < 9
                    · have e2 : decide ((j : Int) < 9) = true := decide_eq_true (by omega)
                      obtain ⟨qr, rfl⟩ : ∃ q, gk = q + 1 := ⟨gk - 1, by omega⟩
                      have HJG : Hid (j + (qr + 1) = 9) := hj
                      have hbw : base ≤ wr.heap.size := Nat.le_trans (Nat.le_trans HGH2.out.2 S.out.z) T.out.gr.size
                      have hl9 : m + j + 1 ≤ 2000000 := by omega
                      have hi3 : i < 3000 := by omega
                      have hj3 : j < 3000 := by omega
                      have v1 := wv_i hi3
                      have v2 := wv_ij hi3 hj3
                      have v3 := wv_ij1 hi3 hj3
                      have v4 := wv_ijn hi3 hj3
                      clear hj
                      go_upto_region 32 with (first
                        | (at_builtin; refine append_gx Try.underlying23 Try.infoIV rfl (by decide) _ (by rfl) _ _ (by rfl) base (.slice (some ⟨hh, 0, none⟩) (m + j) dd) (m + j) (mkV fmI m i ++ mkV fxI j i) (by rfl) (OwX.alloc (OwX.of T.out.o) _) ⟨wr.heap.size, 0, none⟩ 1 1 [.int .i64 (-(1000 * (i : Int) + (j : Int) + 1))] (by rfl) rfl (by decide) (news_oneJ (heap_alloc_new wr _)) (by intro u hu; simp at hu; subst hu; rfl) hl9 (by rw [alloc_size]; exact Nat.le_succ_of_le hbw) ?_; intro v5 w5 o5 g5))
                      skip
                      obtain ⟨hh2, dd2, rfl, T2⟩ := T.out.step o5 g5.alloc.grx
                      have PD : Hid (∃ hh dd, Value.slice (some ⟨hh2, 0, none⟩) (m + (j + 1)) dd2 = .slice (some ⟨hh, 0, none⟩) (m + (j + 1)) dd ∧ SvC Wy w5 3 fmI fxI base m (g' i) i (j + 1) hh dd) := ⟨hh2, dd2, rfl, T2⟩
                      clear T T2 o5 g5 v1 v2 v3 hbw v4
                      go_wp2_with fail
                      go_roundg qr
                      case measure => omega
                      case rel => exact ⟨j + 1, by go_num, by have := HJG.out; omega, PD⟩
                    · have e2 : decide ((j : Int) < 9) = false := decide_eq_false (by omega)
                      have e3 : decide (j < 9) = false := decide_eq_false hj9
                      obtain rfl : j = 9 := by omega
                      have HV : Hid (wr.ownsRow H2' 23 1 u10 i (slL h d (m + 9) i)) := SvC.v S.out T.out (HGH2.out.1 i hiK)
                      have hbw : H2' ≤ wr.heap.size := Nat.le_trans S.out.z T.out.gr.size
                      have hl9 : i + 1 ≤ 2000000 := by omega
                      clear hj
                      go_wp2_with (first | (at_builtin; refine append_gx Try.underlying43 Try.infoIsV rfl (by decide) _ (by rfl) _ _ (by rfl) H2' u10 i (slL h d (m + 9) i) (by rfl) (OwX.alloc (OwX.of HV.out) _) ⟨wr.heap.size, 0, none⟩ 1 1 [.slice (some ⟨hh, 0, none⟩) (m + 9) dd] (by rfl) rfl (by decide) (news_oneJ (heap_alloc_new wr _)) (by intro u hu; simp at hu; subst hu; rfl) hl9 (by rw [alloc_size]; exact Nat.le_succ_of_le hbw) ?_; intro v5 w5 o5 g5))
                      have PE : Hid (∃ h d, SvB W3 w5 3 23 fmI fxI 9 H2' base m K2 (i + 1) g' c' h d v5) := S.out.next (by decide) T.out hiK HGH2.out.1 HI2.out HGH2.out.2 o5 g5.alloc.grx
                      clear S T HV hbw o5 g5
                      go_roundg qq
                      case measure => omega
                      case rel => exact ⟨i + 1, by go_num, by have := HIG.out; omega, PE⟩
                · have e1 : decide ((i : Int) < (K2 : Int)) = false := decide_eq_false (by omega)
                  have e2 : decide (i < K2) = false := decide_eq_false hiK
                  have h9 : i = K2 := by omega
                  rw [h9] at PA
                  have PZ : Hid (∃ h d, SvB W3 wr 3 23 fmI fxI 9 H2' base m K2 K2 g' c' h d u10) := PA
                  clear h9
                  clear PA hj hiK
                  go_wp2_with fail
                  clear e1 e2
                  obtain ⟨h', d', hS4⟩ := PZ.out
                  have S4 : Hid (SvB W3 wr 3 23 fmI fxI 9 H2' base m K2 K2 g' c' h' d' u10) := hS4
                  obtain ⟨wo, wc, hu10, -⟩ := owns_slice hS4.v
                  subst hu10
                  clear PZ hS4
                  have tyne : ∀ {k k' : Nat} {cur cur' : Array Value} {t t' : TypeId}, t ≠ t' → W3.heap[k]? = some (.cells cur t) → W3.heap[k']? = some (.cells cur' t') → k ≠ k' := by
                    rintro k k' cur cur' t t' ht h1 h2 rfl
                    rw [h1] at h2
                    injection h2 with h2
                    injection h2 with _ h2
                    exact ht h2
                  have hgt : ∀ i, i < K2 → ∃ cur, W3.heap[g' i]? = some (.cells cur 3) := fun i hi => by obtain ⟨_, _, _, _, cur, h1, _⟩ := (H3.out i hi).get; exact ⟨cur, h1⟩
                  have k4 : ∀ (k : Nat) (cur : Array Value) (t : TypeId), t ≠ 3 → W3.heap[k]? = some (.cells cur t) → wr.heap[k]? = W3.heap[k]? := fun k cur t ht hc => S4.out.o k (by have := blk_lt hc; have := HZ2.out.2; omega) fun i hi => by obtain ⟨_, h2⟩ := hgt i hi; exact tyne ht hc h2
                  have EF : Hid (SvE wr 50 22 fmF fxF 9 n K1 g c h d (.slice lo K1 lc) (.slice go K1 gc)) := by
                    have hl3 := HLR3.out.2 W3 S3.out.o
                    refine ⟨⟨_, owns_keepT hl3 fun k cur hc => k4 k cur _ (by decide) hc⟩, ⟨_, owns_keepT S3.out.v fun k cur hc => k4 k cur _ (by decide) hc⟩, fun k hk j hj => ?_, fun k hk j hj => ?_⟩
                    · have h1 := S3.out.r k hk j hj
                      rw [World.cell?_of_block (w := W3) (S4.out.o (g k) (by have := HGH1.out.1 k hk; have := HZ2.out.1; omega) fun i hi => HD1.out k i hk hi)]
                      exact h1
                    · have h1 := S3.out.w k hk
                      obtain ⟨_, _, _, _, cur, hc, _⟩ := h1.get
                      have h2 := h1.at (n + j) (by omega)
                      rw [List.getElem?_append_right (by rw [mkV_len]; omega), mkV_len, Nat.add_sub_cancel_left, mkV_at fxF 9 k j hj] at h2
                      rw [World.cell?_of_block (w := W3) (k4 _ cur _ (by decide) hc)]
                      exact h2
                  have EI : Hid (SvE wr 3 23 fmI fxI 9 m K2 g' c' h' d' (.slice io K2 ic) (.slice wo K2 wc)) := by
                    refine ⟨⟨_, HIR4.out.2 wr S4.out.o⟩, ⟨_, S4.out.v⟩, S4.out.r, fun k hk j hj => ?_⟩
                    have h2 := (S4.out.w k hk).at (m + j) (by omega)
                    rw [List.getElem?_append_right (by rw [mkV_len]; omega), mkV_len, Nat.add_sub_cancel_left, mkV_at fxI 9 k j hj] at h2
                    exact h2
                  have EZ : Hid (Below base W0 wr ∧ base ≤ wr.heap.size ∧ W0.heap.size ≤ wr.heap.size ∧ ∀ k, k < W0.heap.size → (∀ i, i < K1 → k ≠ g i) → (∀ i, i < K2 → k ≠ g' i) → wr.heap[k]? = W0.heap[k]?) := by
                    have hs : W0.heap.size ≤ wr.heap.size := ((H2.out.2.2.1.trans S3.out.b).trans S4.out.b).size
                    refine ⟨(H2.out.2.2.1.trans S3.out.b).trans S4.out.b, Nat.le_trans HB0.out hs, hs, fun k hk h1 h2 => ?_⟩
                    have h5 := HSZ.out
                    have h6 := HZ2.out.1
                    rw [S4.out.o k (by omega) h2, S3.out.o k (by omega) h1, H2.out.1 k h2, H1.out.1 k h1]
                  clear tyne hgt k4 S3 S4 H3 HIR4 HGH2 HLR3 HIR3 HZ2 HSZ HGH1 H1 H2 HIR HLR HGF HIL
                  go_wp2_with (first
                    | (go_at_call 28; refine Calls.mono (stand_any K1 n g c h d lo go lc gc _ hK1 hn EF.out) ?_; rintro e w5 ⟨rfl, b5⟩; have EI5 : Hid _ := EI.out.later b5; have EB5 : Hid _ := b5; clear b5)
                    | (go_at_call 29; refine Calls.mono (standInts_any K2 m g' c' h' d' io wo ic wc _ (by omega) (by omega) EI5.out) ?_; rintro e w6 ⟨rfl, b6⟩))
                  go_ret
                  have b56 := to_call EB5.out b6
                  exact ⟨rfl, EZ.out.1.trans (b56.mono EZ.out.2.1), fun k hk h1 h2 => (b56.block k (Nat.lt_of_lt_of_le hk EZ.out.2.2.1)).trans (EZ.out.2.2.2 k hk h1 h2)⟩
end Go.Proofs.Ytaloaholmhcflaa
