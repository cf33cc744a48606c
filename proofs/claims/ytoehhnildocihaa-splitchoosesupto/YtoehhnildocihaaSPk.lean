import Derived.Test.YtoehhnildocihaaSPj
namespace Go.Proofs.Ytoehhnildocihaa
open Go.RowKit
set_option linter.unusedVariables false
set_option linter.unusedSimpArgs false
set_option maxRecDepth 100000 in
set_option maxHeartbeats 4000000 in
/-- Within. -/
theorem within_any (la ba eo : Option Addr) (n m c d en ec : Nat) (ls bs es : List Int) (DI : Int) (w : World) (hl : RdIs w la n c ls) (ha : RdIs w ba m d bs) (he : RdIs w eo en ec es) :
    Calls Try.prog 25 #[.agg #[.slice la n c, .slice ba m d], .slice eo en ec, .int .i64 DI] w fun e w' => e = .returned (.bool (WiV ls bs es n en DI)) ∧ Below w.heap.size w w' := by
  have X0 : Below w.heap.size w (w.alloc (.cells #[.slice la n c, .slice ba m d] 30)) := (Below.refl _ w).alloc (Nat.le_refl _) _
  have Y0 : (w.alloc (.cells #[.slice la n c, .slice ba m d] 30)).heap[w.heap.size]? = some (.cells #[.slice la n c, .slice ba m d] 30) := heap_alloc_new w _
  obtain ⟨g, hg⟩ : ∃ g, regB ls bs n = g := ⟨_, rfl⟩
  have HG : Hid (regB ls bs n = g) := hg
  have HN : Hid (ls.length = n ∧ bs.length = m) := ⟨hl.length, ha.length⟩
  obtain ⟨zs, hzs⟩ : ∃ zs, ls.zip bs = zs := ⟨_, rfl⟩
  have HZ : Hid (ls.zip bs = zs) := hzs
  have HP : Hid (∀ W, Below w.heap.size w W → Calls Try.prog 12 #[.agg #[.slice la n c, .slice ba m d], .int .i64 n] W fun e w' => (∃ v, e = .returned (.tuple #[v, .bool g]) ∧ Hid ((g = true → v = .slice (some ⟨W.heap.size + 1, 0, none⟩) n n ∧ w'.heap[W.heap.size + 1]? = some (.cells (ptC zs) 69)) ∧ (g = false → v = .slice none 0 0))) ∧ Below W.heap.size W w') := by
    intro W hb
    rw [← hg, ← hzs]
    exact partsOf_any la ba n m c d ls bs n W (hl.later hb) (ha.later hb)
  have HS : Hid (∀ W', Below w.heap.size w W' → RdIs W' eo en ec es) := fun W' hb => he.later hb
  clear hl ha hg hzs he
  go_enter Try.func25, Try.ntmps25
  go_upto_region 1 with fail
  obtain ⟨X, hX⟩ : ∃ X, (w.alloc (.cells #[.slice la n c, .slice ba m d] 30)) = X := ⟨_, rfl⟩
  rw [hX] at X0 Y0 ⊢
  have k0 := cellAtJ Y0 0 _ rfl
  clear hX
  go_upto_region 2 with (first | (refine wpList_load_row (by rfl) 30 _ (by rfl) w.heap.size #[.slice la n c, .slice ba m d] (by rfl) Y0 _ Try.underlying30 rfl 2 Try.szRT (by rfl) ?_) | (go_at_call 12; refine Calls.mono (HP.out _ X0) ?_; rintro e' w1 ⟨⟨v, rfl, HV⟩, bb1⟩))
  obtain ⟨hv1, hv2⟩ := HV.out
  obtain ⟨PB, hPB⟩ : ∃ PB, X.heap.size + 1 = PB := ⟨_, rfl⟩
  rw [hPB] at hv1
  have hpb : w.heap.size < PB := by have := blk_lt Y0; omega
  have Q1 : Hid (Below w.heap.size w w1) := to_call X0 bb1
  clear X0 Y0 hPB bb1 HP HV k0
  cases g with
  | false =>
    obtain rfl := hv2 rfl
    clear hv1 hv2
    have HE : Hid (WiV ls bs es n en DI = false) := by unfold Hid WiV; rw [HG.out]; rfl
    go_wp2_with fail
    go_ret
    exact ⟨by rw [HE.out]; rfl, Q1.out⟩
  | true =>
    obtain ⟨rfl, hvp⟩ := hv1 rfl
    clear hv1 hv2
    obtain ⟨hn', hln, hbn⟩ := regB_len HG.out
    have hn : n ≤ 256 := by omega
    have hmn : m = n := by have := HN.out.2; omega
    subst hmn
    have hzl : zs.length = m := by rw [← HZ.out, List.length_zip, HN.out.1, HN.out.2]; omega
    have HZA : Hid (∀ j, j < m → zs[j]? = some (ls[j]?.getD 0, bs[j]?.getD 0)) := fun j hj => by rw [← HZ.out]; exact zip_at HN.out.1 HN.out.2 hj
    have HLV : Hid (∀ j, j < m → 0 ≤ ls[j]?.getD 0 ∧ ls[j]?.getD 0 ≤ 8 ∧ 0 ≤ bs[j]?.getD 0 ∧ bs[j]?.getD 0 < 2 ^ (ls[j]?.getD 0).toNat) := fun j hj => regB_level HG.out j (by rw [HN.out.1]; exact hj)
    clear hn' hln hbn
    have HVP : Hid (w1.heap[PB]? = some (.cells (ptC zs) 69)) := hvp
    clear hvp
    by_cases h1 : en = m
    · subst h1
      have d1 : ((en : Int) != (en : Int)) = false := by simp
      by_cases h2 : DI < 0
      · have d2 : decide (DI < 0) = true := decide_eq_true h2
        have HE : Hid (WiV ls bs es en en DI = false) := by unfold Hid WiV; rw [decide_eq_false (p := 0 ≤ DI) (by omega), Bool.and_false]; rfl
        go_wp2_with fail
        go_ret
        exact ⟨by rw [HE.out]; rfl, Q1.out⟩
      · have d2 : decide (DI < 0) = false := decide_eq_false h2
        by_cases h3 : DI > 62
        · have d3 : decide (DI > 62) = true := decide_eq_true h3
          have HE : Hid (WiV ls bs es en en DI = false) := by unfold Hid WiV; rw [decide_eq_false (p := DI ≤ 62) (by omega), Bool.and_false]; rfl
          go_wp2_with fail
          go_ret
          exact ⟨by rw [HE.out]; rfl, Q1.out⟩
        · have d3 : decide (DI > 62) = false := decide_eq_false h3
          obtain ⟨D, rfl⟩ : ∃ D : Nat, DI = D := ⟨DI.toNat, by omega⟩
          have hD : D ≤ 62 := by omega
          have hD' : (D : Int) ≤ 62 := by omega
          obtain ⟨f, hf⟩ : ∃ f : Nat → Bool, (fun i => inP (zs[i]?.getD (0, 0)).1.toNat (zs[i]?.getD (0, 0)).2 (es[i]?.getD 0) D) = f := ⟨_, rfl⟩
          have HF : Hid (∀ i, f i = inP (zs[i]?.getD (0, 0)).1.toNat (zs[i]?.getD (0, 0)).2 (es[i]?.getD 0) D) := fun i => by rw [← hf]
          have HK : Hid (WiV ls bs es en en D = (List.range en).all f) := by
            unfold Hid WiV wiB
            rw [HG.out, decide_eq_true (p := (0 : Int) ≤ D) (by omega), decide_eq_true (p := (D : Int) ≤ 62) hD', HZ.out, Int.toNat_natCast, hf, hzl]
            simp
          clear hf h2 h3
          go_wp2_with fail
          go_loopg [38] en (fun g iv wx => ∃ (j : Nat), iv = .int .i64 j ∧ j + g = en ∧ Hid (Below w.heap.size w wx ∧ wx.heap[PB]? = some (.cells (ptC zs) 69) ∧ (List.range j).all f = true))
          case atStart => exact ⟨0, rfl, by omega, ⟨Q1.out, HVP.out, rfl⟩⟩
          case round =>
            clear Q1 HVP
            obtain ⟨j, rfl, hj, P2⟩ := hrel
            by_cases hlt : j < en
            · have hdum := 0
              have e1 : decide ((j : Int) < (en : Int)) = true := decide_eq_true (by omega)
              obtain ⟨q, rfl⟩ : ∃ q, gk = q + 1 := ⟨gk - 1, by omega⟩
              have HIG : Hid (j + (q + 1) = en) := hj
              have hlt' : (j : Int) < (en : Int) := by omega
              obtain ⟨l, hl⟩ : ∃ l, ls[j]?.getD 0 = l := ⟨_, rfl⟩
              obtain ⟨a, ha⟩ : ∃ a, bs[j]?.getD 0 = a := ⟨_, rfl⟩
              have hlv := HLV.out j hlt
              have hzj := HZA.out j hlt
              rw [hl, ha] at hlv hzj
              have HZJ : Hid (zs[j]?.getD (0, 0) = (l, a)) := by unfold Hid; rw [hzj]; rfl
              obtain ⟨o1, o2, o3, o4⟩ := hlv
              have hz := ptC_at hzj
              have g0 := cellAtJ P2.out.2.1 _ _ hz.1
              have g1 := cellAtJ P2.out.2.1 _ _ hz.2
              rcases (HS.out _ P2.out.1).cells with h0 | ⟨sb, so', rfl, hcs⟩
              · omega
              have gs := hcs j hlt
              obtain ⟨y, hy⟩ : ∃ y, es[j]?.getD 0 = y := ⟨_, rfl⟩
              rw [hy] at gs
              obtain ⟨L, rfl⟩ : ∃ L : Nat, l = L := ⟨l.toNat, by omega⟩
              rw [Int.toNat_natCast] at o4
              obtain ⟨b, hb⟩ : ∃ b : Bool, inP L a y D = b := ⟨_, rfl⟩
              have HFJ : Hid (f j = b) := by unfold Hid; rw [HF.out, HZJ.out, hy, ← hb]; rfl
              have HST := all_step f j en hlt P2.out.2.2
              have HT2 : Hid ((f j = false → (List.range en).all f = false) ∧ (f j = true → (List.range (j + 1)).all f = true)) := HST
              have HEN : Hid (∀ W, Calls Try.prog 45 #[.agg #[.int .i64 (L : Int), .int .i64 a], .int .i64 y, .int .i64 (D : Int)] W fun e w' => e = .returned (.bool b) ∧ Below W.heap.size W w') := fun W => hb ▸ holds_any L D a y W (by omega) hD o3 o4
              clear hz hzj hl ha hj o4 HZJ hcs hy hb hdum HST
              go_upto_region 7 with fail
              obtain ⟨B5, h5⟩ : ∃ B5, wr.heap.size = B5 := ⟨_, rfl⟩
              obtain ⟨W4, h4⟩ : ∃ W4, wr.alloc (.cells #[.int .i64 (L : Int), .int .i64 a] 69) = W4 := ⟨_, rfl⟩
              have A4 : Below wr.heap.size wr W4 := by rw [← h4]; exact (Below.refl _ wr).alloc (Nat.le_refl _) _
              have HB5 : W4.heap[B5]? = some (.cells #[.int .i64 (L : Int), .int .i64 a] 69) := by rw [← h4, ← h5]; exact heap_alloc_new wr _
              have P4 : Hid (Below w.heap.size w W4 ∧ W4.heap[PB]? = some (.cells (ptC zs) 69)) := ⟨to_call P2.out.1 A4, kept A4 P2.out.2.1⟩
              have CM0 : Hid (W4.cell? ⟨B5, 0, none⟩ = some (.int .i64 (L : Int))) := cellAtJ HB5 0 _ rfl
              have CM1 : Hid (W4.cell? ⟨B5, 1, none⟩ = some (.int .i64 a)) := cellAtJ HB5 1 _ rfl
              have CS : Hid (W4.cell? ⟨sb, so' + j, none⟩ = some (.int .i64 y)) := cell_later gs A4
              rw [h4, h5]
              clear h4 h5 A4 P2 g0 g1 HB5 gs
              refine wp_region_noPanic ?_
              have SX : Below W4.heap.size W4 W4.drew := (Below.refl _ _).drew
              refine wp_region_held_drew (S := (fun V => Below W4.heap.size W4 V)) (by kernel_rfl) SX (fun _ => ?_)
              refine takeH 43 (i := 0) (v := ?_) rfl rfl (by kernel_rfl) (by kernel_rfl) (by kernel_rfl) (fun _ _ _ h => h) (Or.inl ⟨by kernel_rfl, ?_⟩) SX ?_
              rotate_left
              · intro w' hSw; have s0 := cell_later CM0.out hSw; have s1 := cell_later CM1.out hSw; have s2 := cell_later CS.out hSw; go_simp; try with_reducible rfl
              try simp only [Act.put, List.setIfInBounds_toArray, List.set_cons_zero, List.set_cons_succ]
              refine takeH 44 (i := 1) (v := ?_) rfl rfl (by kernel_rfl) (by kernel_rfl) (by kernel_rfl) (fun _ _ _ h => h) (Or.inl ⟨by kernel_rfl, ?_⟩) SX ?_
              rotate_left
              · intro w' hSw; have s0 := cell_later CM0.out hSw; have s1 := cell_later CM1.out hSw; have s2 := cell_later CS.out hSw; go_simp; try with_reducible rfl
              try simp only [Act.put, List.setIfInBounds_toArray, List.set_cons_zero, List.set_cons_succ]
              refine takeH 45 (i := 2) (v := ?_) rfl rfl (by kernel_rfl) (by kernel_rfl) (by kernel_rfl) (fun _ _ _ h => h) (Or.inl ⟨by kernel_rfl, ?_⟩) SX ?_
              rotate_left
              · intro w' hSw; have s0 := cell_later CM0.out hSw; have s1 := cell_later CM1.out hSw; have s2 := cell_later CS.out hSw; go_simp; try with_reducible rfl
              try simp only [Act.put, List.setIfInBounds_toArray, List.set_cons_zero, List.set_cons_succ]
              refine takeH 46 (i := 3) (v := ?_) rfl rfl (by kernel_rfl) (by kernel_rfl) (by kernel_rfl) (fun _ _ _ h => h) (Or.inl ⟨by kernel_rfl, ?_⟩) SX ?_
              rotate_left
              · intro w' hSw; have s0 := cell_later CM0.out hSw; have s1 := cell_later CM1.out hSw; have s2 := cell_later CS.out hSw; go_simp; try with_reducible rfl
              try simp only [Act.put, List.setIfInBounds_toArray, List.set_cons_zero, List.set_cons_succ]
              refine takeH 47 (i := 4) (v := ?_) rfl rfl (by kernel_rfl) (by kernel_rfl) (by kernel_rfl) (fun _ _ _ h => h) (Or.inl ⟨by kernel_rfl, ?_⟩) SX ?_
              rotate_left
              · intro w' hSw; have s0 := cell_later CM0.out hSw; have s1 := cell_later CM1.out hSw; have s2 := cell_later CS.out hSw; go_simp; try with_reducible rfl
              try simp only [Act.put, List.setIfInBounds_toArray, List.set_cons_zero, List.set_cons_succ]
              refine takeH 48 (i := 5) (v := ?_) rfl rfl (by kernel_rfl) (by kernel_rfl) (by kernel_rfl) (fun _ _ _ h => h) (Or.inl ⟨by kernel_rfl, ?_⟩) SX ?_
              rotate_left
              · intro w' hSw; have s0 := cell_later CM0.out hSw; have s1 := cell_later CM1.out hSw; have s2 := cell_later CS.out hSw; go_simp; try with_reducible rfl
              try simp only [Act.put, List.setIfInBounds_toArray, List.set_cons_zero, List.set_cons_succ]
              refine wpAnyH_ready (rs := [6]) (by kernel_rfl) (by simp) ?_
              refine consH _ rfl (hopCd 49 rfl (by kernel_rfl) rfl (by kernel_rfl) (Calls.mono (HEN.out _) ?_)) AllReadyH.nil
              rintro e V9 ⟨rfl, bb9⟩
              have SX : Below W4.heap.size W4 V9 := to_call SX bb9
              refine ⟨_, rfl, SX, ?_⟩
              try simp only [Act.put, List.setIfInBounds_toArray, List.set_cons_zero, List.set_cons_succ]
              refine takeH 50 (i := 7) (v := ?_) rfl rfl (by kernel_rfl) (by kernel_rfl) (by kernel_rfl) (fun _ _ _ h => h) (Or.inl ⟨by kernel_rfl, ?_⟩) SX ?_
              rotate_left
              · intro w' hSw; skip; go_simp; try with_reducible rfl
              try simp only [Act.put, List.setIfInBounds_toArray, List.set_cons_zero, List.set_cons_succ]
              refine wpAnyH_done (by kernel_rfl) ?_ _
              refine NoPanic.normal ?_
              try simp only [Act.put, List.setIfInBounds_toArray, List.set_cons_zero, List.set_cons_succ]
              have P6 : Hid (Below w.heap.size w V9 ∧ V9.heap[PB]? = some (.cells (ptC zs) 69)) := ⟨to_call P4.out.1 SX, kept SX P4.out.2⟩
              clear P4 CM0 CM1 CS HEN SX bb9
              cases b with
              | false =>
                have HR : Hid (WiV ls bs es en en D = false) := by unfold Hid; rw [HK.out]; exact HT2.out.1 HFJ.out
                clear HT2 HFJ HK
                go_wp2_with fail
                go_ret
                exact ⟨by rw [HR.out]; rfl, P6.out.1⟩
              | true =>
                have HR : Hid ((List.range (j + 1)).all f = true) := HT2.out.2 HFJ.out
                clear HT2 HFJ
                go_wp2_with fail
                go_roundg q
                case measure => omega
                case rel => exact ⟨j + 1, by go_num, by have := HIG.out; omega, ⟨P6.out.1, P6.out.2, HR.out⟩⟩
            · have e1 : decide ((j : Int) < (en : Int)) = false := decide_eq_false (by omega)
              have e2 : decide (j < en) = false := decide_eq_false hlt
              have ej : j = en := by omega
              have HR : Hid (WiV ls bs es en en D = true) := by unfold Hid; rw [HK.out]; have := P2.out.2.2; rw [ej] at this; exact this
              clear hj ej HK
              go_wp2_with fail
              go_ret
              exact ⟨by rw [HR.out]; rfl, P2.out.1⟩
    · have d1 : ((en : Int) != (m : Int)) = true := by simp; omega
      have HE : Hid (WiV ls bs es m en DI = false) := by unfold Hid WiV; rw [decide_eq_false h1, Bool.and_false]; rfl
      go_wp2_with fail
      go_ret
      exact ⟨by rw [HE.out]; rfl, Q1.out⟩
end Go.Proofs.Ytoehhnildocihaa
