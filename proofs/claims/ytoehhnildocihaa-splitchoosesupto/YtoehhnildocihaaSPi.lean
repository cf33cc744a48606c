import Derived.Test.YtoehhnildocihaaSPh
namespace Go.Proofs.Ytoehhnildocihaa
open Go.RowKit
set_option linter.unusedVariables false
set_option linter.unusedSimpArgs false
theorem zip_at {ls bs : List Int} {n : Nat} (h1 : ls.length = n) (h2 : bs.length = n) {j : Nat} (hj : j < n) : (ls.zip bs)[j]? = some (ls[j]?.getD 0, bs[j]?.getD 0) := by
  rw [List.getElem?_eq_getElem (by rw [List.length_zip]; omega), List.getElem_zip, List.getElem?_eq_getElem (by omega), List.getElem?_eq_getElem (by omega)]
  rfl
theorem take_sum {ls : List Int} {j : Nat} (h : j < ls.length) : (ls.take (j + 1)).sum = (ls.take j).sum + ls[j]?.getD 0 := by
  rw [List.take_succ_eq_append_getElem h, List.sum_append, List.getElem?_eq_getElem h]
  simp
theorem sum_bound {ls : List Int} (h : ∀ j, j < ls.length → 0 ≤ ls[j]?.getD 0 ∧ ls[j]?.getD 0 ≤ 8) (j : Nat) (hj : j ≤ ls.length) : 0 ≤ (ls.take j).sum ∧ (ls.take j).sum ≤ 8 * j := by
  induction j with
  | zero => simp
  | succ j ih =>
    have h1 := h j (by omega)
    have h2 := ih (by omega)
    rw [take_sum (by omega)]
    omega
theorem regB_level {ls bs : List Int} {k : Int} (h : regB ls bs k = true) (j : Nat) (hj : j < ls.length) : 0 ≤ ls[j]?.getD 0 ∧ ls[j]?.getD 0 ≤ 8 ∧ 0 ≤ bs[j]?.getD 0 ∧ bs[j]?.getD 0 < 2 ^ (ls[j]?.getD 0).toNat := (okP_iff _ _).1 (regB_at h j hj)
/-- What Way tells. -/
def WyV (ls bs : List Int) (n : Nat) : Int := if regB ls bs n = true then ls.sum else 0
def WyE (ls bs : List Int) (n : Nat) : Int := if regB ls bs n = true then 0 else 180
/-- The signs are some, and all ends are whole numbers at the depth. -/
def mayB (zs : List (Int × Int)) (ss : List Int) (D : Int) : Bool := decide (0 ≤ D) && decide (D ≤ 8) && (List.range zs.length).all fun i => decide (-1 ≤ ss[i]?.getD 0) && decide (ss[i]?.getD 0 ≤ 1) && decide ((zs[i]?.getD (0, 0)).1 ≤ D)
def enV (p : Int × Int) (s : Int) (D : Nat) : Int := -2 ^ D + (2 * p.2 + 1 + s) * 2 ^ (D - p.1.toNat)
def enL (zs : List (Int × Int)) (ss : List Int) (D : Nat) : List Int := (List.range zs.length).map fun i => enV (zs[i]?.getD (0, 0)) (ss[i]?.getD 0) D
theorem enL_len (zs : List (Int × Int)) (ss : List Int) (D : Nat) : (enL zs ss D).length = zs.length := by unfold enL; simp
theorem enL_at (zs : List (Int × Int)) (ss : List Int) (D i : Nat) (h : i < zs.length) : (enL zs ss D)[i]? = some (enV (zs[i]?.getD (0, 0)) (ss[i]?.getD 0) D) := by unfold enL; simp [h]
/-- A point lies in all parts. -/
def wiB (zs : List (Int × Int)) (es : List Int) (D : Nat) : Bool := (List.range zs.length).all fun i => inP (zs[i]?.getD (0, 0)).1.toNat (zs[i]?.getD (0, 0)).2 (es[i]?.getD 0) D
theorem all_step (f : Nat → Bool) (j n : Nat) (hj : j < n) (h : (List.range j).all f = true) : (f j = false → (List.range n).all f = false) ∧ (f j = true → (List.range (j + 1)).all f = true) := by
  refine ⟨fun hf => ?_, fun hf => ?_⟩
  · rw [Bool.eq_false_iff]
    intro h2
    have := List.all_eq_true.1 h2 j (List.mem_range.2 hj)
    rw [this] at hf; cases hf
  · rw [List.range_succ, List.all_append, h]; simp [hf]
set_option maxRecDepth 100000 in
set_option maxHeartbeats 4000000 in
/-- Way. -/
theorem way_any (la ba : Option Addr) (n m c d : Nat) (ls bs : List Int) (w : World) (hl : RdIs w la n c ls) (ha : RdIs w ba m d bs) :
    Calls Try.prog 21 #[.agg #[.slice la n c, .slice ba m d]] w fun e w' => e = .returned (.tuple #[.int .i64 (WyV ls bs n), .int .i64 (WyE ls bs n)]) ∧ Below w.heap.size w w' := by
  have X0 : Below w.heap.size w (w.alloc (.cells #[.slice la n c, .slice ba m d] 30)) := (Below.refl _ w).alloc (Nat.le_refl _) _
  have Y0 : (w.alloc (.cells #[.slice la n c, .slice ba m d] 30)).heap[w.heap.size]? = some (.cells #[.slice la n c, .slice ba m d] 30) := heap_alloc_new w _
  obtain ⟨g, hg⟩ : ∃ g, regB ls bs n = g := ⟨_, rfl⟩
  have HG : Hid (regB ls bs n = g) := hg
  have HN : Hid (ls.length = n ∧ bs.length = m) := ⟨hl.length, ha.length⟩
  obtain ⟨zs, hzs⟩ : ∃ zs, ls.zip bs = zs := ⟨_, rfl⟩
  have HZ : Hid (ls.zip bs = zs) := hzs
  have HP : Hid (∀ W, Below w.heap.size w W → Calls Try.prog 12 #[.agg #[.slice la n c, .slice ba m d], .int .i64 n] W fun e w' => (∃ v, e = .returned (.tuple #[v, .bool g]) ∧ Hid ((g = true → v = .slice (some ⟨W.heap.size + 1, 0, none⟩) n n ∧ w'.heap[W.heap.size + 1]? = some (.cells (ptC zs) 69)) ∧ (g = false → v = .slice none 0 0))) ∧ Below W.heap.size W w') := by
    intro W hb
    rw [← hg, ← hzs]
    exact partsOf_any la ba n m c d ls bs n W (hl.later hb) (ha.later hb)
  clear hl ha hg hzs
  go_enter Try.func21, Try.ntmps21
  go_upto_region 1 with fail
  obtain ⟨X, hX⟩ : ∃ X, (w.alloc (.cells #[.slice la n c, .slice ba m d] 30)) = X := ⟨_, rfl⟩
  rw [hX] at X0 Y0 ⊢
  have k0 := cellAtJ Y0 0 _ rfl
  clear hX
  go_upto_region 2 with (first | (refine wpList_load_row (by rfl) 30 _ (by rfl) w.heap.size #[.slice la n c, .slice ba m d] (by rfl) Y0 _ Try.underlying30 rfl 2 Try.szRT (by rfl) ?_) | (go_at_call 12; refine Calls.mono (HP.out _ X0) ?_; rintro e' w1 ⟨⟨v, rfl, HV⟩, bb1⟩))
  obtain ⟨hv1, hv2⟩ := HV.out
  obtain ⟨PB, hPB⟩ : ∃ PB, X.heap.size + 1 = PB := ⟨_, rfl⟩
  rw [hPB] at hv1
  have hpb : w.heap.size < PB := by have := blk_lt Y0; omega
  have Q1 : Hid (Below w.heap.size w w1) := to_call X0 bb1
  clear X0 Y0 hPB bb1 HP HV k0
  cases g with
  | false =>
    obtain rfl := hv2 rfl
    clear hv1 hv2
    go_wp2_with fail
    refine bodyPost_ret (res_tt _ 2 3 (by kernel_rfl) _ _ _ _ rfl rfl) rfl ?_
    exact ⟨by unfold WyV WyE; rw [HG.out]; rfl, Q1.out⟩
  | true =>
    obtain ⟨rfl, hvp⟩ := hv1 rfl
    clear hv1 hv2
    obtain ⟨hn', hln, hbn⟩ := regB_len HG.out
    have hn : n ≤ 256 := by omega
    have hmn : m = n := by have := HN.out.2; omega
    subst hmn
    have hzl : zs.length = m := by rw [← HZ.out, List.length_zip, HN.out.1, HN.out.2]; omega
    have HZA : Hid (∀ j, j < m → zs[j]? = some (ls[j]?.getD 0, bs[j]?.getD 0)) := fun j hj => by rw [← HZ.out]; exact zip_at HN.out.1 HN.out.2 hj
    have HLV : Hid (∀ j, j < m → 0 ≤ ls[j]?.getD 0 ∧ ls[j]?.getD 0 ≤ 8 ∧ 0 ≤ bs[j]?.getD 0 ∧ bs[j]?.getD 0 < 2 ^ (ls[j]?.getD 0).toNat) := fun j hj => regB_level HG.out j (by rw [HN.out.1]; exact hj)
    clear hn' hln hbn
    have HVP : Hid (w1.heap[PB]? = some (.cells (ptC zs) 69)) := hvp
    clear hvp
    have HSB : Hid (∀ j, j ≤ m → 0 ≤ (ls.take j).sum ∧ (ls.take j).sum ≤ 8 * j) := fun j hj => sum_bound (fun i hi => ⟨(HLV.out i (by rw [← HN.out.1]; exact hi)).1, (HLV.out i (by rw [← HN.out.1]; exact hi)).2.1⟩) j (by rw [HN.out.1]; exact hj)
    go_wp2_with fail
    go_loopg [6, 21] m (fun g v6 iv wx => ∃ (j : Nat) (y : Int), v6 = .int .i64 y ∧ iv = .int .i64 j ∧ j + g = m ∧ Hid (y = (ls.take j).sum) ∧ Hid (Below w.heap.size w wx ∧ wx.heap[PB]? = some (.cells (ptC zs) 69) ∧ True))
    case atStart => exact ⟨0, 0, rfl, rfl, by omega, rfl, ⟨Q1.out, HVP.out, trivial⟩⟩
    case round =>
        clear Q1 HVP
        obtain ⟨j, y, rfl, rfl, hj, HY, P2⟩ := hrel
        by_cases hlt : j < m
        · have e1 : decide ((j : Int) < (m : Int)) = true := decide_eq_true (by omega)
          obtain ⟨q, rfl⟩ : ∃ q, gk = q + 1 := ⟨gk - 1, by omega⟩
          have HIG : Hid (j + (q + 1) = m) := hj
          have hlt' : (j : Int) < (m : Int) := by omega
          obtain ⟨l, hl⟩ : ∃ l, ls[j]?.getD 0 = l := ⟨_, rfl⟩
          obtain ⟨a, ha⟩ : ∃ a, bs[j]?.getD 0 = a := ⟨_, rfl⟩
          have hlv := HLV.out j hlt
          have hzj := HZA.out j hlt
          rw [hl, ha] at hlv hzj
          have HZJ : Hid (zs[j]?.getD (0, 0) = (l, a)) := by unfold Hid; rw [hzj]; rfl
          obtain ⟨o1, o2, o3, o4⟩ := hlv
          have hz := ptC_at hzj
          have g0 := cellAtJ P2.out.2.1 _ _ hz.1
          have g1 := cellAtJ P2.out.2.1 _ _ hz.2
          have hsb := HSB.out j (by omega)
          rw [← HY.out] at hsb
          obtain ⟨y1, y2⟩ := hsb
          have HY2 : Hid (y + l = (ls.take (j + 1)).sum) := by unfold Hid; rw [take_sum (by rw [HN.out.1]; exact hlt), ← HY.out, hl]
          clear hz hzj hl ha hj o4 HY HZJ
          go_upto_region 8 with fail
          obtain ⟨B5, h5⟩ : ∃ B5, wr.heap.size = B5 := ⟨_, rfl⟩
          obtain ⟨W4, h4⟩ : ∃ W4, wr.alloc (.cells #[.int .i64 l, .int .i64 a] 69) = W4 := ⟨_, rfl⟩
          have A4 : Below wr.heap.size wr W4 := by rw [← h4]; exact (Below.refl _ wr).alloc (Nat.le_refl _) _
          have HB5 : W4.heap[B5]? = some (.cells #[.int .i64 l, .int .i64 a] 69) := by rw [← h4, ← h5]; exact heap_alloc_new wr _
          have P4 : Hid (Below w.heap.size w W4 ∧ W4.heap[PB]? = some (.cells (ptC zs) 69) ∧ True) := ⟨to_call P2.out.1 A4, kept A4 P2.out.2.1, trivial⟩
          have m0 := cellAtJ HB5 0 _ rfl
          have m1 := cellAtJ HB5 1 _ rfl
          rw [h4, h5]
          clear h4 h5 A4 P2 g0 g1 HB5
          go_wp2_with fail
          go_roundg q
          case measure => omega
          case rel => exact ⟨j + 1, y + l, rfl, by go_num, by have := HIG.out; omega, HY2, P4⟩
        · have e1 : decide ((j : Int) < (m : Int)) = false := decide_eq_false (by omega)
          have e2 : decide (j < m) = false := decide_eq_false hlt
          have ej : j = m := by omega
          have HY2 : Hid (y = ls.sum) := by unfold Hid; rw [HY.out, ej, ← HN.out.1, List.take_length]
          clear hj ej HY
          go_wp2_with fail
          refine bodyPost_ret (res_tt _ 2 3 (by kernel_rfl) _ _ _ _ rfl rfl) rfl ?_
          exact ⟨by unfold WyV WyE; rw [HG.out, ← HY2.out]; rfl, P2.out.1⟩
set_option maxRecDepth 100000 in
set_option maxHeartbeats 4000000 in
/-- mayEnd. -/
theorem mayEnd_any (so : Option Addr) (n sc PB : Nat) (zs : List (Int × Int)) (ss : List Int) (D : Int) (w : World) (hn : n ≤ 256) (hzl : zs.length = n) (hs : RdIs w so n sc ss) (hp : w.heap[PB]? = some (.cells (ptC zs) 69)) :
    Calls Try.prog 43 #[.slice (some ⟨PB, 0, none⟩) n n, .slice so n sc, .int .i64 D] w fun e w' => e = .returned (.bool (mayB zs ss D)) ∧ Below w.heap.size w w' := by
  have HS : Hid (∀ W', Below w.heap.size w W' → RdIs W' so n sc ss) := fun W' hb => hs.later hb
  have HVP : Hid (w.heap[PB]? = some (.cells (ptC zs) 69)) := hp
  have HZL : Hid (zs.length = n) := hzl
  clear hs hp hzl
  by_cases h1 : 0 ≤ D
  · have d1 : decide (D < 0) = false := decide_eq_false (by omega)
    by_cases h2 : D ≤ 8
    · have d2 : decide (D > 8) = false := decide_eq_false (by omega)
      obtain ⟨f, hf⟩ : ∃ f : Nat → Bool, (fun i => decide (-1 ≤ ss[i]?.getD 0) && decide (ss[i]?.getD 0 ≤ 1) && decide ((zs[i]?.getD (0, 0)).1 ≤ D)) = f := ⟨_, rfl⟩
      have HF : Hid (∀ i, f i = (decide (-1 ≤ ss[i]?.getD 0) && decide (ss[i]?.getD 0 ≤ 1) && decide ((zs[i]?.getD (0, 0)).1 ≤ D))) := fun i => by rw [← hf]
      have HK : Hid (mayB zs ss D = (List.range n).all f) := by unfold Hid mayB; rw [decide_eq_true h1, decide_eq_true h2, hf, HZL.out]; rfl
      clear hf
      go_enter Try.func43, Try.ntmps43
      go_wp2_with fail
      go_loopg [17] n (fun g iv wx => ∃ (j : Nat), iv = .int .i64 j ∧ j + g = n ∧ Hid (Below w.heap.size w wx ∧ (List.range j).all f = true))
      case atStart => exact ⟨0, rfl, by omega, ⟨Below.refl _ _, rfl⟩⟩
      case round =>
        obtain ⟨j, rfl, hj, P2⟩ := hrel
        by_cases hlt : j < n
        · have e1 : decide ((j : Int) < (n : Int)) = true := decide_eq_true (by omega)
          obtain ⟨q, rfl⟩ : ∃ q, gk = q + 1 := ⟨gk - 1, by omega⟩
          have HIG : Hid (j + (q + 1) = n) := hj
          have hlt' : (j : Int) < (n : Int) := by omega
          have hjz : j < zs.length := by rw [HZL.out]; exact hlt
          obtain ⟨⟨l, a⟩, hla⟩ : ∃ p, zs[j] = p := ⟨_, rfl⟩
          have hzj : zs[j]? = some (l, a) := by rw [List.getElem?_eq_getElem hjz, hla]
          have hz := ptC_at hzj
          have hwP : wr.heap[PB]? = some (.cells (ptC zs) 69) := (P2.out.1.block PB (blk_lt HVP.out)).trans HVP.out
          have g0 := cellAtJ hwP _ _ hz.1
          have g1 := cellAtJ hwP _ _ hz.2
          rcases (HS.out _ P2.out.1).cells with h0 | ⟨sb, so', rfl, hcs⟩
          · omega
          have gs := hcs j hlt
          obtain ⟨x, hx⟩ : ∃ x, ss[j]?.getD 0 = x := ⟨_, rfl⟩
          rw [hx] at gs
          have HFJ : Hid (f j = (decide (-1 ≤ x) && decide (x ≤ 1) && decide (l ≤ D))) := by unfold Hid; rw [HF.out, hx, hzj]; rfl
          have HST := all_step f j n hlt P2.out.2
          clear hz hzj hla hwP hcs hx hj
          have P3 : Hid (Below w.heap.size w wr) := P2.out.1
          clear P2
          go_upto_region 6 with fail
          obtain ⟨B5, h5⟩ : ∃ B5, wr.heap.size = B5 := ⟨_, rfl⟩
          obtain ⟨W4, h4⟩ : ∃ W4, wr.alloc (.cells #[.int .i64 l, .int .i64 a] 69) = W4 := ⟨_, rfl⟩
          have A4 : Below wr.heap.size wr W4 := by rw [← h4]; exact (Below.refl _ wr).alloc (Nat.le_refl _) _
          have HB5 : W4.heap[B5]? = some (.cells #[.int .i64 l, .int .i64 a] 69) := by rw [← h4, ← h5]; exact heap_alloc_new wr _
          have P4 : Hid (Below w.heap.size w W4) := to_call P3.out A4
          have m0 := cellAtJ HB5 0 _ rfl
          have m2 := cell_later gs A4
          rw [h4, h5]
          have HT2 : Hid ((f j = false → (List.range n).all f = false) ∧ (f j = true → (List.range (j + 1)).all f = true)) := HST
          clear h4 h5 A4 HB5 g0 g1 gs HST
          by_cases c1 : x < -1
          · have d3 : decide (x < -1) = true := decide_eq_true c1
            have HR : Hid (mayB zs ss D = false) := by unfold Hid; rw [HK.out]; exact HT2.out.1 (by rw [HFJ.out, decide_eq_false (by omega)]; rfl)
            clear HT2 HFJ HK
            go_wp2_with fail
            go_ret
            exact ⟨by rw [HR.out]; rfl, P4.out⟩
          · have d3 : decide (x < -1) = false := decide_eq_false c1
            by_cases c2 : x > 1
            · have d4 : decide (x > 1) = true := decide_eq_true c2
              have HR : Hid (mayB zs ss D = false) := by unfold Hid; rw [HK.out]; exact HT2.out.1 (by rw [HFJ.out, decide_eq_false (p := x ≤ 1) (by omega), Bool.and_false]; rfl)
              clear HT2 HFJ HK
              go_wp2_with fail
              go_ret
              exact ⟨by rw [HR.out]; rfl, P4.out⟩
            · have d4 : decide (x > 1) = false := decide_eq_false c2
              by_cases c3 : l > D
              · have d5 : decide (l > D) = true := decide_eq_true c3
                have HR : Hid (mayB zs ss D = false) := by unfold Hid; rw [HK.out]; exact HT2.out.1 (by rw [HFJ.out, decide_eq_false (p := l ≤ D) (by omega), Bool.and_false])
                clear HT2 HFJ HK
                go_wp2_with fail
                go_ret
                exact ⟨by rw [HR.out]; rfl, P4.out⟩
              · have d5 : decide (l > D) = false := decide_eq_false c3
                have HR : Hid ((List.range (j + 1)).all f = true) := HT2.out.2 (by rw [HFJ.out, decide_eq_true (p := -1 ≤ x) (by omega), decide_eq_true (p := x ≤ 1) (by omega), decide_eq_true (p := l ≤ D) (by omega)]; rfl)
                clear HT2 HFJ
                go_wp2_with fail
                go_roundg q
                case measure => omega
                case rel => exact ⟨j + 1, by go_num, by have := HIG.out; omega, ⟨P4.out, HR.out⟩⟩
        · have e1 : decide ((j : Int) < (n : Int)) = false := decide_eq_false (by omega)
          have e2 : decide (j < n) = false := decide_eq_false hlt
          have ej : j = n := by omega
          have HR : Hid (mayB zs ss D = true) := by unfold Hid; rw [HK.out]; have := P2.out.2; rw [ej] at this; exact this
          clear hj ej HK
          go_wp2_with fail
          go_ret
          exact ⟨by rw [HR.out]; rfl, P2.out.1⟩
    · have d2 : decide (D > 8) = true := decide_eq_true (by omega)
      have HR : Hid (mayB zs ss D = false) := by unfold Hid mayB; rw [decide_eq_false h2, Bool.and_false]; rfl
      go_enter Try.func43, Try.ntmps43
      go_wp2_with fail
      go_ret
      exact ⟨by rw [HR.out]; rfl, Below.refl _ _⟩
  · have d1 : decide (D < 0) = true := decide_eq_true (by omega)
    have HR : Hid (mayB zs ss D = false) := by unfold Hid mayB; rw [decide_eq_false h1]; rfl
    go_enter Try.func43, Try.ntmps43
    go_wp2_with fail
    go_ret
    exact ⟨by rw [HR.out]; rfl, Below.refl _ _⟩
end Go.Proofs.Ytoehhnildocihaa
