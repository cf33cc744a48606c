import Derived.Test.YtfepcpkfbnpbjaaGreatGJb
import Derived.Test.YtfepcpkfbnpbjaaGreatMS
namespace Go.Proofs.YtfepcpkfbnpbjaaGreat
open Go.RowKit
set_option linter.unusedVariables false
set_option linter.unusedSimpArgs false

def one1 (c : Nat) : Option Int := prodO (some 0) c 4607182418800017408 0
/-- The span around a number. -/
def AroR (c : Nat) (o : Option Int) (r : Nat × Nat × Bool) : Prop := ∃ lo low hi high, RndO 2 (joinO (one1 c) o true) lo low ∧ RndO 1 (joinO (one1 c) o false) hi high ∧ r = (if low && high then makeS lo hi else (0, 0, true))
theorem Tryz.infoSpJ : (Tryz.prog.info? 56).map (·.size) = some 3 := by kernel_rfl
theorem oneSp (a b : Nat) (x : Bool) : (#[.float .f64 a, .float .f64 b, .bool x] : Array Value).all (·.oneCell') = true := by
  simp only [Array.all_eq_true_iff_forall_mem]
  intro v hv
  simp only [List.mem_toArray, List.mem_cons, List.not_mem_nil, or_false] at hv
  rcases hv with rfl | rfl | rfl <;> rfl
theorem RndO.ltJ {d : Int} {o : Option Int} {u : Nat} {b : Bool} (h : RndO d o u b) : u < 18446744073709551616 := by
  cases o with
  | none => rw [h.1]; decide
  | some z =>
    obtain ⟨a, ha⟩ : ∃ a : Nat, a = 1166 := ⟨_, rfl⟩
    exact (tell_fin (h a ha)).2
set_option maxRecDepth 100000 in
set_option maxHeartbeats 2000000 in
theorem around_any (c : Nat) (hc : c < 18446744073709551616) (P : Nat) (o : Option Int) (w : World) (hA : AccO w P o) :
    Calls Tryz.prog 31 #[.float .f64 c, .pointer (some ⟨P, 0, none⟩)] w fun e w' => (∃ r : Nat × Nat × Bool, e = .returned (.agg #[.float .f64 r.1, .float .f64 r.2.1, .bool r.2.2]) ∧ AroR c o r) ∧ Below w.heap.size w w' := by
  have HA : Hid _ := hA
  have hPl := hA.block
  clear hA
  go_enter Tryz.func31, Tryz.ntmps31
  go_upto_region 1 with fail
  have Z0 := heap_alloc_new w (.cells #[.float .f64 0, .float .f64 0, .bool false] 56)
  have Z1 : Below w.heap.size w (w.alloc (.cells #[.float .f64 0, .float .f64 0, .bool false] 56)) := (Below.refl _ w).alloc (Nat.le_refl _) _
  have Z2 : AccO (w.alloc (.cells #[.float .f64 0, .float .f64 0, .bool false] 56)) P o := HA.out.heap (Below.heap_alloc w _ _ hPl)
  obtain ⟨X, hX⟩ : ∃ X, w.alloc (.cells #[.float .f64 0, .float .f64 0, .bool false] 56) = X := ⟨_, rfl⟩
  rw [hX] at Z0 Z1 Z2 ⊢
  have hxs := blk_lt Z0
  clear hX HA
  go_wp2_with fail
  refine (new_any _).mono ?_
  rintro e w1 ⟨rfl, a1, b1, s1⟩
  go_wp2_with fail
  refine (new_any _).mono ?_
  rintro e w2 ⟨rfl, a2, b2, s2⟩
  rw [s1] at a2 s2
  have q1 : AccO w2 X.heap.size (some 0) := a1.below b2 (by omega)
  have q3 : AccO w2 P o := (Z2.below b1 (by omega)).below b2 (by omega)
  go_wp2_with fail
  refine (accAdd_any X.heap.size (some 0) c hc _ q1).mono ?_
  rintro e w3 ⟨rfl, a3, c3⟩
  have q4 : AccO w3 P o := q3.chg c3 (by omega)
  have q5 : AccO w3 (X.heap.size + 1) (some 0) := a2.chg c3 (by omega)
  go_wp2_with fail
  refine (accJoin_any X.heap.size P _ o true _ a3 q4).mono ?_
  rintro e w4 ⟨rfl, a4, c4⟩
  have q6 : AccO w4 P o := q4.chg c4 (by omega)
  have q7 : AccO w4 (X.heap.size + 1) (some 0) := q5.chg c4 (by omega)
  go_wp2_with fail
  refine (accAdd_any (X.heap.size + 1) (some 0) c hc _ q7).mono ?_
  rintro e w5 ⟨rfl, a5, c5⟩
  have q8 : AccO w5 P o := q6.chg c5 (by omega)
  have q9 : AccO w5 X.heap.size (joinO (one1 c) o true) := a4.chg c5 (by omega)
  go_wp2_with fail
  refine (accJoin_any (X.heap.size + 1) P _ o false _ a5 q8).mono ?_
  rintro e w6 ⟨rfl, a6, c6⟩
  have q10 : AccO w6 X.heap.size (joinO (one1 c) o true) := q9.chg c6 (by omega)
  have z6 : Below w.heap.size w w6 := Z1.trans ((b1.mono (by omega)).trans ((b2.mono (by omega)).trans ((c3.below.mono (by omega)).trans ((c4.below.mono (by omega)).trans ((c5.below.mono (by omega)).trans (c6.below.mono (by omega)))))))
  have k6 : w6.heap[w.heap.size]? = some (.cells #[.float .f64 0, .float .f64 0, .bool false] 56) := by
    have h3 := c3.below.size
    have h4 := c4.below.size
    have h5 := c5.below.size
    rw [c6.other _ (by omega) (by omega), c5.other _ (by omega) (by omega), c4.other _ (by omega) (by omega), c3.other _ (by omega) (by omega), b2.block _ (by omega), b1.block _ (by omega)]
    exact Z0
  have HQ : Hid _ := And.intro a6 (And.intro q10 (And.intro z6 k6))
  clear a1 b1 s1 a2 b2 s2 q1 q3 a3 c3 q4 q5 a4 c4 q6 q7 a5 c5 q8 q9 a6 c6 q10 z6 k6 Z0 Z1 Z2
  go_wp2_with fail
  refine (accRound_any 2 X.heap.size _ _ HQ.out.2.1).mono ?_
  rintro e w7 ⟨lo, low, rfl, r7, b7⟩
  have HR7 : Hid (RndO 2 (joinO (one1 c) o true) lo low) := r7
  clear r7
  go_wp2_with fail
  refine (accRound_any 1 (X.heap.size + 1) _ _ (HQ.out.1.below b7 HQ.out.1.block)).mono ?_
  rintro e w8 ⟨hi, high, rfl, r8, b8⟩
  have HR8 : Hid (RndO 1 (joinO (one1 c) o false) hi high) := r8
  have HB8 : Hid (Below w.heap.size w w8 ∧ w8.heap[w.heap.size]? = some (.cells #[.float .f64 0, .float .f64 0, .bool false] 56)) := ⟨to_call (to_call HQ.out.2.2.1 b7) b8, kept b8 (kept b7 HQ.out.2.2.2)⟩
  clear r8 b7 b8 HQ
  have hlo := RndO.ltJ HR7.out
  have hhi := RndO.ltJ HR8.out
  cases low with
  | false =>
    go_wp2_with (first
      | (refine wpList_store_row (by rfl) 56 _ _ (by rfl) w w.heap.size w.heap.size _ _ (by rfl) (by rfl) HB8.out.2 HB8.out.1 (Nat.le_refl _) 3 Tryz.infoSpJ (by rfl) (by rfl) (oneSp ..) ?_; intro W9 e9 b9 s9 o9))
    exact bodyPost_ret (res_oneJ _ 4 56 (by kernel_rfl) _ _ w.heap.size _ (by rfl) _ Tryz.underlying56 rfl 3 Tryz.infoSpJ rfl e9) rfl ⟨⟨(0, 0, true), rfl, lo, false, hi, high, HR7.out, HR8.out, rfl⟩, b9⟩
  | true =>
    cases high with
    | false =>
      go_wp2_with (first
        | (refine wpList_store_row (by rfl) 56 _ _ (by rfl) w w.heap.size w.heap.size _ _ (by rfl) (by rfl) HB8.out.2 HB8.out.1 (Nat.le_refl _) 3 Tryz.infoSpJ (by rfl) (by rfl) (oneSp ..) ?_; intro W9 e9 b9 s9 o9))
      exact bodyPost_ret (res_oneJ _ 4 56 (by kernel_rfl) _ _ w.heap.size _ (by rfl) _ Tryz.underlying56 rfl 3 Tryz.infoSpJ rfl e9) rfl ⟨⟨(0, 0, true), rfl, lo, true, hi, false, HR7.out, HR8.out, rfl⟩, b9⟩
    | true =>
      go_wp2_with (first
        | (go_at_call 69; refine (make_any lo hi hlo hhi _).mono ?_; rintro e w9 ⟨rfl, b9'⟩)
        | (refine wpList_store_row (by rfl) 56 _ _ (by rfl) w w.heap.size w.heap.size _ _ (by rfl) (by rfl) (kept b9' HB8.out.2) (to_call HB8.out.1 b9') (Nat.le_refl _) 3 Tryz.infoSpJ (by rfl) (by rfl) (oneSp ..) ?_; intro W9 e9 b9 s9 o9))
      exact bodyPost_ret (res_oneJ _ 4 56 (by kernel_rfl) _ _ w.heap.size _ (by rfl) _ Tryz.underlying56 rfl 3 Tryz.infoSpJ rfl e9) rfl ⟨⟨makeS lo hi, rfl, lo, true, hi, true, HR7.out, HR8.out, rfl⟩, b9⟩
end Go.Proofs.YtfepcpkfbnpbjaaGreat

namespace Go.Proofs.YtfepcpkfbnpbjaaGreat
open Go.RowKit
set_option linter.unusedVariables false
set_option linter.unusedSimpArgs false

theorem Tryz.infoSp3 : (Tryz.prog.info? 56).map (fun i => (i.zero, i.size, i.bytes)) = some (some (.agg #[.float .f64 0, .float .f64 0, .bool false]), 3, 24) := by kernel_rfl
def spN (n : Nat) : Array Value := madeCells #[.float .f64 0, .float .f64 0, .bool false] (n * 3)
theorem spN_size (n : Nat) : (spN n).size = n * 3 := by unfold spN madeCells; simp
theorem makeSp (n : Nat) (hn : n ≤ 1000000) (w : World) :
    (Instr.makeSlice 41 (.int .i64 (n : Int)) (.int .i64 (n : Int))).run Tryz.prog w = .ok (.slice (some ⟨w.heap.size, 0, none⟩) n n) (w.alloc (.cells (spN n) 56)) := by
  obtain ⟨i0, hi, hz0, hz1, hz2⟩ := info3J Tryz.infoSp3
  have h := run_makeSlice (P := Tryz.prog) w 41 56 i0 (.agg #[.float .f64 0, .float .f64 0, .bool false]) Tryz.underlying41 hi hz0 .i64 .i64 (n : Int) (n : Int) (by omega) (by omega) (by rw [hz1, Int.toNat_natCast]; omega) (by rw [hz2]; omega) (by omega)
  rw [Int.toNat_natCast, hz1] at h
  exact h
/-- A row with three cells written. -/
def put3 (arr : Array Value) (o : Nat) (a b c : Value) : Array Value := (arr.toList.take o ++ [a, b, c] ++ arr.toList.drop (o + 3)).toArray
theorem put3_size (arr : Array Value) (o : Nat) (a b c : Value) (h : o + 3 ≤ arr.size) : (put3 arr o a b c).size = arr.size := by unfold put3; simp; omega
theorem put3_at (arr : Array Value) (o : Nat) (a b c : Value) (h : o + 3 ≤ arr.size) : (put3 arr o a b c)[o]? = some a ∧ (put3 arr o a b c)[o + 1]? = some b ∧ (put3 arr o a b c)[o + 2]? = some c := by
  have hl : (arr.toList.take o).length = o := by simp; omega
  unfold put3
  simp only [List.getElem?_toArray, List.append_assoc]
  refine ⟨?_, ?_, ?_⟩
  · rw [List.getElem?_append_right (by omega), hl, Nat.sub_self]; rfl
  · rw [List.getElem?_append_right (by omega), hl, show o + 1 - o = 1 by omega]; rfl
  · rw [List.getElem?_append_right (by omega), hl, show o + 2 - o = 2 by omega]; rfl
theorem put3_lo (arr : Array Value) (o : Nat) (a b c : Value) (h : o + 3 ≤ arr.size) (i : Nat) (hi : i < o) : (put3 arr o a b c)[i]? = arr[i]? := by
  unfold put3
  simp only [List.getElem?_toArray, List.append_assoc]
  rw [List.getElem?_append_left (by simp; omega), List.getElem?_take_of_lt hi]
  simp
/-- A row of spans, the first k of them told. -/
structure SpL (w : World) (g n k : Nat) (R : Nat → Nat × Nat × Bool → Prop) : Prop where
  ex : ∃ arr : Array Value, w.heap[g]? = some (.cells arr 56) ∧ arr.size = n * 3 ∧ ∀ j, j < k → ∃ r, R j r ∧ arr[j * 3]? = some (.float .f64 r.1) ∧ arr[j * 3 + 1]? = some (.float .f64 r.2.1) ∧ arr[j * 3 + 2]? = some (.bool r.2.2)
theorem SpL.heap {w w' : World} {g n k : Nat} {R : Nat → Nat × Nat × Bool → Prop} (h : SpL w g n k R) (hk : w'.heap[g]? = w.heap[g]?) : SpL w' g n k R := by obtain ⟨arr, h1, h2⟩ := h.ex; exact ⟨arr, hk.trans h1, h2⟩
set_option maxRecDepth 100000 in
set_option maxHeartbeats 4000000 in
theorem bounds_ok (z : ZD) (w : World) (hz : ZR w z) (hc : checkB z = true) (hb : z.bad = false) (hN : z.N = (z.rn : Int)) (hrn : z.rn ≤ 100000) (hdg : z.dn ≤ z.gn) (hcn : z.cn = z.rn) (hw : ∀ k, k < z.dn → (z.gs[k]?.getD []).length = z.rn) :
    Calls Tryz.prog 7 #[.agg #[.int .i64 z.N, .slice z.co z.cn z.cc, .slice z.io z.dn z.dc, .slice z.go z.gn z.gc, .slice z.ro z.rn z.rc, .bool z.bad]] w fun e w' => (∃ g, e = .returned (.slice (some ⟨g, 0, none⟩) z.rn z.rn) ∧ w.heap.size ≤ g ∧ SpL w' g z.rn z.rn (fun j r => AroR (z.cs[j]?.getD 0) (farZ z j) r)) ∧ Below w.heap.size w w' := by
  have HZ : Hid (∀ W', Below w.heap.size w W' → ZR W' z) := fun W' hb => hz.later hb
  have HT : Hid (∀ W', Below w.heap.size w W' → Calls Tryz.prog 21 #[.agg #[.int .i64 z.N, .slice z.co z.cn z.cc, .slice z.io z.dn z.dc, .slice z.go z.gn z.gc, .slice z.ro z.rn z.rc, .bool z.bad]] W' fun e w' => e = .returned (.agg #[.int .i64 z.N, .slice z.co z.cn z.cc, .slice z.io z.dn z.dc, .slice z.go z.gn z.gc, .slice z.ro z.rn z.rc, .bool z.bad]) ∧ Below W'.heap.size W' w') := fun W' hb => taken_ok z W' (hz.later hb) hc
  have HRe : Hid (∀ W', Below w.heap.size w W' → _) := fun W' hb => reaches_any z W' (hz.later hb) hrn hdg hw
  obtain ⟨fz, hfz⟩ : ∃ fz, farZ z = fz := ⟨_, rfl⟩
  rw [hfz] at HRe ⊢
  have HCL : Hid (z.cs.length = z.cn) := hz.c.length
  clear hz hc hw hfz
  obtain ⟨N, co, cn, cc, io, dn, dc, go, gn, gc, ro, rn, rc, bad, cs, ids, gv, gs, rs⟩ := z
  dsimp only at HZ HT HRe HCL hb hN hrn hdg hcn ⊢
  subst hb
  subst hN
  have HCN : Hid (cn = rn) := hcn
  clear hcn
  have X0 : Below w.heap.size w (w.alloc (.cells #[.int .i64 (rn : Int), .slice co cn cc, .slice io dn dc, .slice go gn gc, .slice ro rn rc, .bool false] 26)) := (Below.refl _ w).alloc (Nat.le_refl _) _
  have hmk := makeSp rn (by omega)
  go_enter Tryz.func7, Tryz.ntmps7
  go_upto_region 2 with (first
    | (go_at_call 21; refine Calls.mono (HT.out _ X0) ?_; rintro e w1 ⟨rfl, hb1⟩)
    | (refine wpList_store_row (by rfl) 26 _ _ (by rfl) w w.heap.size w.heap.size _ _ (by rfl) (by rfl) (kept hb1 (heap_alloc_new w _)) (to_call X0 hb1) (Nat.le_refl _) 6 Tryz.infoZ (by rfl) (by rfl) (oneZ _ _ _ _ _ rfl rfl rfl rfl _) ?_; intro W2 e2 b2 s2 o2))
  have HK2 : Hid (Below w.heap.size w W2 ∧ W2.heap[w.heap.size]? = some (.cells #[.int .i64 (rn : Int), .slice co cn cc, .slice io dn dc, .slice go gn gc, .slice ro rn rc, .bool false] 26)) := ⟨b2, e2⟩
  have hw2 := blk_lt e2
  clear X0 hb1 b2 s2 o2 HT e2
  obtain ⟨c0, c1, c2, c3, c4, c5⟩ := cells6 HK2.out.2
  go_upto_region 5 with fail
  have Y0 : (W2.alloc (.cells (spN rn) 56)).heap[w.heap.size]? = some (.cells #[.int .i64 (rn : Int), .slice co cn cc, .slice io dn dc, .slice go gn gc, .slice ro rn rc, .bool false] 26) := alloc_kept HK2.out.2 _
  have Y1 : (W2.alloc (.cells (spN rn) 56)).heap[W2.heap.size]? = some (.cells (spN rn) 56) := heap_alloc_new W2 _
  have Y2 : Below w.heap.size w (W2.alloc (.cells (spN rn) 56)) := HK2.out.1.alloc HK2.out.1.size _
  obtain ⟨X, hX⟩ : ∃ X, W2.alloc (.cells (spN rn) 56) = X := ⟨_, rfl⟩
  rw [hX] at Y0 Y1 Y2 ⊢
  clear hX hmk c0 c1 c2 c3 c4 c5 HK2
  go_wp2_with (first
    | (refine wpList_load_row (by rfl) 26 _ (by rfl) w.heap.size _ (by rfl) Y0 _ Tryz.underlying26 rfl 6 Tryz.infoZ (by rfl) ?_)
    | (go_at_call 30; refine Calls.mono (HRe.out _ Y2) ?_; rintro e w4 ⟨rfl, ⟨p, hp⟩, b4, s4⟩))
  have HP0 : Hid (AcL w4 (X.heap.size + 1) rn p fz) := hp
  have H40 : Hid (Below w.heap.size w w4 ∧ w4.heap[w.heap.size]? = some (.cells #[.int .i64 (rn : Int), .slice co cn cc, .slice io dn dc, .slice go gn gc, .slice ro rn rc, .bool false] 26)) := ⟨to_call Y2 b4, kept b4 Y0⟩
  have HL0 : Hid (SpL w4 W2.heap.size rn 0 (fun j r => AroR (cs[j]?.getD 0) (fz j) r)) := ⟨_, kept b4 Y1, spN_size rn, fun j hj => by omega⟩
  have HGX : Hid (W2.heap.size < X.heap.size) := blk_lt Y1
  have HS4 : Hid (X.heap.size + 1 < w4.heap.size) := s4
  clear hp b4 s4 Y0 Y1 Y2 HRe
  go_loopg [16] rn (fun g iv wx => ∃ k : Nat, iv = .int .i64 k ∧ k + g = rn ∧ Hid (AcL wx (X.heap.size + 1) rn p fz) ∧ Hid (Below w.heap.size w wx ∧ wx.heap[w.heap.size]? = some (.cells #[.int .i64 (rn : Int), .slice co cn cc, .slice io dn dc, .slice go gn gc, .slice ro rn rc, .bool false] 26)) ∧ Hid (SpL wx W2.heap.size rn k (fun j r => AroR (cs[j]?.getD 0) (fz j) r)) ∧ Hid (X.heap.size + 1 < wx.heap.size))
  case atStart => exact ⟨0, rfl, by omega, HP0, H40, HL0, HS4⟩
  case round =>
    clear HP0 H40 HL0 HS4
    obtain ⟨k, rfl, hk, HP, H4, HL, HS⟩ := hrel
    by_cases hlt : k < rn
    · have hd : decide ((k : Int) < (rn : Int)) = true := decide_eq_true (by omega)
      obtain ⟨g, rfl⟩ : ∃ g, gk = g + 1 := ⟨gk - 1, by omega⟩
      have hzc := (HZ.out _ H4.out.1).c
      dsimp only at hzc
      rcases hzc.cells with h0 | ⟨cb, coff, rfl, hcc⟩
      · have := HCN.out; omega
      have hltc : k < cn := by rw [HCN.out]; exact hlt
      have gc' := hcc k hltc
      have hxl := hzc.lt _ (getD_mem (us := cs) (j := k) (by have := HCL.out; have := HCN.out; omega))
      obtain ⟨x, hx⟩ : ∃ x, cs[k]?.getD 0 = x := ⟨_, rfl⟩
      have HX : Hid (cs[k]?.getD 0 = x) := hx
      rw [hx] at gc' hxl
      have gp := HP.out.row k hlt
      obtain ⟨d0, d1, d2, d3, d4, d5⟩ := cells6 H4.out.2
      have HAr : Hid _ := around_any x hxl (p k) (fz k) wr (HP.out.acc k hlt)
      have HIG : Hid (k + (g + 1) = rn) := hk
      have hkr3 : k * 3 + 3 ≤ rn * 3 := by omega
      obtain ⟨arr, ha1, ha2, ha3⟩ := HL.out.ex
      have HRr : Hid _ := ha3
      clear hcc hx hk hzc hxl ha3
      go_wp2_with (first
        | (go_at_call 31; refine Calls.mono HAr.out ?_; rintro e w5 ⟨⟨r, rfl, hr⟩, b5⟩)
        | (refine wpList_store_at (by rfl) 56 _ _ (by rfl) w w.heap.size W2.heap.size (k * 3) (.agg #[.float .f64 r.1, .float .f64 r.2.1, .bool r.2.2]) _ (put3 arr (k * 3) (.float .f64 r.1) (.float .f64 r.2.1) (.bool r.2.2)) 56 (by rfl) (by rfl) (kept b5 ha1) (to_call H4.out.1 b5) (by omega) 3 Tryz.infoSpJ (by rfl) (by rw [ha2]; exact hkr3) (by intro u hu; simp [Value.cells] at hu; rcases hu with rfl | rfl | rfl <;> rfl) (by rfl) ?_; intro w7 e7 b7 s7 o7))
      have hgx := HGX.out
      have hsr := HS.out
      have h5s := b5.size
      have HP7 : Hid (AcL w7 (X.heap.size + 1) rn p fz) := (HP.out.later b5 HS.out).heap (fun i hi _ => o7 i (by omega)) (by omega)
      have H47 : Hid (Below w.heap.size w w7 ∧ w7.heap[w.heap.size]? = some (.cells #[.int .i64 (rn : Int), .slice (some ⟨cb, coff, none⟩) cn cc, .slice io dn dc, .slice go gn gc, .slice ro rn rc, .bool false] 26)) := ⟨b7, (o7 _ (by omega)).trans (kept b5 H4.out.2)⟩
      have HL7 : Hid (SpL w7 W2.heap.size rn (k + 1) (fun j r => AroR (cs[j]?.getD 0) (fz j) r)) := by
        refine ⟨_, e7, by rw [put3_size _ _ _ _ _ (by rw [ha2]; exact hkr3), ha2], fun j hj => ?_⟩
        by_cases e : j = k
        · subst e
          exact ⟨r, by rw [HX.out]; exact hr, put3_at _ _ _ _ _ (by rw [ha2]; exact hkr3)⟩
        · obtain ⟨r', h1, h2, h3, h4⟩ := HRr.out j (by omega)
          exact ⟨r', h1, (put3_lo _ _ _ _ _ (by rw [ha2]; exact hkr3) _ (by omega)).trans h2, (put3_lo _ _ _ _ _ (by rw [ha2]; exact hkr3) _ (by omega)).trans h3, (put3_lo _ _ _ _ _ (by rw [ha2]; exact hkr3) _ (by omega)).trans h4⟩
      have HS7 : Hid (X.heap.size + 1 < w7.heap.size) := by unfold Hid; omega
      clear hr b5 e7 b7 s7 o7 hgx hsr h5s ha1 ha2 gp gc' d0 d1 d2 d3 d4 d5 HX HRr HAr hkr3
      go_roundg g
      case measure => omega
      case rel => exact ⟨k + 1, by go_num, by have := HIG.out; omega, HP7, H47, HL7, HS7⟩
    · have hd : decide ((k : Int) < (rn : Int)) = false := decide_eq_false (by omega)
      have hd' : decide (k < rn) = false := decide_eq_false (by omega)
      have hkr : k = rn := by omega
      have HL2 : Hid (SpL wr W2.heap.size rn rn (fun j r => AroR (cs[j]?.getD 0) (fz j) r)) := hkr ▸ HL.out
      clear hkr
      go_wp2_with fail
      go_ret
      exact ⟨⟨W2.heap.size, rfl, by omega, HL2.out⟩, H4.out.1⟩
end Go.Proofs.YtfepcpkfbnpbjaaGreat

namespace Go.Proofs.YtfepcpkfbnpbjaaGreat
open Go.RowKit
set_option linter.unusedVariables false
set_option linter.unusedSimpArgs false

theorem plainM_ltJ {x : Nat} (h : x < 18446744073709551616) : plainM x < 18446744073709551616 := by unfold plainM; split <;> omega
end Go.Proofs.YtfepcpkfbnpbjaaGreat


namespace Go.Proofs.YtfepcpkfbnpbjaaGreat
open Go.RowKit
set_option linter.unusedVariables false
set_option linter.unusedSimpArgs false

theorem drop_eqI {is js : List Int} {k : Nat} (h1 : k < is.length) (h2 : k < js.length) : decide (is.drop k = js.drop k) = (decide (is[k]?.getD 0 = js[k]?.getD 0) && decide (is.drop (k + 1) = js.drop (k + 1))) := by
  rw [List.drop_eq_getElem_cons h1, List.drop_eq_getElem_cons h2, List.getElem?_eq_getElem h1, List.getElem?_eq_getElem h2]
  simp only [List.cons.injEq, Option.getD_some, Bool.decide_and]
set_option maxRecDepth 100000 in
set_option maxHeartbeats 2000000 in
theorem equalI_any (ao bo : Option Addr) (al ac bl bc : Nat) (is js : List Int) (w : World) (h : RdIs w ao al ac is) (h' : RdIs w bo bl bc js) :
    Calls Tryz.prog 74 #[.slice ao al ac, .slice bo bl bc] w fun e w' => e = .returned (.bool (decide (is = js))) ∧ Below w.heap.size w w' := by
  have HR : Hid _ := h
  have HR' : Hid _ := h'
  have HLN : Hid (is.length = al ∧ js.length = bl ∧ al ≤ 9223372036854775807) := ⟨h.length, h'.length, Nat.le_trans h.max maxLen_le⟩
  have hmx : al ≤ 9223372036854775807 := Nat.le_trans h.max maxLen_le
  clear h h'
  by_cases hn : al = bl
  · subst hn
    go_enter Tryz.func74, Tryz.ntmps74
    go_wp2_with fail
    go_loopg [13] al (fun g iv wx => ∃ k : Nat, iv = .int .i64 k ∧ k + g = al ∧ Hid (Below w.heap.size w wx) ∧ Hid (decide (is.drop k = js.drop k) = decide (is = js)))
    case atStart => exact ⟨0, rfl, by omega, Below.refl _ w, rfl⟩
    case round =>
      obtain ⟨k, rfl, hk, HB, HD⟩ := hrel
      by_cases hlt : k < al
      · have hd : decide ((k : Int) < (al : Int)) = true := decide_eq_true (by omega)
        obtain ⟨g, rfl⟩ : ∃ g, gk = g + 1 := ⟨gk - 1, by omega⟩
        rcases (HR.out.later HB.out).cells with h0 | ⟨ab, aoff, rfl, hca⟩
        · omega
        rcases (HR'.out.later HB.out).cells with h0 | ⟨bb, boff, rfl, hcb⟩
        · omega
        have ga := hca k hlt
        have gb := hcb k hlt
        have HDs : Hid (_ = _) := drop_eqI (is := is) (js := js) (k := k) (by rw [HLN.out.1]; exact hlt) (by rw [HLN.out.2.1]; exact hlt)
        obtain ⟨x, hx⟩ : ∃ x, is[k]?.getD 0 = x := ⟨_, rfl⟩
        obtain ⟨y, hy⟩ : ∃ y, js[k]?.getD 0 = y := ⟨_, rfl⟩
        rw [hx, hy] at HDs
        rw [hx] at ga
        rw [hy] at gb
        have HIG : Hid (k + (g + 1) = al) := hk
        clear hca hcb hx hy hk
        by_cases hxy : x = y
        · subst hxy
          go_wp2_with fail
          go_region
          go_wp2_with fail
          go_roundg g
          case measure => omega
          case rel => exact ⟨k + 1, by go_num, by have := HIG.out; omega, below_drewN HB.out _, by
            have h1 := HDs.out
            rw [show decide True = true from rfl, Bool.true_and] at h1
            unfold Hid; rw [← h1]; exact HD.out⟩
        · have hne : (x != y) = true := by simpa using hxy
          have HE : Hid (decide (is = js) = false) := by
            have h1 := HDs.out
            rw [decide_eq_false hxy, Bool.false_and] at h1
            unfold Hid; rw [← HD.out]; exact h1
          go_wp2_with fail
          go_region
          go_wp2_with fail
          go_ret
          exact ⟨by rw [HE.out]; rfl, below_drewN HB.out _⟩
      · have hd : decide ((k : Int) < (al : Int)) = false := decide_eq_false (by omega)
        have hd' : decide (k < al) = false := decide_eq_false (by omega)
        have HE : Hid (decide (is = js) = true) := by
          have h1 := HD.out
          rw [List.drop_eq_nil_of_le (by rw [HLN.out.1]; omega), List.drop_eq_nil_of_le (by rw [HLN.out.2.1]; omega), decide_eq_true rfl] at h1
          exact h1.symm
        go_wp2_with fail
        go_ret
        exact ⟨by rw [HE.out]; rfl, HB.out⟩
  · have hd : ((al : Int) != (bl : Int)) = true := by simpa using (show ¬ ((al : Int) = (bl : Int)) by omega)
    have HE : Hid (decide (is = js) = false) := by
      unfold Hid
      refine decide_eq_false fun c => hn ?_
      rw [← HLN.out.1, ← HLN.out.2.1, c]
    go_enter Tryz.func74, Tryz.ntmps74
    go_wp2_with fail
    go_ret
    exact ⟨by rw [HE.out]; rfl, Below.refl _ w⟩
end Go.Proofs.YtfepcpkfbnpbjaaGreat

namespace Go.Proofs.YtfepcpkfbnpbjaaGreat
open Go.RowKit Go.Shelf
set_option linter.unusedVariables false
set_option linter.unusedSimpArgs false

theorem neq_ord {u v : Nat} (hu : Fin u) (hv : Fin v) : (FloatKind.f64.format.order u v == some Ordering.eq) = decide (srung u = srung v) := by
  have ho := order_rung (x := u) (y := v) (Nat.le_of_lt hu) (Nat.le_of_lt hv)
  rw [f64_fmtJ, ho]
  by_cases h : srung u = srung v
  · rw [Int.compare_eq_eq.2 h, decide_eq_true h]; rfl
  · rw [decide_eq_false h]
    by_cases h2 : srung u < srung v
    · rw [Int.compare_eq_lt.2 h2]; rfl
    · rw [Int.compare_eq_gt.2 (by omega)]; rfl
theorem neq_ordN {u v : Nat} (hu : Fin u) (hv : Fin v) : (FloatKind.f64.format.order u v != some Ordering.eq) = !decide (srung u = srung v) := by
  rw [← neq_ord hu hv]; rfl
def sameL (us vs : List Nat) : Bool := decide (us.map srung = vs.map srung)
theorem drop_eqF {us vs : List Nat} {k : Nat} (h1 : k < us.length) (h2 : k < vs.length) : sameL (us.drop k) (vs.drop k) = (decide (srung (us[k]?.getD 0) = srung (vs[k]?.getD 0)) && sameL (us.drop (k + 1)) (vs.drop (k + 1))) := by
  unfold sameL
  rw [List.drop_eq_getElem_cons h1, List.drop_eq_getElem_cons h2, List.getElem?_eq_getElem h1, List.getElem?_eq_getElem h2]
  simp only [List.map_cons, List.cons.injEq, Option.getD_some, Bool.decide_and]
set_option maxRecDepth 100000 in
set_option maxHeartbeats 2000000 in
theorem equalF_any (ao bo : Option Addr) (al ac bl bc : Nat) (us vs : List Nat) (hu : ∀ u ∈ us, Fin u) (hv : ∀ v ∈ vs, Fin v) (w : World) (h : RdF w ao al ac us) (h' : RdF w bo bl bc vs) :
    Calls Tryz.prog 75 #[.slice ao al ac, .slice bo bl bc] w fun e w' => e = .returned (.bool (sameL us vs)) ∧ Below w.heap.size w w' := by
  have HR : Hid _ := h
  have HR' : Hid _ := h'
  have HLN : Hid (us.length = al ∧ vs.length = bl ∧ al ≤ 9223372036854775807) := ⟨h.length, h'.length, Nat.le_trans h.max maxLen_le⟩
  have hmx : al ≤ 9223372036854775807 := Nat.le_trans h.max maxLen_le
  have HFu : Hid _ := hu
  have HFv : Hid _ := hv
  clear h h' hu hv
  by_cases hn : al = bl
  · subst hn
    go_enter Tryz.func75, Tryz.ntmps75
    go_wp2_with fail
    go_loopg [13] al (fun g iv wx => ∃ k : Nat, iv = .int .i64 k ∧ k + g = al ∧ Hid (Below w.heap.size w wx) ∧ Hid (sameL (us.drop k) (vs.drop k) = sameL us vs))
    case atStart => exact ⟨0, rfl, by omega, Below.refl _ w, rfl⟩
    case round =>
      obtain ⟨k, rfl, hk, HB, HD⟩ := hrel
      by_cases hlt : k < al
      · have hd : decide ((k : Int) < (al : Int)) = true := decide_eq_true (by omega)
        obtain ⟨g, rfl⟩ : ∃ g, gk = g + 1 := ⟨gk - 1, by omega⟩
        rcases (HR.out.later HB.out).cells with h0 | ⟨ab, aoff, rfl, hca⟩
        · omega
        rcases (HR'.out.later HB.out).cells with h0 | ⟨bb, boff, rfl, hcb⟩
        · omega
        have ga := hca k hlt
        have gb := hcb k hlt
        have HDs : Hid (_ = _) := drop_eqF (us := us) (vs := vs) (k := k) (by rw [HLN.out.1]; exact hlt) (by rw [HLN.out.2.1]; exact hlt)
        obtain ⟨x, hx⟩ : ∃ x, us[k]?.getD 0 = x := ⟨_, rfl⟩
        obtain ⟨y, hy⟩ : ∃ y, vs[k]?.getD 0 = y := ⟨_, rfl⟩
        rw [hx, hy] at HDs
        rw [hx] at ga
        rw [hy] at gb
        have HIG : Hid (k + (g + 1) = al) := hk
        have hox := neq_ordN (HFu.out _ (getD_mem (us := us) (j := k) (by rw [HLN.out.1]; exact hlt))) (HFv.out _ (getD_mem (us := vs) (j := k) (by rw [HLN.out.2.1]; exact hlt)))
        rw [hx, hy] at hox
        clear hca hcb hx hy hk
        by_cases hxy : srung x = srung y
        · rw [decide_eq_true hxy] at hox HDs
          rw [Bool.not_true] at hox
          clear hxy
          go_wp2_with fail
          go_region
          go_wp2_with fail
          go_roundg g
          case measure => omega
          case rel => exact ⟨k + 1, by go_num, by have := HIG.out; omega, below_drewN HB.out _, by
            have h1 := HDs.out
            rw [Bool.true_and] at h1
            unfold Hid; rw [← h1]; exact HD.out⟩
        · rw [decide_eq_false hxy] at hox HDs
          rw [Bool.not_false] at hox
          clear hxy
          have HE : Hid (sameL us vs = false) := by
            have h1 := HDs.out
            rw [Bool.false_and] at h1
            unfold Hid; rw [← HD.out]; exact h1
          go_wp2_with fail
          go_region
          go_wp2_with fail
          go_ret
          exact ⟨by rw [HE.out]; rfl, below_drewN HB.out _⟩
      · have hd : decide ((k : Int) < (al : Int)) = false := decide_eq_false (by omega)
        have hd' : decide (k < al) = false := decide_eq_false (by omega)
        have HE : Hid (sameL us vs = true) := by
          have h1 := HD.out
          rw [List.drop_eq_nil_of_le (by rw [HLN.out.1]; omega), List.drop_eq_nil_of_le (by rw [HLN.out.2.1]; omega)] at h1
          exact h1.symm
        go_wp2_with fail
        go_ret
        exact ⟨by rw [HE.out]; rfl, HB.out⟩
  · have hd : ((al : Int) != (bl : Int)) = true := by simpa using (show ¬ ((al : Int) = (bl : Int)) by omega)
    have HE : Hid (sameL us vs = false) := by
      unfold Hid
      refine decide_eq_false fun c => hn ?_
      have := congrArg List.length c
      rw [List.length_map, List.length_map, HLN.out.1, HLN.out.2.1] at this
      exact this
    go_enter Tryz.func75, Tryz.ntmps75
    go_wp2_with fail
    go_ret
    exact ⟨by rw [HE.out]; rfl, Below.refl _ w⟩
end Go.Proofs.YtfepcpkfbnpbjaaGreat

namespace Go.Proofs.YtfepcpkfbnpbjaaGreat
open Go.RowKit Go.Shelf
set_option linter.unusedVariables false
set_option linter.unusedSimpArgs false

def sameG (us vs : List (List Nat)) : Bool := decide (us.map (·.map srung) = vs.map (·.map srung))
theorem drop_eqG {us vs : List (List Nat)} {k : Nat} (h1 : k < us.length) (h2 : k < vs.length) : sameG (us.drop k) (vs.drop k) = (sameL (us[k]?.getD []) (vs[k]?.getD []) && sameG (us.drop (k + 1)) (vs.drop (k + 1))) := by
  unfold sameG sameL
  rw [List.drop_eq_getElem_cons h1, List.drop_eq_getElem_cons h2, List.getElem?_eq_getElem h1, List.getElem?_eq_getElem h2]
  simp only [List.map_cons, List.cons.injEq, Option.getD_some, Bool.decide_and]
theorem getD_memG {us : List (List Nat)} {j : Nat} (h : j < us.length) : us[j]?.getD [] ∈ us := by
  rw [List.getElem?_eq_getElem h]; exact List.getElem_mem h
set_option maxRecDepth 100000 in
set_option maxHeartbeats 2000000 in
theorem equalG_any (ao bo : Option Addr) (al ac bl bc : Nat) (gu gv : Nat → Option Addr × Nat × Nat) (us vs : List (List Nat)) (hu : ∀ l ∈ us, ∀ u ∈ l, Fin u) (hv : ∀ l ∈ vs, ∀ v ∈ l, Fin v) (w : World) (h : RdGs w ao al ac gu us) (h' : RdGs w bo bl bc gv vs) :
    Calls Tryz.prog 76 #[.slice ao al ac, .slice bo bl bc, .func (.func 75) #[] #[]] w fun e w' => e = .returned (.bool (sameG us vs)) ∧ Below w.heap.size w w' := by
  have HR : Hid _ := h
  have HR' : Hid _ := h'
  have HLN : Hid (us.length = al ∧ vs.length = bl ∧ al ≤ 9223372036854775807) := ⟨h.length, h'.length, Nat.le_trans h.max maxLen_le⟩
  have hmx : al ≤ 9223372036854775807 := Nat.le_trans h.max maxLen_le
  have HFu : Hid _ := hu
  have HFv : Hid _ := hv
  clear h h' hu hv
  by_cases hn : al = bl
  · subst hn
    go_enter Tryz.func76, Tryz.ntmps76
    go_wp2_with fail
    go_loopg [17] al (fun g iv wx => ∃ k : Nat, iv = .int .i64 k ∧ k + g = al ∧ Hid (Below w.heap.size w wx) ∧ Hid (sameG (us.drop k) (vs.drop k) = sameG us vs))
    case atStart => exact ⟨0, rfl, by omega, Below.refl _ w, rfl⟩
    case round =>
      obtain ⟨k, rfl, hk, HB, HD⟩ := hrel
      by_cases hlt : k < al
      · have hd : decide ((k : Int) < (al : Int)) = true := decide_eq_true (by omega)
        obtain ⟨g, rfl⟩ : ∃ g, gk = g + 1 := ⟨gk - 1, by omega⟩
        rcases (HR.out.later HB.out).cells with h0 | ⟨ab, aoff, rfl, hca⟩
        · omega
        rcases (HR'.out.later HB.out).cells with h0 | ⟨bb, boff, rfl, hcb⟩
        · omega
        have ga := hca k hlt
        have gb := hcb k hlt
        have hk1 : k < us.length := by rw [HLN.out.1]; exact hlt
        have hk2 : k < vs.length := by rw [HLN.out.2.1]; exact hlt
        have HDs : Hid (_ = _) := drop_eqG (us := us) (vs := vs) (k := k) hk1 hk2
        have HC : Hid (Calls Tryz.prog 75 #[.slice (gu k).1 (gu k).2.1 (gu k).2.2, .slice (gv k).1 (gv k).2.1 (gv k).2.2] wr fun e w' => e = .returned (.bool (sameL (us[k]?.getD []) (vs[k]?.getD []))) ∧ Below wr.heap.size wr w') := equalF_any _ _ _ _ _ _ _ _ (HFu.out _ (getD_memG hk1)) (HFv.out _ (getD_memG hk2)) wr ((HR.out.later HB.out).each k hlt) ((HR'.out.later HB.out).each k hlt)
        have HIG : Hid (k + (g + 1) = al) := hk
        clear hca hcb hk hk1 hk2
        cases hxy : sameL (us[k]?.getD []) (vs[k]?.getD []) with
        | true =>
          rw [hxy] at HC HDs
          clear hxy
          go_wp2_with (go_at_call 75; refine HC.out.mono ?_; rintro e w1 ⟨rfl, hb1⟩)
          have HB1 : Hid (Below w.heap.size w w1) := HB.out.trans (hb1.mono HB.out.size)
          go_roundg g
          case measure => omega
          case rel => exact ⟨k + 1, by go_num, by have := HIG.out; omega, HB1, by
            have h1 := HDs.out
            rw [Bool.true_and] at h1
            unfold Hid; rw [← h1]; exact HD.out⟩
        | false =>
          rw [hxy] at HC HDs
          clear hxy
          have HE : Hid (sameG us vs = false) := by
            have h1 := HDs.out
            rw [Bool.false_and] at h1
            unfold Hid; rw [← HD.out]; exact h1
          go_wp2_with (go_at_call 75; refine HC.out.mono ?_; rintro e w1 ⟨rfl, hb1⟩)
          go_ret
          exact ⟨by rw [HE.out]; rfl, HB.out.trans (hb1.mono HB.out.size)⟩
      · have hd : decide ((k : Int) < (al : Int)) = false := decide_eq_false (by omega)
        have hd' : decide (k < al) = false := decide_eq_false (by omega)
        have HE : Hid (sameG us vs = true) := by
          have h1 := HD.out
          rw [List.drop_eq_nil_of_le (by rw [HLN.out.1]; omega), List.drop_eq_nil_of_le (by rw [HLN.out.2.1]; omega)] at h1
          exact h1.symm
        go_wp2_with fail
        go_ret
        exact ⟨by rw [HE.out]; rfl, HB.out⟩
  · have hd : ((al : Int) != (bl : Int)) = true := by simpa using (show ¬ ((al : Int) = (bl : Int)) by omega)
    have HE : Hid (sameG us vs = false) := by
      unfold Hid
      refine decide_eq_false fun c => hn ?_
      have := congrArg List.length c
      rw [List.length_map, List.length_map, HLN.out.1, HLN.out.2.1] at this
      exact this
    go_enter Tryz.func76, Tryz.ntmps76
    go_wp2_with fail
    go_ret
    exact ⟨by rw [HE.out]; rfl, Below.refl _ w⟩
end Go.Proofs.YtfepcpkfbnpbjaaGreat

namespace Go.Proofs.YtfepcpkfbnpbjaaGreat
open Go.RowKit Go.Shelf
set_option linter.unusedVariables false
set_option linter.unusedSimpArgs false

/-- What a call takes a zonotope for. -/
def badZD : ZD := ⟨0, none, 0, 0, none, 0, 0, none, 0, 0, none, 0, 0, true, [], [], fun _ => (none, 0, 0), [], []⟩
def tkZ (z : ZD) : ZD := if checkB z then z else badZD
def zV (z : ZD) : Value := .agg #[.int .i64 z.N, .slice z.co z.cn z.cc, .slice z.io z.dn z.dc, .slice z.go z.gn z.gc, .slice z.ro z.rn z.rc, .bool z.bad]
def zRow (z : ZD) : Array Value := #[.int .i64 z.N, .slice z.co z.cn z.cc, .slice z.io z.dn z.dc, .slice z.go z.gn z.gc, .slice z.ro z.rn z.rc, .bool z.bad]
theorem badZD_ZR (w : World) : ZR w badZD := ⟨⟨rfl, Nat.zero_le _, fun u hu => (by cases hu), .inl rfl⟩, ⟨rfl, Nat.zero_le _, .inl rfl⟩, ⟨rfl, Nat.zero_le _, .inl rfl, fun j hj => absurd hj (Nat.not_lt_zero _)⟩, ⟨rfl, Nat.zero_le _, fun u hu => (by cases hu), .inl rfl⟩⟩
theorem tkZ_ZR {w : World} {z : ZD} (h : ZR w z) : ZR w (tkZ z) := by
  unfold tkZ
  split
  · exact h
  · exact badZD_ZR w
theorem takenZ_any (z : ZD) (w : World) (hz : ZR w z) : Calls Tryz.prog 21 #[.agg (zRow z)] w fun e w' => e = .returned (.agg (zRow (tkZ z))) ∧ Below w.heap.size w w' := by
  unfold tkZ
  cases hc : checkB z with
  | true => exact taken_ok z w hz hc
  | false => exact taken_no z w hz hc
theorem colsB_mem (z : ZD) : ∀ (ks : List (_root_.Fin z.dn)) (last : Int), colsB z last ks = true → ∀ k ∈ ks, ∃ l, colOk z l k = true
  | [], _, _, k, hk => by cases hk
  | c :: ks, last, h, k, hk => by
    unfold colsB at h
    rw [Bool.and_eq_true] at h
    rcases List.mem_cons.1 hk with rfl | hk
    · exact ⟨_, h.1⟩
    · exact colsB_mem z ks _ h.2 k hk
/-- All numbers of it are numbers. -/
structure FinZ (z : ZD) : Prop where
  c : ∀ u ∈ z.cs, Fin u
  r : ∀ u ∈ z.rs, Fin u
  g : ∀ l ∈ z.gs, ∀ u ∈ l, Fin u
theorem tkZ_fin {w : World} {z : ZD} (h : ZR w z) : FinZ (tkZ z) := by
  unfold tkZ
  cases hc : checkB z with
  | false => exact ⟨fun u hu => (by cases hu), fun u hu => (by cases hu), fun u hu => (by cases hu)⟩
  | true =>
    simp only [if_true]
    unfold checkB at hc
    cases hb : z.bad with
    | true =>
      rw [hb] at hc
      simp only [if_true, bareB, Bool.and_eq_true, decide_eq_true_eq] at hc
      have e1 : z.cs = [] := List.length_eq_zero_iff.1 (by rw [h.c.length]; omega)
      have e2 : z.rs = [] := List.length_eq_zero_iff.1 (by rw [h.r.length]; omega)
      have e3 : z.gs = [] := List.length_eq_zero_iff.1 (by rw [h.g.length]; omega)
      exact ⟨fun u hu => (by rw [e1] at hu; cases hu), fun u hu => (by rw [e2] at hu; cases hu), fun u hu => (by rw [e3] at hu; cases hu)⟩
    | false =>
      rw [hb] at hc
      simp only [Bool.false_eq_true, if_false, wholeB, Bool.and_eq_true, decide_eq_true_eq] at hc
      refine ⟨(numN_fin hc.1.1.1.1.2).2, (numN_fin hc.1.1.1.2).2, fun l hl => ?_⟩
      obtain ⟨j, hj, rfl⟩ := List.getElem_of_mem hl
      have hj2 : j < z.dn := by have := h.g.length; omega
      obtain ⟨la, hok⟩ := colsB_mem z _ _ hc.2 ⟨j, hj2⟩ (List.mem_finRange _)
      unfold colOk at hok
      simp only [Bool.and_eq_true] at hok
      have := (numN_fin hok.2).2
      rw [show z.gs[(⟨j, hj2⟩ : _root_.Fin z.dn).val]? = some z.gs[j] from List.getElem?_eq_getElem hj] at this
      exact this
end Go.Proofs.YtfepcpkfbnpbjaaGreat
