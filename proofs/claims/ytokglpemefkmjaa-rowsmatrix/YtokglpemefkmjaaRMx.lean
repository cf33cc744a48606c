import Derived.Test.YtokglpemefkmjaaRMw
import Derived.Test.YtokglpemefkmjaaRWx
namespace Go.Proofs.Ytokglpemefkmjaa
open Go.RowKit
set_option linter.unusedVariables false
set_option linter.unusedSimpArgs false
/-- A list of windows, by the coordinate's number. -/
def gI (g : Nat → Nat → Nat → Int) (D1 D2 i : Nat) : Int := g (i / (D1 * D2)) (i / D2 % D1) (i % D2)
theorem gI_at (g : Nat → Nat → Nat → Int) {D1 D2 f y x : Nat} (hy : y < D1) (hx : x < D2) : gI g D1 D2 ((f * D1 + y) * D2 + x) = g f y x := by
  have e1 : ((f * D1 + y) * D2 + x) % D2 = x := by rw [Nat.mul_comm, Nat.mul_add_mod]; exact Nat.mod_eq_of_lt hx
  have e2 : ((f * D1 + y) * D2 + x) / D2 = f * D1 + y := by rw [Nat.mul_comm, Nat.mul_add_div (by omega), Nat.div_eq_of_lt hx, Nat.add_zero]
  have e3 : (f * D1 + y) % D1 = y := by rw [Nat.mul_comm, Nat.mul_add_mod]; exact Nat.mod_eq_of_lt hy
  have e4 : (f * D1 + y) / D1 = f := by rw [Nat.mul_comm, Nat.mul_add_div (by omega), Nat.div_eq_of_lt hy, Nat.add_zero]
  unfold gI
  rw [e1, Nat.mul_comm D1 D2, ← Nat.div_div_eq_div_mul, e2, e3, e4]
def gL (g : Nat → Nat → Nat → Int) (D1 D2 n : Nat) : List Int := (List.range n).map (gI g D1 D2)
theorem gL_snoc (g : Nat → Nat → Nat → Int) (D1 D2 n : Nat) : gL g D1 D2 (n + 1) = gL g D1 D2 n ++ [gI g D1 D2 n] := by unfold gL; rw [List.range_succ, List.map_append]; rfl
theorem gL_len (g : Nat → Nat → Nat → Int) (D1 D2 n : Nat) : (gL g D1 D2 n).length = n := by unfold gL; simp
theorem in3_lt {f y x o D1 D2 : Nat} (hf : f < o) (hy : y < D1) (hx : x < D2) : (f * D1 + y) * D2 + x < o * D1 * D2 := step_lt (step_lt hf hy) hx
theorem wr_1w {j : Nat} (h : j < 1000) : IntKind.i64.wrap ((j : Int) + 1) = (j : Int) + 1 := by rw [IntKind.wrap_i64]; omega
theorem wr_2w {j : Nat} (h : j < 1000) : wrap64 ((j : Int) + 1) = (j : Int) + 1 := by unfold wrap64; omega
set_option maxRecDepth 100000 in
set_option maxHeartbeats 8000000 in
theorem windows2_any {C H K KH KW SH SW PH PW o D1 D2 : Nat} (hw : WK (o : Int) (KH : Int) (KW : Int) (SH : Int) (SW : Int) (PH : Int) (PW : Int) (C : Int) (H : Int) (K : Int) C H K KH KW SH SW PH PW o D1 D2) (n : Nat) (g : Nat → Nat → Nat → Int) (wo bo zo yo ao : Option Addr) (nw wc nb bc nz zc ny yc cap : Nat) (w : World)
    (hWN : ∀ (f y x : Nat), f < o → y < D1 → x < D2 → ∀ wx, Below w.heap.size w wx → Calls Try.prog 19 #[.agg #[.int .i64 2, .int .i64 (o : Int), .int .i64 (KH : Int), .int .i64 (KW : Int), .int .i64 (SH : Int), .int .i64 (SW : Int), .int .i64 (PH : Int), .int .i64 (PW : Int), .int .i64 0, .float .f64 0, .slice wo nw wc, .slice bo nb bc, .slice zo nz zc, .slice yo ny yc], .agg #[.int .i64 (C : Int), .int .i64 (H : Int), .int .i64 (K : Int)], .slice ao n cap, .int .i64 (f : Int), .int .i64 (y : Int), .int .i64 (x : Int)] wx fun e w' => e = .returned (.int .i64 (g f y x)) ∧ Below wx.heap.size wx w') :
    Calls Try.prog 10 #[.agg #[.int .i64 2, .int .i64 (o : Int), .int .i64 (KH : Int), .int .i64 (KW : Int), .int .i64 (SH : Int), .int .i64 (SW : Int), .int .i64 (PH : Int), .int .i64 (PW : Int), .int .i64 0, .float .f64 0, .slice wo nw wc, .slice bo nb bc, .slice zo nz zc, .slice yo ny yc], .agg #[.int .i64 (C : Int), .int .i64 (H : Int), .int .i64 (K : Int)], .slice ao n cap] w fun e w' => ∃ v, e = .returned v ∧ OwnM w' w.heap.size 3 v (inV (gL g D1 D2 (o * D1 * D2))) ∧ Below w.heap.size w w' := by
  obtain ⟨c1, h1, k1, hch⟩ := hw.sz
  obtain ⟨hC, hH, hK⟩ := le_prod3 c1 h1 k1 hch
  obtain ⟨f1, f2, f3, f4, f5, f6, f7, f8, f9, f10, f11, f12⟩ := hw.f
  have hd1 := hw.d.1
  have hd2 := hw.d.2
  have dd1 : 1 ≤ D1 := by rw [hw.d.1]; exact Nat.le_add_left 1 _
  have dd2 : 1 ≤ D2 := by rw [hw.d.2]; exact Nat.le_add_left 1 _
  obtain ⟨o1, hto⟩ := hw.t
  obtain ⟨ho256, hD1, hD2⟩ := le_prod3 o1 dd1 dd2 hto
  have HWN : Hid _ := hWN
  have HT : Hid (o * D1 * D2 ≤ 256 ∧ o ≤ 256 ∧ D1 ≤ 256 ∧ D2 ≤ 256) := ⟨hto, ho256, hD1, hD2⟩
  clear hWN hw hch hto
  have X0 : Hid (Below w.heap.size w ((w.alloc (.cells #[.int .i64 2, .int .i64 (o : Int), .int .i64 (KH : Int), .int .i64 (KW : Int), .int .i64 (SH : Int), .int .i64 (SW : Int), .int .i64 (PH : Int), .int .i64 (PW : Int), .int .i64 0, .float .f64 0, .slice wo nw wc, .slice bo nb bc, .slice zo nz zc, .slice yo ny yc] 30)).alloc (.cells #[.int .i64 (C : Int), .int .i64 (H : Int), .int .i64 (K : Int)] 25))) := ((Below.refl _ w).alloc (Nat.le_refl _) _).alloc (by simp only [alloc_size]; omega) _
  have Y0 : Hid (((w.alloc (.cells #[.int .i64 2, .int .i64 (o : Int), .int .i64 (KH : Int), .int .i64 (KW : Int), .int .i64 (SH : Int), .int .i64 (SW : Int), .int .i64 (PH : Int), .int .i64 (PW : Int), .int .i64 0, .float .f64 0, .slice wo nw wc, .slice bo nb bc, .slice zo nz zc, .slice yo ny yc] 30)).alloc (.cells #[.int .i64 (C : Int), .int .i64 (H : Int), .int .i64 (K : Int)] 25)).heap[w.heap.size]? = some (.cells #[.int .i64 2, .int .i64 (o : Int), .int .i64 (KH : Int), .int .i64 (KW : Int), .int .i64 (SH : Int), .int .i64 (SW : Int), .int .i64 (PH : Int), .int .i64 (PW : Int), .int .i64 0, .float .f64 0, .slice wo nw wc, .slice bo nb bc, .slice zo nz zc, .slice yo ny yc] 30)) := alloc_kept (heap_alloc_new w _) _
  have Y1 : Hid (((w.alloc (.cells #[.int .i64 2, .int .i64 (o : Int), .int .i64 (KH : Int), .int .i64 (KW : Int), .int .i64 (SH : Int), .int .i64 (SW : Int), .int .i64 (PH : Int), .int .i64 (PW : Int), .int .i64 0, .float .f64 0, .slice wo nw wc, .slice bo nb bc, .slice zo nz zc, .slice yo ny yc] 30)).alloc (.cells #[.int .i64 (C : Int), .int .i64 (H : Int), .int .i64 (K : Int)] 25)).heap[w.heap.size + 1]? = some (.cells #[.int .i64 (C : Int), .int .i64 (H : Int), .int .i64 (K : Int)] 25)) := heap_at _ _ (w.heap.size + 1) (by simp only [alloc_size])
  obtain ⟨a1, ha1⟩ : ∃ a1, H + 2 * PH - KH = a1 := ⟨_, rfl⟩
  obtain ⟨a2, ha2⟩ : ∃ a2, K + 2 * PW - KW = a2 := ⟨_, rfl⟩
  rw [ha1] at hd1
  rw [ha2] at hd2
  obtain ⟨q1, hq1⟩ : ∃ q1, a1 / SH = q1 := ⟨_, rfl⟩
  obtain ⟨q2, hq2⟩ : ∃ q2, a2 / SW = q2 := ⟨_, rfl⟩
  rw [hq1] at hd1
  rw [hq2] at hd2
  have b1 : -20000000 ≤ 2 * (PH : Int) ∧ 2 * (PH : Int) ≤ 20000000 := by omega
  have b2 : -20000000 ≤ (H : Int) + 2 * (PH : Int) ∧ (H : Int) + 2 * (PH : Int) ≤ 20000000 := by omega
  have b3 : -20000000 ≤ (H : Int) + 2 * (PH : Int) - (KH : Int) ∧ (H : Int) + 2 * (PH : Int) - (KH : Int) ≤ 20000000 := by omega
  have b4 : (H : Int) + 2 * (PH : Int) - (KH : Int) = (a1 : Int) := by omega
  have b5 : -20000000 ≤ 2 * (PW : Int) ∧ 2 * (PW : Int) ≤ 20000000 := by omega
  have b6 : -20000000 ≤ (K : Int) + 2 * (PW : Int) ∧ (K : Int) + 2 * (PW : Int) ≤ 20000000 := by omega
  have b7 : -20000000 ≤ (K : Int) + 2 * (PW : Int) - (KW : Int) ∧ (K : Int) + 2 * (PW : Int) - (KW : Int) ≤ 20000000 := by omega
  have b8 : (K : Int) + 2 * (PW : Int) - (KW : Int) = (a2 : Int) := by omega
  have b9 : -20000000 ≤ (q1 : Int) ∧ (q1 : Int) ≤ 20000000 := by omega
  have b10 : -20000000 ≤ (q2 : Int) ∧ (q2 : Int) ≤ 20000000 := by omega
  have b11 : -20000000 ≤ (q1 : Int) + 1 ∧ (q1 : Int) + 1 ≤ 20000000 := by omega
  have b12 : -20000000 ≤ (q2 : Int) + 1 ∧ (q2 : Int) + 1 ≤ 20000000 := by omega
  have b13 : (q1 : Int) + 1 = (D1 : Int) := by omega
  have b14 : (q2 : Int) + 1 = (D2 : Int) := by omega
  have s1 : ¬ (SH : Int) = 0 := by omega
  have s2 : ¬ (SW : Int) = 0 := by omega
  have e1 : (a1 : Int) / (SH : Int) = (q1 : Int) := by rw [← hq1]; rfl
  have e2 : (a2 : Int) / (SW : Int) = (q2 : Int) := by rw [← hq2]; rfl
  clear ha1 ha2 hq1 hq2 hd1 hd2 f1 f2 f3 f4 f5 f6 f7 f8 f9 f10 f11 f12 ho256 hD1 hD2
  go_enter Try.func10, Try.ntmps10
  go_upto_region 2 with fail
  generalize (w.alloc (.cells #[.int .i64 2, .int .i64 (o : Int), .int .i64 (KH : Int), .int .i64 (KW : Int), .int .i64 (SH : Int), .int .i64 (SW : Int), .int .i64 (PH : Int), .int .i64 (PW : Int), .int .i64 0, .float .f64 0, .slice wo nw wc, .slice bo nb bc, .slice zo nz zc, .slice yo ny yc] 30)).alloc (.cells #[.int .i64 (C : Int), .int .i64 (H : Int), .int .i64 (K : Int)] 25) = W at X0 Y0 Y1 ⊢
  have x1 := cellAt Y1.out 1 (.int .i64 (H : Int)) rfl
  have x2 := cellAt Y1.out 2 (.int .i64 (K : Int)) rfl
  have y2 := cellAt Y0.out 2 (.int .i64 (KH : Int)) rfl
  have y3 := cellAt Y0.out 3 (.int .i64 (KW : Int)) rfl
  have y4 := cellAt Y0.out 4 (.int .i64 (SH : Int)) rfl
  have y5 := cellAt Y0.out 5 (.int .i64 (SW : Int)) rfl
  have y6 := cellAt Y0.out 6 (.int .i64 (PH : Int)) rfl
  have y7 := cellAt Y0.out 7 (.int .i64 (PW : Int)) rfl
  have s1' : ((SH : Int) == 0) = false := beq_eq_false_iff_ne.2 s1
  have s2' : ((SW : Int) == 0) = false := beq_eq_false_iff_ne.2 s2
  have p1 : IntKind.i64.wrap (2 * (PH : Int)) = 2 * (PH : Int) := wrI b1
  have p2 : IntKind.i64.wrap ((H : Int) + 2 * (PH : Int)) = (H : Int) + 2 * (PH : Int) := wrI b2
  have p3 : IntKind.i64.wrap ((H : Int) + 2 * (PH : Int) - (KH : Int)) = (a1 : Int) := (wrI b3).trans b4
  have p4 : wrap64 ((a1 : Int) / (SH : Int)) = (q1 : Int) := by rw [e1]; exact wr6 b9
  have p5 : IntKind.i64.wrap ((q1 : Int) + 1) = (D1 : Int) := (wrI b11).trans b13
  have p6 : IntKind.i64.wrap (2 * (PW : Int)) = 2 * (PW : Int) := wrI b5
  have p7 : IntKind.i64.wrap ((K : Int) + 2 * (PW : Int)) = (K : Int) + 2 * (PW : Int) := wrI b6
  have p8 : IntKind.i64.wrap ((K : Int) + 2 * (PW : Int) - (KW : Int)) = (a2 : Int) := (wrI b7).trans b8
  have p9 : wrap64 ((a2 : Int) / (SW : Int)) = (q2 : Int) := by rw [e2]; exact wr6 b10
  have p10 : IntKind.i64.wrap ((q2 : Int) + 1) = (D2 : Int) := (wrI b12).trans b14
  clear b1 b2 b3 b4 b5 b6 b7 b8 b9 b10 b11 b12 b13 b14 e1 e2
  go_quiet (fail)
  have S0 : Hid _ := below_drewN (Below.refl W.heap.size W) nq
  have HY0' : Hid ((W.drewN nq).heap[w.heap.size]? = _) := kept S0.out Y0.out
  have HY1' : Hid ((W.drewN nq).heap[w.heap.size + 1]? = _) := kept S0.out Y1.out
  clear x1 x2 y2 y3 y4 y5 y6 y7 s1 s2 s1' s2' p1 p2 p3 p4 p5 p6 p7 p8 p9 p10
  have l0 := cellAt HY0'.out 0 (.int .i64 2) rfl
  have l1 := cellAt HY0'.out 1 (.int .i64 (o : Int)) rfl
  have l2 := cellAt HY1'.out 0 (.int .i64 (C : Int)) rfl
  go_wp2_with fail
  clear l0 l1 l2 HY0' HY1'
  go_loopg [7, 11] o (fun g' lv v wx => ∃ f : Nat, v = .int .i64 f ∧ f + g' = o ∧ Hid (OwnM wx W.heap.size 3 lv (inV (gL g D1 D2 (f * D1 * D2)))) ∧ Hid (Below W.heap.size W wx))
  case atStart => exact ⟨0, rfl, by omega, by unfold Hid; rw [Nat.zero_mul, Nat.zero_mul]; exact World.ownsRow_nil _ _ _ 1, S0.out⟩
  case round =>
    obtain ⟨f, rfl, hf, HL, HB⟩ := hrel
    by_cases hlt : f < o
    · obtain ⟨k1, rfl⟩ : ∃ g, gk = g + 1 := ⟨gk - 1, by omega⟩
      have HIF : Hid (f < o ∧ f + (k1 + 1) = o) := ⟨hlt, hf⟩
      have hd : decide ((f : Int) < (o : Int)) = true := decide_eq_true (by omega)
      clear hf
      go_wp2_with fail
      clear hd hlt
      go_loopg [7, 12] D1 (fun g' lv v wx => ∃ y : Nat, v = .int .i64 y ∧ y + g' = D1 ∧ Hid (OwnM wx W.heap.size 3 lv (inV (gL g D1 D2 ((f * D1 + y) * D2)))) ∧ Hid (Below W.heap.size W wx))
      case atStart => exact ⟨0, rfl, by omega, by unfold Hid; rw [Nat.add_zero]; exact HL.out, HB.out⟩
      case round =>
        clear HL HB
        obtain ⟨y, rfl, hy, HL, HB⟩ := hrel
        by_cases hlt : y < D1
        · obtain ⟨k2, rfl⟩ : ∃ g, gk = g + 1 := ⟨gk - 1, by omega⟩
          have HIY : Hid (y < D1 ∧ y + (k2 + 1) = D1) := ⟨hlt, hy⟩
          have hd : decide ((y : Int) < (D1 : Int)) = true := decide_eq_true (by omega)
          clear hy
          go_wp2_with fail
          clear hd hlt
          go_loopg [7, 13] D2 (fun g' lv v wx => ∃ x : Nat, v = .int .i64 x ∧ x + g' = D2 ∧ Hid (OwnM wx W.heap.size 3 lv (inV (gL g D1 D2 ((f * D1 + y) * D2 + x)))) ∧ Hid (Below W.heap.size W wx))
          case atStart => exact ⟨0, rfl, by omega, by unfold Hid; rw [Nat.add_zero]; exact HL.out, HB.out⟩
          case round =>
            clear HL HB
            obtain ⟨x, rfl, hx, HL, HB⟩ := hrel
            by_cases hlt : x < D2
            · obtain ⟨k3, rfl⟩ : ∃ g, gk = g + 1 := ⟨gk - 1, by omega⟩
              have HIX : Hid (x < D2 ∧ x + (k3 + 1) = D2) := ⟨hlt, hx⟩
              have hd : decide ((x : Int) < (D2 : Int)) = true := decide_eq_true (by omega)
              have HY0 : Hid (wr.heap[w.heap.size]? = _) := kept HB.out Y0.out
              have HY1 : Hid (wr.heap[w.heap.size + 1]? = _) := kept HB.out Y1.out
              have hlen : (f * D1 + y) * D2 + x < o * D1 * D2 := in3_lt HIF.out.1 HIY.out.1 hlt
              have HLE : Hid ((inV (gL g D1 D2 ((f * D1 + y) * D2 + x))).length + 1 ≤ 1000000) := by unfold Hid inV; rw [List.length_map, gL_len]; have := HT.out.1; omega
              have HCA : Hid _ := HWN.out f y x HIF.out.1 HIY.out.1 hlt wr (to_call X0.out HB.out)
              have bx : x < 1000 := by have := HT.out; omega
              have hw1 : IntKind.i64.wrap ((x : Int) + 1) = (x : Int) + 1 := wr_1w bx
              have hw2 : wrap64 ((x : Int) + 1) = (x : Int) + 1 := wr_2w bx
              clear hx hlen bx
              go_wp2_with (first | (refine wpList_load_row (by rfl) 30 _ (by rfl) w.heap.size _ (by rfl) HY0.out _ Try.underlying30 rfl 14 Try.infoLy (by rfl) ?_) | (refine wpList_load_row (by rfl) 25 _ (by rfl) (w.heap.size + 1) _ (by rfl) HY1.out _ Try.underlying25 rfl 3 Try.infoShape (by rfl) ?_))
              clear hd hlt
              refine Calls.mono HCA.out ?_
              rintro e w5 ⟨rfl, hb5⟩
              have HB5 : Hid (Below W.heap.size W w5) := to_call HB.out hb5
              have HBS : Hid (W.heap.size ≤ w5.heap.size) := HB5.out.size
              have HL5 : Hid _ := OwnM.keep HL.out fun k hk => hb5.block k (OwnM.lt HL.out k hk).2
              clear hb5 HCA HB HL
              go_wp2_with (at_builtin; refine append_gr1 Try.underlying35 Try.infoIm rfl (by decide) w5 (by rfl) _ _ (by rfl) W.heap.size u7 (inV (gL g D1 D2 ((f * D1 + y) * D2 + x))) (by rfl) HL5.out (.int .i64 (g f y x)) (by rfl) rfl HLE.out HBS.out ?_; intro v6 w6 o6 gw6)
              have HL6 : Hid (OwnM w6 W.heap.size 3 v6 (inV (gL g D1 D2 ((f * D1 + y) * D2 + (x + 1))))) := by
                unfold Hid
                rw [show (f * D1 + y) * D2 + (x + 1) = (f * D1 + y) * D2 + x + 1 from rfl, gL_snoc, gI_at g HIY.out.1 HIX.out.1, inV, List.map_append]
                exact o6
              have HB6 : Hid (Below W.heap.size W w6) := HB5.out.trans (gw6.below (fun k hk => (OwnM.lt HL5.out k hk).1) HBS.out)
              clear HL5 HB5 HLE HBS o6 gw6
              go_roundg k3
              case measure => omega
              case rel => exact ⟨x + 1, by go_num, by have := HIX.out; omega, HL6, HB6⟩
            · obtain rfl : D2 = x := by omega
              have hd : decide ((D2 : Int) < (D2 : Int)) = false := decide_eq_false (by omega)
              have bx : y < 1000 := by have := HT.out; have := HIY.out; omega
              have hw1 : IntKind.i64.wrap ((y : Int) + 1) = (y : Int) + 1 := wr_1w bx
              have hw2 : wrap64 ((y : Int) + 1) = (y : Int) + 1 := wr_2w bx
              clear hx bx
              go_wp2_with fail
              go_roundg k2
              case measure => omega
              case rel => exact ⟨y + 1, by go_num, by have := HIY.out; omega, by unfold Hid; rw [show f * D1 + (y + 1) = f * D1 + y + 1 from rfl, Nat.add_mul (f * D1 + y) 1 D2, Nat.one_mul]; exact HL.out, HB.out⟩
        · obtain rfl : D1 = y := by omega
          have hd : decide ((D1 : Int) < (D1 : Int)) = false := decide_eq_false (by omega)
          have bx : f < 1000 := by have := HT.out; have := HIF.out; omega
          have hw1 : IntKind.i64.wrap ((f : Int) + 1) = (f : Int) + 1 := wr_1w bx
          have hw2 : wrap64 ((f : Int) + 1) = (f : Int) + 1 := wr_2w bx
          clear hy bx
          go_wp2_with fail
          go_roundg k1
          case measure => omega
          case rel => exact ⟨f + 1, by go_num, by have := HIF.out; omega, by unfold Hid; rw [Nat.add_mul f 1 D1, Nat.one_mul]; exact HL.out, HB.out⟩
    · obtain rfl : o = f := by omega
      have hd : decide ((o : Int) < (o : Int)) = false := decide_eq_false (by omega)
      clear hf
      go_wp2_with fail
      go_ret
      exact ⟨_, rfl, own_mono HL.out X0.out.size, to_call X0.out HB.out⟩
set_option maxRecDepth 100000 in
set_option maxHeartbeats 8000000 in
theorem windows4_any (AV : Nat) {C H K KH KW SH SW PH PW o D1 D2 : Nat} (hw : WK 0 (KH : Int) (KW : Int) (SH : Int) (SW : Int) (PH : Int) (PW : Int) (C : Int) (H : Int) (K : Int) C H K KH KW SH SW PH PW o D1 D2) (ho : o = C) (n : Nat) (g : Nat → Nat → Nat → Int) (wo bo zo yo ao : Option Addr) (nw wc nb bc nz zc ny yc cap : Nat) (w : World)
    (hWN : ∀ (f y x : Nat), f < o → y < D1 → x < D2 → ∀ wx, Below w.heap.size w wx → Calls Try.prog 19 #[.agg #[.int .i64 4, .int .i64 0, .int .i64 (KH : Int), .int .i64 (KW : Int), .int .i64 (SH : Int), .int .i64 (SW : Int), .int .i64 (PH : Int), .int .i64 (PW : Int), .int .i64 0, .float .f64 AV, .slice wo nw wc, .slice bo nb bc, .slice zo nz zc, .slice yo ny yc], .agg #[.int .i64 (C : Int), .int .i64 (H : Int), .int .i64 (K : Int)], .slice ao n cap, .int .i64 (f : Int), .int .i64 (y : Int), .int .i64 (x : Int)] wx fun e w' => e = .returned (.int .i64 (g f y x)) ∧ Below wx.heap.size wx w') :
    Calls Try.prog 10 #[.agg #[.int .i64 4, .int .i64 0, .int .i64 (KH : Int), .int .i64 (KW : Int), .int .i64 (SH : Int), .int .i64 (SW : Int), .int .i64 (PH : Int), .int .i64 (PW : Int), .int .i64 0, .float .f64 AV, .slice wo nw wc, .slice bo nb bc, .slice zo nz zc, .slice yo ny yc], .agg #[.int .i64 (C : Int), .int .i64 (H : Int), .int .i64 (K : Int)], .slice ao n cap] w fun e w' => ∃ v, e = .returned v ∧ OwnM w' w.heap.size 3 v (inV (gL g D1 D2 (o * D1 * D2))) ∧ Below w.heap.size w w' := by
  obtain ⟨c1, h1, k1, hch⟩ := hw.sz
  obtain ⟨hC, hH, hK⟩ := le_prod3 c1 h1 k1 hch
  obtain ⟨f1, f2, f3, f4, f5, f6, f7, f8, f9, f10, f11, f12⟩ := hw.f
  have hd1 := hw.d.1
  have hd2 := hw.d.2
  have dd1 : 1 ≤ D1 := by rw [hw.d.1]; exact Nat.le_add_left 1 _
  have dd2 : 1 ≤ D2 := by rw [hw.d.2]; exact Nat.le_add_left 1 _
  obtain ⟨o1, hto⟩ := hw.t
  obtain ⟨ho256, hD1, hD2⟩ := le_prod3 o1 dd1 dd2 hto
  have HWN : Hid _ := hWN
  have HOC : Hid (o = C) := ho
  clear ho
  have HT : Hid (o * D1 * D2 ≤ 256 ∧ o ≤ 256 ∧ D1 ≤ 256 ∧ D2 ≤ 256) := ⟨hto, ho256, hD1, hD2⟩
  clear hWN hw hch hto
  have X0 : Hid (Below w.heap.size w ((w.alloc (.cells #[.int .i64 4, .int .i64 0, .int .i64 (KH : Int), .int .i64 (KW : Int), .int .i64 (SH : Int), .int .i64 (SW : Int), .int .i64 (PH : Int), .int .i64 (PW : Int), .int .i64 0, .float .f64 AV, .slice wo nw wc, .slice bo nb bc, .slice zo nz zc, .slice yo ny yc] 30)).alloc (.cells #[.int .i64 (C : Int), .int .i64 (H : Int), .int .i64 (K : Int)] 25))) := ((Below.refl _ w).alloc (Nat.le_refl _) _).alloc (by simp only [alloc_size]; omega) _
  have Y0 : Hid (((w.alloc (.cells #[.int .i64 4, .int .i64 0, .int .i64 (KH : Int), .int .i64 (KW : Int), .int .i64 (SH : Int), .int .i64 (SW : Int), .int .i64 (PH : Int), .int .i64 (PW : Int), .int .i64 0, .float .f64 AV, .slice wo nw wc, .slice bo nb bc, .slice zo nz zc, .slice yo ny yc] 30)).alloc (.cells #[.int .i64 (C : Int), .int .i64 (H : Int), .int .i64 (K : Int)] 25)).heap[w.heap.size]? = some (.cells #[.int .i64 4, .int .i64 0, .int .i64 (KH : Int), .int .i64 (KW : Int), .int .i64 (SH : Int), .int .i64 (SW : Int), .int .i64 (PH : Int), .int .i64 (PW : Int), .int .i64 0, .float .f64 AV, .slice wo nw wc, .slice bo nb bc, .slice zo nz zc, .slice yo ny yc] 30)) := alloc_kept (heap_alloc_new w _) _
  have Y1 : Hid (((w.alloc (.cells #[.int .i64 4, .int .i64 0, .int .i64 (KH : Int), .int .i64 (KW : Int), .int .i64 (SH : Int), .int .i64 (SW : Int), .int .i64 (PH : Int), .int .i64 (PW : Int), .int .i64 0, .float .f64 AV, .slice wo nw wc, .slice bo nb bc, .slice zo nz zc, .slice yo ny yc] 30)).alloc (.cells #[.int .i64 (C : Int), .int .i64 (H : Int), .int .i64 (K : Int)] 25)).heap[w.heap.size + 1]? = some (.cells #[.int .i64 (C : Int), .int .i64 (H : Int), .int .i64 (K : Int)] 25)) := heap_at _ _ (w.heap.size + 1) (by simp only [alloc_size])
  obtain ⟨a1, ha1⟩ : ∃ a1, H + 2 * PH - KH = a1 := ⟨_, rfl⟩
  obtain ⟨a2, ha2⟩ : ∃ a2, K + 2 * PW - KW = a2 := ⟨_, rfl⟩
  rw [ha1] at hd1
  rw [ha2] at hd2
  obtain ⟨q1, hq1⟩ : ∃ q1, a1 / SH = q1 := ⟨_, rfl⟩
  obtain ⟨q2, hq2⟩ : ∃ q2, a2 / SW = q2 := ⟨_, rfl⟩
  rw [hq1] at hd1
  rw [hq2] at hd2
  have b1 : -20000000 ≤ 2 * (PH : Int) ∧ 2 * (PH : Int) ≤ 20000000 := by omega
  have b2 : -20000000 ≤ (H : Int) + 2 * (PH : Int) ∧ (H : Int) + 2 * (PH : Int) ≤ 20000000 := by omega
  have b3 : -20000000 ≤ (H : Int) + 2 * (PH : Int) - (KH : Int) ∧ (H : Int) + 2 * (PH : Int) - (KH : Int) ≤ 20000000 := by omega
  have b4 : (H : Int) + 2 * (PH : Int) - (KH : Int) = (a1 : Int) := by omega
  have b5 : -20000000 ≤ 2 * (PW : Int) ∧ 2 * (PW : Int) ≤ 20000000 := by omega
  have b6 : -20000000 ≤ (K : Int) + 2 * (PW : Int) ∧ (K : Int) + 2 * (PW : Int) ≤ 20000000 := by omega
  have b7 : -20000000 ≤ (K : Int) + 2 * (PW : Int) - (KW : Int) ∧ (K : Int) + 2 * (PW : Int) - (KW : Int) ≤ 20000000 := by omega
  have b8 : (K : Int) + 2 * (PW : Int) - (KW : Int) = (a2 : Int) := by omega
  have b9 : -20000000 ≤ (q1 : Int) ∧ (q1 : Int) ≤ 20000000 := by omega
  have b10 : -20000000 ≤ (q2 : Int) ∧ (q2 : Int) ≤ 20000000 := by omega
  have b11 : -20000000 ≤ (q1 : Int) + 1 ∧ (q1 : Int) + 1 ≤ 20000000 := by omega
  have b12 : -20000000 ≤ (q2 : Int) + 1 ∧ (q2 : Int) + 1 ≤ 20000000 := by omega
  have b13 : (q1 : Int) + 1 = (D1 : Int) := by omega
  have b14 : (q2 : Int) + 1 = (D2 : Int) := by omega
  have s1 : ¬ (SH : Int) = 0 := by omega
  have s2 : ¬ (SW : Int) = 0 := by omega
  have e1 : (a1 : Int) / (SH : Int) = (q1 : Int) := by rw [← hq1]; rfl
  have e2 : (a2 : Int) / (SW : Int) = (q2 : Int) := by rw [← hq2]; rfl
  clear ha1 ha2 hq1 hq2 hd1 hd2 f1 f2 f3 f4 f5 f6 f7 f8 f9 f10 f11 f12 ho256 hD1 hD2
  go_enter Try.func10, Try.ntmps10
  go_upto_region 2 with fail
  generalize (w.alloc (.cells #[.int .i64 4, .int .i64 0, .int .i64 (KH : Int), .int .i64 (KW : Int), .int .i64 (SH : Int), .int .i64 (SW : Int), .int .i64 (PH : Int), .int .i64 (PW : Int), .int .i64 0, .float .f64 AV, .slice wo nw wc, .slice bo nb bc, .slice zo nz zc, .slice yo ny yc] 30)).alloc (.cells #[.int .i64 (C : Int), .int .i64 (H : Int), .int .i64 (K : Int)] 25) = W at X0 Y0 Y1 ⊢
  have x1 := cellAt Y1.out 1 (.int .i64 (H : Int)) rfl
  have x2 := cellAt Y1.out 2 (.int .i64 (K : Int)) rfl
  have y2 := cellAt Y0.out 2 (.int .i64 (KH : Int)) rfl
  have y3 := cellAt Y0.out 3 (.int .i64 (KW : Int)) rfl
  have y4 := cellAt Y0.out 4 (.int .i64 (SH : Int)) rfl
  have y5 := cellAt Y0.out 5 (.int .i64 (SW : Int)) rfl
  have y6 := cellAt Y0.out 6 (.int .i64 (PH : Int)) rfl
  have y7 := cellAt Y0.out 7 (.int .i64 (PW : Int)) rfl
  have s1' : ((SH : Int) == 0) = false := beq_eq_false_iff_ne.2 s1
  have s2' : ((SW : Int) == 0) = false := beq_eq_false_iff_ne.2 s2
  have p1 : IntKind.i64.wrap (2 * (PH : Int)) = 2 * (PH : Int) := wrI b1
  have p2 : IntKind.i64.wrap ((H : Int) + 2 * (PH : Int)) = (H : Int) + 2 * (PH : Int) := wrI b2
  have p3 : IntKind.i64.wrap ((H : Int) + 2 * (PH : Int) - (KH : Int)) = (a1 : Int) := (wrI b3).trans b4
  have p4 : wrap64 ((a1 : Int) / (SH : Int)) = (q1 : Int) := by rw [e1]; exact wr6 b9
  have p5 : IntKind.i64.wrap ((q1 : Int) + 1) = (D1 : Int) := (wrI b11).trans b13
  have p6 : IntKind.i64.wrap (2 * (PW : Int)) = 2 * (PW : Int) := wrI b5
  have p7 : IntKind.i64.wrap ((K : Int) + 2 * (PW : Int)) = (K : Int) + 2 * (PW : Int) := wrI b6
  have p8 : IntKind.i64.wrap ((K : Int) + 2 * (PW : Int) - (KW : Int)) = (a2 : Int) := (wrI b7).trans b8
  have p9 : wrap64 ((a2 : Int) / (SW : Int)) = (q2 : Int) := by rw [e2]; exact wr6 b10
  have p10 : IntKind.i64.wrap ((q2 : Int) + 1) = (D2 : Int) := (wrI b12).trans b14
  clear b1 b2 b3 b4 b5 b6 b7 b8 b9 b10 b11 b12 b13 b14 e1 e2
  go_quiet (fail)
  have S0 : Hid _ := below_drewN (Below.refl W.heap.size W) nq
  have HY0' : Hid ((W.drewN nq).heap[w.heap.size]? = _) := kept S0.out Y0.out
  have HY1' : Hid ((W.drewN nq).heap[w.heap.size + 1]? = _) := kept S0.out Y1.out
  clear x1 x2 y2 y3 y4 y5 y6 y7 s1 s2 s1' s2' p1 p2 p3 p4 p5 p6 p7 p8 p9 p10
  have l0 := cellAt HY0'.out 0 (.int .i64 4) rfl
  have l1 := cellAt HY0'.out 1 (.int .i64 0) rfl
  have l2 := cellAt HY1'.out 0 (.int .i64 (C : Int)) rfl
  rw [← HOC.out] at l2
  go_wp2_with fail
  clear l0 l1 l2 HY0' HY1'
  go_loopg [7, 11] o (fun g' lv v wx => ∃ f : Nat, v = .int .i64 f ∧ f + g' = o ∧ Hid (OwnM wx W.heap.size 3 lv (inV (gL g D1 D2 (f * D1 * D2)))) ∧ Hid (Below W.heap.size W wx))
  case atStart => exact ⟨0, rfl, by omega, by unfold Hid; rw [Nat.zero_mul, Nat.zero_mul]; exact World.ownsRow_nil _ _ _ 1, S0.out⟩
  case round =>
    obtain ⟨f, rfl, hf, HL, HB⟩ := hrel
    by_cases hlt : f < o
    · obtain ⟨k1, rfl⟩ : ∃ g, gk = g + 1 := ⟨gk - 1, by omega⟩
      have HIF : Hid (f < o ∧ f + (k1 + 1) = o) := ⟨hlt, hf⟩
      have hd : decide ((f : Int) < (o : Int)) = true := decide_eq_true (by omega)
      clear hf
      go_wp2_with fail
      clear hd hlt
      go_loopg [7, 12] D1 (fun g' lv v wx => ∃ y : Nat, v = .int .i64 y ∧ y + g' = D1 ∧ Hid (OwnM wx W.heap.size 3 lv (inV (gL g D1 D2 ((f * D1 + y) * D2)))) ∧ Hid (Below W.heap.size W wx))
      case atStart => exact ⟨0, rfl, by omega, by unfold Hid; rw [Nat.add_zero]; exact HL.out, HB.out⟩
      case round =>
        clear HL HB
        obtain ⟨y, rfl, hy, HL, HB⟩ := hrel
        by_cases hlt : y < D1
        · obtain ⟨k2, rfl⟩ : ∃ g, gk = g + 1 := ⟨gk - 1, by omega⟩
          have HIY : Hid (y < D1 ∧ y + (k2 + 1) = D1) := ⟨hlt, hy⟩
          have hd : decide ((y : Int) < (D1 : Int)) = true := decide_eq_true (by omega)
          clear hy
          go_wp2_with fail
          clear hd hlt
          go_loopg [7, 13] D2 (fun g' lv v wx => ∃ x : Nat, v = .int .i64 x ∧ x + g' = D2 ∧ Hid (OwnM wx W.heap.size 3 lv (inV (gL g D1 D2 ((f * D1 + y) * D2 + x)))) ∧ Hid (Below W.heap.size W wx))
          case atStart => exact ⟨0, rfl, by omega, by unfold Hid; rw [Nat.add_zero]; exact HL.out, HB.out⟩
          case round =>
            clear HL HB
            obtain ⟨x, rfl, hx, HL, HB⟩ := hrel
            by_cases hlt : x < D2
            · obtain ⟨k3, rfl⟩ : ∃ g, gk = g + 1 := ⟨gk - 1, by omega⟩
              have HIX : Hid (x < D2 ∧ x + (k3 + 1) = D2) := ⟨hlt, hx⟩
              have hd : decide ((x : Int) < (D2 : Int)) = true := decide_eq_true (by omega)
              have HY0 : Hid (wr.heap[w.heap.size]? = _) := kept HB.out Y0.out
              have HY1 : Hid (wr.heap[w.heap.size + 1]? = _) := kept HB.out Y1.out
              have hlen : (f * D1 + y) * D2 + x < o * D1 * D2 := in3_lt HIF.out.1 HIY.out.1 hlt
              have HLE : Hid ((inV (gL g D1 D2 ((f * D1 + y) * D2 + x))).length + 1 ≤ 1000000) := by unfold Hid inV; rw [List.length_map, gL_len]; have := HT.out.1; omega
              have HCA : Hid _ := HWN.out f y x HIF.out.1 HIY.out.1 hlt wr (to_call X0.out HB.out)
              have bx : x < 1000 := by have := HT.out; omega
              have hw1 : IntKind.i64.wrap ((x : Int) + 1) = (x : Int) + 1 := wr_1w bx
              have hw2 : wrap64 ((x : Int) + 1) = (x : Int) + 1 := wr_2w bx
              clear hx hlen bx
              go_wp2_with (first | (refine wpList_load_row (by rfl) 30 _ (by rfl) w.heap.size _ (by rfl) HY0.out _ Try.underlying30 rfl 14 Try.infoLy (by rfl) ?_) | (refine wpList_load_row (by rfl) 25 _ (by rfl) (w.heap.size + 1) _ (by rfl) HY1.out _ Try.underlying25 rfl 3 Try.infoShape (by rfl) ?_))
              clear hd hlt
              refine Calls.mono HCA.out ?_
              rintro e w5 ⟨rfl, hb5⟩
              have HB5 : Hid (Below W.heap.size W w5) := to_call HB.out hb5
              have HBS : Hid (W.heap.size ≤ w5.heap.size) := HB5.out.size
              have HL5 : Hid _ := OwnM.keep HL.out fun k hk => hb5.block k (OwnM.lt HL.out k hk).2
              clear hb5 HCA HB HL
              go_wp2_with (at_builtin; refine append_gr1 Try.underlying35 Try.infoIm rfl (by decide) w5 (by rfl) _ _ (by rfl) W.heap.size u7 (inV (gL g D1 D2 ((f * D1 + y) * D2 + x))) (by rfl) HL5.out (.int .i64 (g f y x)) (by rfl) rfl HLE.out HBS.out ?_; intro v6 w6 o6 gw6)
              have HL6 : Hid (OwnM w6 W.heap.size 3 v6 (inV (gL g D1 D2 ((f * D1 + y) * D2 + (x + 1))))) := by
                unfold Hid
                rw [show (f * D1 + y) * D2 + (x + 1) = (f * D1 + y) * D2 + x + 1 from rfl, gL_snoc, gI_at g HIY.out.1 HIX.out.1, inV, List.map_append]
                exact o6
              have HB6 : Hid (Below W.heap.size W w6) := HB5.out.trans (gw6.below (fun k hk => (OwnM.lt HL5.out k hk).1) HBS.out)
              clear HL5 HB5 HLE HBS o6 gw6
              go_roundg k3
              case measure => omega
              case rel => exact ⟨x + 1, by go_num, by have := HIX.out; omega, HL6, HB6⟩
            · obtain rfl : D2 = x := by omega
              have hd : decide ((D2 : Int) < (D2 : Int)) = false := decide_eq_false (by omega)
              have bx : y < 1000 := by have := HT.out; have := HIY.out; omega
              have hw1 : IntKind.i64.wrap ((y : Int) + 1) = (y : Int) + 1 := wr_1w bx
              have hw2 : wrap64 ((y : Int) + 1) = (y : Int) + 1 := wr_2w bx
              clear hx bx
              go_wp2_with fail
              go_roundg k2
              case measure => omega
              case rel => exact ⟨y + 1, by go_num, by have := HIY.out; omega, by unfold Hid; rw [show f * D1 + (y + 1) = f * D1 + y + 1 from rfl, Nat.add_mul (f * D1 + y) 1 D2, Nat.one_mul]; exact HL.out, HB.out⟩
        · obtain rfl : D1 = y := by omega
          have hd : decide ((D1 : Int) < (D1 : Int)) = false := decide_eq_false (by omega)
          have bx : f < 1000 := by have := HT.out; have := HIF.out; omega
          have hw1 : IntKind.i64.wrap ((f : Int) + 1) = (f : Int) + 1 := wr_1w bx
          have hw2 : wrap64 ((f : Int) + 1) = (f : Int) + 1 := wr_2w bx
          clear hy bx
          go_wp2_with fail
          go_roundg k1
          case measure => omega
          case rel => exact ⟨f + 1, by go_num, by have := HIF.out; omega, by unfold Hid; rw [Nat.add_mul f 1 D1, Nat.one_mul]; exact HL.out, HB.out⟩
    · obtain rfl : o = f := by omega
      have hd : decide ((o : Int) < (o : Int)) = false := decide_eq_false (by omega)
      clear hf
      go_wp2_with fail
      go_ret
      exact ⟨_, rfl, own_mono HL.out X0.out.size, to_call X0.out HB.out⟩
set_option maxRecDepth 100000 in
set_option maxHeartbeats 8000000 in
theorem plainN2 (g0 g1 g2 g3 g4 g5 g6 c h k : Int) (AV : Nat) (wo bo zo yo ao : Option Addr) (nw wc nb bc nz zc ny yc n cap : Nat) (w : World) :
    Calls Try.prog 9 #[.agg #[.int .i64 2, .int .i64 g0, .int .i64 g1, .int .i64 g2, .int .i64 g3, .int .i64 g4, .int .i64 g5, .int .i64 g6, .int .i64 0, .float .f64 AV, .slice wo nw wc, .slice bo nb bc, .slice zo nz zc, .slice yo ny yc], .agg #[.int .i64 c, .int .i64 h, .int .i64 k], .slice ao n cap] w fun e w' => e = .returned (.slice none 0 0) ∧ Below w.heap.size w w' := by
  have X0 : Hid (Below w.heap.size w ((w.alloc (.cells #[.int .i64 2, .int .i64 g0, .int .i64 g1, .int .i64 g2, .int .i64 g3, .int .i64 g4, .int .i64 g5, .int .i64 g6, .int .i64 0, .float .f64 AV, .slice wo nw wc, .slice bo nb bc, .slice zo nz zc, .slice yo ny yc] 30)).alloc (.cells #[.int .i64 c, .int .i64 h, .int .i64 k] 25))) := ((Below.refl _ w).alloc (Nat.le_refl _) _).alloc (by simp only [alloc_size]; omega) _
  have Y0 : Hid (((w.alloc (.cells #[.int .i64 2, .int .i64 g0, .int .i64 g1, .int .i64 g2, .int .i64 g3, .int .i64 g4, .int .i64 g5, .int .i64 g6, .int .i64 0, .float .f64 AV, .slice wo nw wc, .slice bo nb bc, .slice zo nz zc, .slice yo ny yc] 30)).alloc (.cells #[.int .i64 c, .int .i64 h, .int .i64 k] 25)).heap[w.heap.size]? = some (.cells #[.int .i64 2, .int .i64 g0, .int .i64 g1, .int .i64 g2, .int .i64 g3, .int .i64 g4, .int .i64 g5, .int .i64 g6, .int .i64 0, .float .f64 AV, .slice wo nw wc, .slice bo nb bc, .slice zo nz zc, .slice yo ny yc] 30)) := alloc_kept (heap_alloc_new w _) _
  go_enter Try.func9, Try.ntmps9
  go_upto_region 3 with fail
  generalize (w.alloc (.cells #[.int .i64 2, .int .i64 g0, .int .i64 g1, .int .i64 g2, .int .i64 g3, .int .i64 g4, .int .i64 g5, .int .i64 g6, .int .i64 0, .float .f64 AV, .slice wo nw wc, .slice bo nb bc, .slice zo nz zc, .slice yo ny yc] 30)).alloc (.cells #[.int .i64 c, .int .i64 h, .int .i64 k] 25) = W at X0 Y0 ⊢
  have l0 := cellAt Y0.out 0 (.int .i64 2) rfl
  go_wp2_with fail
  go_ret
  exact ⟨rfl, X0.out⟩
set_option maxRecDepth 100000 in
set_option maxHeartbeats 8000000 in
theorem plainN4 (g0 g1 g2 g3 g4 g5 g6 c h k : Int) (AV : Nat) (wo bo zo yo ao : Option Addr) (nw wc nb bc nz zc ny yc n cap : Nat) (w : World) :
    Calls Try.prog 9 #[.agg #[.int .i64 4, .int .i64 g0, .int .i64 g1, .int .i64 g2, .int .i64 g3, .int .i64 g4, .int .i64 g5, .int .i64 g6, .int .i64 0, .float .f64 AV, .slice wo nw wc, .slice bo nb bc, .slice zo nz zc, .slice yo ny yc], .agg #[.int .i64 c, .int .i64 h, .int .i64 k], .slice ao n cap] w fun e w' => e = .returned (.slice none 0 0) ∧ Below w.heap.size w w' := by
  have X0 : Hid (Below w.heap.size w ((w.alloc (.cells #[.int .i64 4, .int .i64 g0, .int .i64 g1, .int .i64 g2, .int .i64 g3, .int .i64 g4, .int .i64 g5, .int .i64 g6, .int .i64 0, .float .f64 AV, .slice wo nw wc, .slice bo nb bc, .slice zo nz zc, .slice yo ny yc] 30)).alloc (.cells #[.int .i64 c, .int .i64 h, .int .i64 k] 25))) := ((Below.refl _ w).alloc (Nat.le_refl _) _).alloc (by simp only [alloc_size]; omega) _
  have Y0 : Hid (((w.alloc (.cells #[.int .i64 4, .int .i64 g0, .int .i64 g1, .int .i64 g2, .int .i64 g3, .int .i64 g4, .int .i64 g5, .int .i64 g6, .int .i64 0, .float .f64 AV, .slice wo nw wc, .slice bo nb bc, .slice zo nz zc, .slice yo ny yc] 30)).alloc (.cells #[.int .i64 c, .int .i64 h, .int .i64 k] 25)).heap[w.heap.size]? = some (.cells #[.int .i64 4, .int .i64 g0, .int .i64 g1, .int .i64 g2, .int .i64 g3, .int .i64 g4, .int .i64 g5, .int .i64 g6, .int .i64 0, .float .f64 AV, .slice wo nw wc, .slice bo nb bc, .slice zo nz zc, .slice yo ny yc] 30)) := alloc_kept (heap_alloc_new w _) _
  go_enter Try.func9, Try.ntmps9
  go_upto_region 3 with fail
  generalize (w.alloc (.cells #[.int .i64 4, .int .i64 g0, .int .i64 g1, .int .i64 g2, .int .i64 g3, .int .i64 g4, .int .i64 g5, .int .i64 g6, .int .i64 0, .float .f64 AV, .slice wo nw wc, .slice bo nb bc, .slice zo nz zc, .slice yo ny yc] 30)).alloc (.cells #[.int .i64 c, .int .i64 h, .int .i64 k] 25) = W at X0 Y0 ⊢
  have l0 := cellAt Y0.out 0 (.int .i64 4) rfl
  go_wp2_with fail
  go_ret
  exact ⟨rfl, X0.out⟩
end Go.Proofs.Ytokglpemefkmjaa
