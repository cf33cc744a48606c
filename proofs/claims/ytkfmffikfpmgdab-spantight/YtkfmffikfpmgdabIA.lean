import Derived.Test.YtkfmffikfpmgdabHF
namespace Go.Proofs.Ytkfmffikfpmgdab
open Go.RowKit
set_option linter.unusedVariables false

theorem fin_rung {x : Nat} (h : Fin x) : -(infK : Int) < srung x ∧ srung x < (infK : Int) := by
  unfold Fin at h; unfold srung; split <;> omega
theorem next_rung {lo : Nat} {p : Nat × Bool} {d : Int} (hd : d = 1 ∨ d = 2) (hF : Fin lo) (h : RndZ d (fval lo * 64 + sideOf d) 64 p) (hp : p.2 = true) : srung p.1 = srung lo + sideOf d ∧ -(infK : Int) < srung p.1 ∧ srung p.1 < (infK : Int) := by
  have hb := fin_rung (tell_fin h).1
  have hl := fin_rung hF
  generalize hS : srung lo = f at hl ⊢
  rw [fval_smag, hS] at h
  have h3 := smag_lt (show f < f + 1 by omega)
  have h4 := smag_lt (show f - 1 < f by omega)
  refine ⟨?_, hb⟩
  rcases hd with rfl | rfl
  · rw [show sideOf 1 = 1 from rfl] at h ⊢
    have hf : Sf (smag f * 64 + 1) 64 f := ⟨by show smag f * 64 ≤ _; omega, by show _ < smag (f + 1) * 64; omega⟩
    have hc : ceilK (smag f * 64 + 1) 64 f = f + 1 := by unfold ceilK; rw [if_neg (by show ¬ (smag f * 64 + 1 = smag f * 64); omega)]
    rcases rz_up h hf with ⟨a1, a2, a3⟩ | ⟨a1, a2⟩
    · rw [hc] at a2 a3
      omega
    · rw [a1] at hp; cases hp
  · rw [show sideOf 2 = -1 from rfl] at h ⊢
    have hf : Sf (smag f * 64 + -1) 64 (f - 1) := ⟨by show smag (f - 1) * 64 ≤ _; omega, by show _ < smag (f - 1 + 1) * 64; rw [show f - 1 + 1 = f by omega]; omega⟩
    rcases rz_down h hf with ⟨a1, a2, a3⟩ | ⟨a1, a2⟩
    · omega
    · rw [a1] at hp; cases hp
/-- No end could be moved one number inwards. -/
structure TightE (r : Nat × Nat × Bool) (X Y : Int) (D : Nat) : Prop where
  flo : Fin r.1
  fhi : Fin r.2.1
  low : ∀ p, RndZ 1 (fval r.1 * 64 + sideOf 1) 64 p → p.2 = true → X < fval p.1 * D
  high : ∀ q, RndZ 2 (fval r.2.1 * 64 + sideOf 2) 64 q → q.2 = true → fval q.1 * D < Y
theorem sp_tight {X Y : Int} {D : Nat} (hD : 0 < D) {r : Nat × Nat × Bool} (h : SpR X Y D r) (hb : r.2.2 = false) : TightE r X Y D := by
  obtain ⟨p, q, h1, h2, rfl⟩ := h
  unfold spOf at hb ⊢
  split
  case isFalse hc => rw [if_neg hc] at hb; cases hb
  case isTrue hc =>
  clear hb
  have f1 := (tell_fin h1).1
  have f2 := (tell_fin h2).1
  refine ⟨f1, f2, ?_, ?_⟩
  · intro u hu hut
    obtain ⟨e1, e2, e3⟩ := next_rung (.inl rfl) f1 hu hut
    obtain ⟨f, hf⟩ := Sf.some X hD
    rcases rz_down h1 hf with ⟨a1, a2, a3⟩ | ⟨a1, a2⟩
    · rw [fval_smag, e1, show sideOf 1 = 1 from rfl, show srung p.1 = f by rw [show sideOf 1 = 1 from rfl] at e1; omega]
      exact hf.2
    · rw [a1] at hc; simp at hc
  · intro u hu hut
    obtain ⟨e1, e2, e3⟩ := next_rung (.inr rfl) f2 hu hut
    obtain ⟨f, hf⟩ := Sf.some Y hD
    rcases rz_up h2 hf with ⟨a1, a2, a3⟩ | ⟨a1, a2⟩
    · have hs : sideOf 2 = -1 := rfl
      rw [hs] at e1
      have hc1 := ceil_le hD hf (srung u.1)
      rw [fval_smag]
      rcases Int.lt_or_le (smag (srung u.1) * D) Y with k | k
      · exact k
      · have := hc1.1 k; omega
    · rw [a1] at hc; simp at hc
/-- A list has a real beyond each of the two. -/
structure TightL (r : Nat × Nat × Bool) (Z : Nat → Int) (len k : Nat) : Prop where
  flo : Fin r.1
  fhi : Fin r.2.1
  low : ∀ p, RndZ 1 (fval r.1 * 64 + sideOf 1) 64 p → p.2 = true → ∃ j, j < len ∧ Z j < fval p.1 * ((2 ^ k : Nat) : Int)
  high : ∀ q, RndZ 2 (fval r.2.1 * 64 + sideOf 2) 64 q → q.2 = true → ∃ j, j < len ∧ fval q.1 * ((2 ^ k : Nat) : Int) < Z j
theorem TightE.list {r : Nat × Nat × Bool} {X Y : Int} {D : Nat} (hD : 0 < D) (h : TightE r X Y D) {Z : Nat → Int} {len k : Nat} (h1 : ∃ j, j < len ∧ Z j * D = X * ((2 ^ k : Nat) : Int)) (h2 : ∃ j, j < len ∧ Z j * D = Y * ((2 ^ k : Nat) : Int)) : TightL r Z len k := by
  have hD' : (0 : Int) < (D : Int) := by omega
  have hk : (0 : Int) < ((2 ^ k : Nat) : Int) := by have := Nat.two_pow_pos k; omega
  refine ⟨h.flo, h.fhi, ?_, ?_⟩
  · intro p hp hpt
    obtain ⟨j, hj, e⟩ := h1
    refine ⟨j, hj, ?_⟩
    have k1 := Int.mul_lt_mul_of_pos_right (h.low p hp hpt) hk
    rw [← e, Int.mul_right_comm] at k1
    exact Int.lt_of_mul_lt_mul_right k1 (by omega)
  · intro p hp hpt
    obtain ⟨j, hj, e⟩ := h2
    refine ⟨j, hj, ?_⟩
    have k1 := Int.mul_lt_mul_of_pos_right (h.high p hp hpt) hk
    rw [← e, Int.mul_right_comm] at k1
    exact Int.lt_of_mul_lt_mul_right k1 (by omega)
def anyB (b : Bool) (f : Nat → Bool) : Nat → Bool
  | 0 => b
  | k + 1 => anyB b f k || f k
theorem anyB_base {b : Bool} {f : Nat → Bool} (hb : b = true) : ∀ k, anyB b f k = true
  | 0 => hb
  | k + 1 => by show (anyB b f k || f k) = true; rw [anyB_base hb k]; rfl
theorem anyB_some {b : Bool} {f : Nat → Bool} {j : Nat} (hj : f j = true) : ∀ k, j < k → anyB b f k = true
  | 0, h => by omega
  | k + 1, h => by
    show (anyB b f k || f k) = true
    rcases Nat.lt_or_ge j k with c | c
    · rw [anyB_some hj k c]; rfl
    · have : j = k := by omega
      subst this
      rw [hj, Bool.or_true]
/-- THE SLICE OF Nums '.slice ao len cap' HOLDS THE REALS Z. -/
structure RdN (w : World) (ao : Option Addr) (len cap : Nat) (s : Nat) (T : Int) (Z : Nat → Int) : Prop where
  le : len ≤ cap
  max : cap ≤ maxLen
  cells : ∃ b off, ao = some ⟨b, off, none⟩ ∧ ∀ j, j < len → ∃ n o l c e, w.cell? ⟨b, off + j * 3, none⟩ = some (.bool n) ∧ w.cell? ⟨b, off + j * 3 + 1, none⟩ = some (.slice o l c) ∧ w.cell? ⟨b, off + j * 3 + 2, none⟩ = some (.int .i64 e) ∧ NumZ w (.agg #[.bool n, .slice o l c, .int .i64 e]) s T (Z j)
theorem RdN.later {w w' : World} {ao : Option Addr} {len cap s : Nat} {T : Int} {Z : Nat → Int} (h : RdN w ao len cap s T Z) (hb : Below w.heap.size w w') : RdN w' ao len cap s T Z := by
  refine ⟨h.le, h.max, ?_⟩
  obtain ⟨b, off, ha, hc⟩ := h.cells
  refine ⟨b, off, ha, fun j hj => ?_⟩
  obtain ⟨n, o, l, c, e, h1, h2, h3, h4⟩ := hc j hj
  have hl := World.block_lt_of_cell? w _ h1
  exact ⟨n, o, l, c, e, by rw [hb.cell (p := ⟨b, off + j * 3, none⟩) hl]; exact h1, by rw [hb.cell (p := ⟨b, off + j * 3 + 1, none⟩) hl]; exact h2, by rw [hb.cell (p := ⟨b, off + j * 3 + 2, none⟩) hl]; exact h3, h4.later hb⟩
set_option maxRecDepth 100000 in
set_option maxHeartbeats 4000000 in
theorem tight_any (al ah : Nat) (ab : Bool) (hal : al < 18446744073709551616) (hah : ah < 18446744073709551616) (ao : Option Addr) (len cap k : Nat) (T : Int) (Z : Nat → Int) (E : Nat) (hE : E = 1074) (hk : k ≤ 4000) (hT : 1024 ≤ T ∧ T ≤ 9000) (w : World) (hR : RdN w ao len cap (E + k) T Z) (hlen : len ≤ 10)
    (ht : ab = false → TightL (al, ah, ab) Z len k) :
    Calls Try.prog 28 #[.agg #[Value.float .f64 al, .float .f64 ah, .bool ab], .slice ao len cap] w fun e' w' => e' = .returned (.bool true) ∧ Below w.heap.size w w' := by
  have HR : Hid (RdN w ao len cap (E + k) T Z) := hR
  have hcm := hR.max
  have hlc := hR.le
  unfold maxLen at hcm
  clear hR
  have g0 := heap_alloc_new w (Obj.cells #[Value.float .f64 al, .float .f64 ah, .bool ab] 24)
  have gb : Below w.heap.size w (w.alloc (Obj.cells #[Value.float .f64 al, .float .f64 ah, .bool ab] 24)) := (Below.refl _ w).alloc (Nat.le_refl _) _
  have G0 : Hid _ := g0
  have GB : Hid _ := gb
  clear g0 gb
  go_enter Try.func28, Try.ntmps28
  go_upto_region 1 with fail
  generalize w.alloc (Obj.cells #[Value.float .f64 al, .float .f64 ah, .bool ab] 24) = W0 at G0 GB ⊢
  obtain ⟨a0, a1, a2⟩ := cells3 G0.out
  cases ab
  · have HTL : Hid (TightL (al, ah, false) Z len k) := ht rfl
    clear ht
    obtain ⟨⟨pu, pok⟩, kp, -, cp⟩ := next_any 1 al hal
    obtain ⟨⟨qu, qok⟩, kq, -, cq⟩ := next_any 2 ah hah
    have rp := kp HTL.out.flo
    have rq := kq HTL.out.fhi
    have hpu := tell_fin rp
    have hqu := tell_fin rq
    simp only at hpu hqu cp cq
    have LOW : Hid (pok = true → ∃ j, j < len ∧ Z j < fval pu * ((2 ^ k : Nat) : Int)) := HTL.out.low _ rp
    have HIGH : Hid (qok = true → ∃ j, j < len ∧ fval qu * ((2 ^ k : Nat) : Int) < Z j) := HTL.out.high _ rq
    have CP : Hid _ := cp
    have CQ : Hid _ := cq
    have FP : Hid _ := hpu
    have FQ : Hid _ := hqu
    clear kp kq rp rq cp cq hpu hqu HTL
    go_wp2_with fail
    refine Calls.mono (CP.out _) ?_
    rintro e w1 ⟨rfl, hw⟩
    rw [hw]; clear hw
    go_wp2_with fail
    refine Calls.mono (CQ.out _) ?_
    rintro e w2 ⟨rfl, hw⟩
    rw [hw]; clear hw
    clear CP CQ a0 a1 a2
    go_wp2_with (go_at_call 58; refine (bits_any pu _).mono ?_; rintro e w0 ⟨rfl, rfl⟩)
    refine Calls.mono (ofZ_any pu FP.out.2 _ E hE) ?_
    rintro e w3 ⟨v3, rfl, ⟨z3, hz3, hf3⟩, bw⟩
    obtain rfl := hf3 FP.out.1
    have Z3 : Hid (NumZ w3 v3 E 1024 (fval pu)) := hz3
    obtain ⟨n3, m3, e3, ⟨o3, l3, c3, xs3, rfl, -⟩, -⟩ := hz3
    have B3 : Hid (Below w.heap.size w w3) := GB.out.trans (bw.mono GB.out.size)
    rw [decide_eq_true FP.out.1]
    clear bw hf3 GB G0
    go_upto_region 6 with fail
    have N4 : Hid _ := heap_alloc_new w3 (Obj.cells #[Value.bool n3, Value.slice o3 l3 c3, Value.int IntKind.i64 e3] 27)
    have B4 : Hid (Below w.heap.size w (w3.alloc (Obj.cells #[Value.bool n3, Value.slice o3 l3 c3, Value.int IntKind.i64 e3] 27))) := B3.out.alloc B3.out.size _
    have Z4 : Hid (NumZ (w3.alloc (Obj.cells #[Value.bool n3, Value.slice o3 l3 c3, Value.int IntKind.i64 e3] 27)) (.agg #[.bool n3, .slice o3 l3 c3, .int .i64 e3]) E 1024 (fval pu)) := Z3.out.later ((Below.refl _ w3).alloc (Nat.le_refl _) _)
    obtain ⟨Pp, hPp⟩ : ∃ P, w3.heap.size = P := ⟨_, rfl⟩
    rw [hPp] at N4 ⊢
    generalize w3.alloc (Obj.cells #[Value.bool n3, Value.slice o3 l3 c3, Value.int IntKind.i64 e3] 27) = W4 at N4 B4 Z4 ⊢
    clear hPp Z3 B3
    go_wp2_with (go_at_call 58; refine (bits_any qu _).mono ?_; rintro e w0 ⟨rfl, rfl⟩)
    refine Calls.mono (ofZ_any qu FQ.out.2 _ E hE) ?_
    rintro e w5 ⟨v5, rfl, ⟨z5, hz5, hf5⟩, bw⟩
    obtain rfl := hf5 FQ.out.1
    have Z5 : Hid (NumZ w5 v5 E 1024 (fval qu)) := hz5
    obtain ⟨n5, m5, e5, ⟨o5, l5, c5, xs5, rfl, -⟩, -⟩ := hz5
    have N5 : Hid _ := (bw.block _ (blk_lt N4.out)).trans N4.out
    have Z4' : Hid _ := NumZ.later Z4.out bw
    have B5 : Hid (Below w.heap.size w w5) := B4.out.trans (bw.mono B4.out.size)
    rw [decide_eq_true FQ.out.1]
    clear bw hf5 B4 N4 Z4
    go_upto_region 7 with fail
    have N6 : Hid _ := (alloc4 N5.out B5.out (Obj.cells #[Value.bool n5, Value.slice o5 l5 c5, Value.int IntKind.i64 e5] 27)).1
    have N7 : Hid _ := heap_alloc_new w5 (Obj.cells #[Value.bool n5, Value.slice o5 l5 c5, Value.int IntKind.i64 e5] 27)
    have B6 : Hid (Below w.heap.size w (w5.alloc (Obj.cells #[Value.bool n5, Value.slice o5 l5 c5, Value.int IntKind.i64 e5] 27))) := B5.out.alloc B5.out.size _
    have Z6 : Hid (NumZ (w5.alloc (Obj.cells #[Value.bool n5, Value.slice o5 l5 c5, Value.int IntKind.i64 e5] 27)) (.agg #[.bool n3, .slice o3 l3 c3, .int .i64 e3]) (E + k) T (fval pu * ((2 ^ k : Nat) : Int))) := NumZ.mono (NumZ.more (NumZ.later Z4'.out ((Below.refl _ w5).alloc (Nat.le_refl _) _)) k) hT.1
    have Z7 : Hid (NumZ (w5.alloc (Obj.cells #[Value.bool n5, Value.slice o5 l5 c5, Value.int IntKind.i64 e5] 27)) (.agg #[.bool n5, .slice o5 l5 c5, .int .i64 e5]) (E + k) T (fval qu * ((2 ^ k : Nat) : Int))) := NumZ.mono (NumZ.more (Z5.out.later ((Below.refl _ w5).alloc (Nat.le_refl _) _)) k) hT.1
    obtain ⟨Pq, hPq⟩ : ∃ P, w5.heap.size = P := ⟨_, rfl⟩
    rw [hPq] at N7 ⊢
    generalize w5.alloc (Obj.cells #[Value.bool n5, Value.slice o5 l5 c5, Value.int IntKind.i64 e5] 27) = W at N6 N7 B6 Z6 Z7 ⊢
    clear hPq Z4' Z5 N5 B5
    obtain ⟨P, hP⟩ : ∃ P, fval pu * ((2 ^ k : Nat) : Int) = P := ⟨_, rfl⟩
    obtain ⟨Q, hQ⟩ : ∃ Q, fval qu * ((2 ^ k : Nat) : Int) = Q := ⟨_, rfl⟩
    rw [hP] at LOW Z6
    rw [hQ] at HIGH Z7
    clear hP hQ FP FQ
    obtain ⟨FL, hFL⟩ : ∃ f : Nat → Bool, f = fun j => decide (sgi (Z j - P) < 0) := ⟨_, rfl⟩
    obtain ⟨FH, hFH⟩ : ∃ f : Nat → Bool, f = fun j => decide (0 < sgi (Z j - Q)) := ⟨_, rfl⟩
    have HFL : Hid (∀ j, decide (sgi (Z j - P) < 0) = FL j) := fun j => by rw [hFL]
    have HFH : Hid (∀ j, decide (0 < sgi (Z j - Q)) = FH j) := fun j => by rw [hFH]
    have HLT : Hid (anyB (!pok) FL len = true) := by
      unfold Hid
      cases pok
      · exact anyB_base rfl _
      · obtain ⟨j, hj, hz⟩ := LOW.out rfl
        refine anyB_some (j := j) ?_ _ hj
        rw [hFL]; exact decide_eq_true (by unfold sgi; rw [if_pos (by omega)]; decide)
    have HHT : Hid (anyB (!qok) FH len = true) := by
      unfold Hid
      cases qok
      · exact anyB_base rfl _
      · obtain ⟨j, hj, hz⟩ := HIGH.out rfl
        refine anyB_some (j := j) ?_ _ hj
        rw [hFH]; exact decide_eq_true (by unfold sgi; rw [if_neg (by omega), if_neg (by omega)]; decide)
    clear LOW HIGH hFL hFH
    obtain ⟨L0, hL0⟩ : ∃ b, (!pok) = b := ⟨_, rfl⟩
    obtain ⟨H0, hH0⟩ : ∃ b, (!qok) = b := ⟨_, rfl⟩
    rw [hL0] at HLT
    rw [hH0] at HHT
    have hL0' : ∀ w, (Op.unary .not (.bool pok)).run Try.prog w = .ok (.bool L0) w := fun w => by rw [← hL0]; rfl
    have hH0' : ∀ w, (Op.unary .not (.bool qok)).run Try.prog w = .ok (.bool H0) w := fun w => by rw [← hH0]; rfl
    have HC : Hid (∀ wx wy, Below W.heap.size W wx → Below wx.heap.size wx wy → Below W.heap.size W wy ∧ (wy.cell? ⟨Pp, 0, none⟩ = some (.bool n3) ∧ wy.cell? ⟨Pp, 1, none⟩ = some (.slice o3 l3 c3) ∧ wy.cell? ⟨Pp, 2, none⟩ = some (.int .i64 e3)) ∧ (wy.cell? ⟨Pq, 0, none⟩ = some (.bool n5) ∧ wy.cell? ⟨Pq, 1, none⟩ = some (.slice o5 l5 c5) ∧ wy.cell? ⟨Pq, 2, none⟩ = some (.int .i64 e5))) := by
      intro wx wy q1 q2
      have h := q1.trans (q2.mono q1.size)
      exact ⟨h, cells3 ((h.block _ (blk_lt N6.out)).trans N6.out), cells3 ((h.block _ (blk_lt N7.out)).trans N7.out)⟩
    go_wp2_with fail
    go_loopw [13, 14, 15] (fun lv hv iv wr => ∃ j : Nat, j ≤ len ∧ iv = .int .i64 j ∧ lv = .bool (anyB L0 FL j) ∧ hv = .bool (anyB H0 FH j) ∧ Hid (Below W.heap.size W wr)) (fun _ _ iv _ => len - (intOf iv).toNat)
    case atStart => exact ⟨0, by omega, rfl, by first | rfl | (rw [hL0]; rfl) | (simp only [hL0]; rfl), by first | rfl | (rw [hH0]; rfl) | (simp only [hH0]; rfl), Below.refl _ _⟩
    case round =>
      obtain ⟨j, hj, rfl, rfl, rfl, K⟩ := hrel
      by_cases hlt : j < len
      · have hd : decide ((j : Int) < (len : Int)) = true := decide_eq_true (by omega)
        obtain ⟨b, off, rfl, hc⟩ := (HR.out.later B6.out).cells
        obtain ⟨nj, oj, lj, cj, ej, h1, h2, h3, h4⟩ := hc j hlt
        have ZJ : Hid (NumZ W (.agg #[.bool nj, .slice oj lj cj, .int .i64 ej]) (E + k) T (Z j)) := h4
        have HJ : Hid (∀ wy, Below W.heap.size W wy → wy.cell? ⟨b, off + j * 3, none⟩ = some (.bool nj) ∧ wy.cell? ⟨b, off + j * 3 + 1, none⟩ = some (.slice oj lj cj) ∧ wy.cell? ⟨b, off + j * 3 + 2, none⟩ = some (.int .i64 ej)) := by
          intro wy hb
          have hl := World.block_lt_of_cell? W _ h1
          exact ⟨by rw [hb.cell (p := ⟨b, off + j * 3, none⟩) hl]; exact h1, by rw [hb.cell (p := ⟨b, off + j * 3 + 1, none⟩) hl]; exact h2, by rw [hb.cell (p := ⟨b, off + j * 3 + 2, none⟩) hl]; exact h3⟩
        clear h1 h2 h3 h4 hc
        have i0 : (0 : Int) ≤ (j : Int) := by omega
        have i1 : (j : Int) < (len : Int) := by omega
        have HSL : Hid (anyB L0 FL (j + 1) = (anyB L0 FL j || FL j)) := rfl
        have HSH : Hid (anyB H0 FH (j + 1) = (anyB H0 FH j || FH j)) := rfl
        go_upto_region 12 with fail
        obtain ⟨bl0, hbl0⟩ : ∃ b, anyB L0 FL j = b := ⟨_, rfl⟩
        rw [hbl0] at HSL ⊢
        clear hbl0
        go_cut [13] (fun s13 wx => s13 = .bool (anyB L0 FL (j + 1)) ∧ Hid (Below W.heap.size W wx))
        case first =>
          obtain ⟨x0, x1, x2⟩ := HJ.out _ K.out
          obtain ⟨-, ⟨p0, p1, p2⟩, -⟩ := HC.out _ _ K.out (Below.refl _ _)
          cases bl0
          · go_region_held3 (fun w' => (w'.cell? ⟨b, off + j * 3, none⟩ = some (.bool nj) ∧ w'.cell? ⟨b, off + j * 3 + 1, none⟩ = some (.slice oj lj cj) ∧ w'.cell? ⟨b, off + j * 3 + 2, none⟩ = some (.int .i64 ej)) ∧ w'.cell? ⟨Pp, 0, none⟩ = some (.bool n3) ∧ w'.cell? ⟨Pp, 1, none⟩ = some (.slice o3 l3 c3) ∧ w'.cell? ⟨Pp, 2, none⟩ = some (.int .i64 e3)) (go_keep) ((first
              | (go_at_call 23; refine Calls.mono (cmpZ_any _ _ (E + k) T (Z j) P _ (NumZ.later ZJ.out K.out.drew) (NumZ.later Z6.out K.out.drew) (by omega) (by omega)) ?_; rintro e w9 ⟨rfl, b9⟩; obtain ⟨bb9, ⟨s0, s1, s2⟩, -⟩ := HC.out _ w9 K.out.drew b9; obtain ⟨y0, y1, y2⟩ := HJ.out _ bb9)))
            have B9 : Hid (Below W.heap.size W w9) := bb9
            clear bb9 b9
            go_wp2_with fail
            go_meet
            exact ⟨by rw [HSL.out, ← HFL.out]; rfl, B9⟩
          · go_region
            have B9 : Hid (Below W.heap.size W _) := K.out.drew
            go_wp2_with fail
            go_meet
            exact ⟨by rw [HSL.out]; rfl, B9⟩
        case rest =>
        obtain ⟨rfl, K2⟩ := hcut
        clear K HSL
        go_upto_region 13 with fail
        obtain ⟨bh0, hbh0⟩ : ∃ b, anyB H0 FH j = b := ⟨_, rfl⟩
        rw [hbh0] at HSH ⊢
        clear hbh0
        obtain ⟨x0, x1, x2⟩ := HJ.out _ K2.out
        obtain ⟨-, -, ⟨p0, p1, p2⟩⟩ := HC.out _ _ K2.out (Below.refl _ _)
        cases bh0
        · go_region_held3 (fun w' => (w'.cell? ⟨b, off + j * 3, none⟩ = some (.bool nj) ∧ w'.cell? ⟨b, off + j * 3 + 1, none⟩ = some (.slice oj lj cj) ∧ w'.cell? ⟨b, off + j * 3 + 2, none⟩ = some (.int .i64 ej)) ∧ w'.cell? ⟨Pq, 0, none⟩ = some (.bool n5) ∧ w'.cell? ⟨Pq, 1, none⟩ = some (.slice o5 l5 c5) ∧ w'.cell? ⟨Pq, 2, none⟩ = some (.int .i64 e5)) (go_keep) ((first
            | (go_at_call 23; refine Calls.mono (cmpZ_any _ _ (E + k) T (Z j) Q _ (NumZ.later ZJ.out K2.out.drew) (NumZ.later Z7.out K2.out.drew) (by omega) (by omega)) ?_; rintro e w9 ⟨rfl, b9⟩; obtain ⟨bb9, -, ⟨s0, s1, s2⟩⟩ := HC.out _ w9 K2.out.drew b9; obtain ⟨y0, y1, y2⟩ := HJ.out _ bb9)))
          have B9 : Hid (Below W.heap.size W w9) := bb9
          clear bb9 b9
          go_wp2_with fail
          go_roundw
          case rel => exact ⟨j + 1, by omega, by go_num, rfl, by rw [HSH.out, ← HFH.out]; rfl, B9⟩
          case measure => simp [intOf]; omega
        · go_region
          have B9 : Hid (Below W.heap.size W wc.drew) := K2.out.drew
          go_wp2_with fail
          go_roundw
          case rel => exact ⟨j + 1, by omega, by go_num, rfl, by rw [HSH.out]; rfl, B9⟩
          case measure => simp [intOf]; omega
      · have hd : decide ((j : Int) < (len : Int)) = false := decide_eq_false (by omega)
        have hjl : j = len := by omega
        subst hjl
        rw [HLT.out, HHT.out]
        go_wp2_with fail
        go_ret
        exact ⟨rfl, B6.out.trans (K.out.mono B6.out.size)⟩
  · go_wp2_with fail
    go_ret
    exact ⟨rfl, GB.out⟩
end Go.Proofs.Ytkfmffikfpmgdab
