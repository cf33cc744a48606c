import Derived.Test.YtfepcpkfbnpbjaaGreatJZf
import Derived.Test.YtfepcpkfbnpbjaaGreatGJd
import Derived.Test.YtfepcpkfbnpbjaaGreatJS
import Derived.Laws.AppendOwnNone
namespace Go.Proofs.YtfepcpkfbnpbjaaGreat
open Go.RowKit Go.Shelf
set_option linter.unusedVariables false
set_option linter.unusedSimpArgs false

/-- The zonotope of the examples, wherever its lists lie. -/
def firZ (co : Option Addr) (cc : Nat) (io : Option Addr) (dc : Nat) (go : Option Addr) (gc : Nat) (ro : Option Addr) (rc : Nat) (gv : Nat → Option Addr × Nat × Nat) : ZD :=
  ⟨2, co, 2, cc, io, 2, dc, go, 2, gc, ro, 2, rc, false, [4607182418800017408, 4611686018427387904], [0, 3], gv, [[4607182418800017408, 0], [4607182418800017408, 13830554455654793216]], [0, 4602678819172646912]⟩
theorem first_fir (w : World) : Calls Tryz.prog 32 #[] w fun e w' => ∃ co cc io dc go gc ro rc gv, e = .returned (.agg (zRow (firZ co cc io dc go gc ro rc gv))) ∧ ZR w' (firZ co cc io dc go gc ro rc gv) ∧ Below w.heap.size w w' := by
  refine Calls.mono (first_any w) ?_
  rintro e w' ⟨z, rfl, hz, h1, h2, h3, h4, h5, h6, h7, h8, h9, h10, hb⟩
  obtain ⟨N, co, cn, cc, io, dn, dc, go, gn, gc, ro, rn, rc, bad, cs, ids, gv, gs, rs⟩ := z
  dsimp only at h1 h2 h3 h4 h5 h6 h7 h8 h9 h10
  subst h1 h2 h3 h4 h5 h6 h7 h8 h9 h10
  exact ⟨co, cc, io, dc, go, gc, ro, rc, gv, rfl, hz, hb⟩
section
variable (co : Option Addr) (cc : Nat) (io : Option Addr) (dc : Nat) (go : Option Addr) (gc : Nat) (ro : Option Addr) (rc : Nat) (gv : Nat → Option Addr × Nat × Nat)
theorem fir_check : checkB (firZ co cc io dc go gc ro rc gv) = true := by kernel_rfl
theorem fir_tk : tkZ (firZ co cc io dc go gc ro rc gv) = firZ co cc io dc go gc ro rc gv := by unfold tkZ; rw [fir_check, if_pos rfl]
theorem fir_num : numN [4607182418800017408, 4607182418800017408] (firZ co cc io dc go gc ro rc gv).N = true := by kernel_rfl
theorem fir_sup : supO (firZ co cc io dc go gc ro rc gv) [4607182418800017408, 4607182418800017408] = some (fval 4616752568008179712 * ((2 ^ 1166 : Nat) : Int)) := of_decide_eq_true (by kernel_rfl)
theorem fir_lo : joinO (one1 4607182418800017408) (farZ (firZ co cc io dc go gc ro rc gv) 0) true = some (fval 13830554455654793216 * ((2 ^ 1166 : Nat) : Int)) := of_decide_eq_true (by kernel_rfl)
theorem fir_hi : joinO (one1 4607182418800017408) (farZ (firZ co cc io dc go gc ro rc gv) 0) false = some (fval 4613937818241073152 * ((2 ^ 1166 : Nat) : Int)) := of_decide_eq_true (by kernel_rfl)
theorem fir_may : mayB (firZ co cc io dc go gc ro rc gv) 4 = true := by kernel_rfl
theorem fir_lf : lfS 2 ([0, 4602678819172646912].map plainM) 4 2 = ([4], [[0, 4602678819172646912]], 5) := by kernel_rfl
theorem fir_same : sameZ (firZ co cc io dc go gc ro rc gv) (firZ co cc io dc go gc ro rc gv) = true := by kernel_rfl
end
theorem two_check : checkB ⟨2, none, 0, 0, none, 0, 0, none, 0, 0, none, 0, 0, false, [], [], fun _ => (none, 0, 0), [], []⟩ = false := by kernel_rfl
theorem rnd_exJ {d : Int} {r u : Nat} {b : Bool} {o : Option Int} (hr : r < 18446744073709551616) (hf : Fin r) (hd : d = 0 ∨ d = 1 ∨ d = 2) (ho : o = some (fval r * ((2 ^ 1166 : Nat) : Int))) (h : RndO d o u b) : u = plainM r ∧ b = true := by
  subst ho
  have h1 := canon_rnd hr hf (Nat.two_pow_pos 1166) hd (h 1166 rfl)
  cases h1
  exact ⟨rfl, rfl⟩
theorem mkS_fir : (if (true && true) = true then makeS (plainM 13830554455654793216) (plainM 4613937818241073152) else (0, 0, true)) = (13830554455654793216, 4613937818241073152, false) := by kernel_rfl
set_option maxRecDepth 100000 in
theorem aro_fir (co : Option Addr) (cc : Nat) (io : Option Addr) (dc : Nat) (go : Option Addr) (gc : Nat) (ro : Option Addr) (rc : Nat) (gv : Nat → Option Addr × Nat × Nat) {r : Nat × Nat × Bool} (h : AroR 4607182418800017408 (farZ (firZ co cc io dc go gc ro rc gv) 0) r) : r = (13830554455654793216, 4613937818241073152, false) := by
  obtain ⟨lo, low, hi, high, h1, h2, rfl⟩ := h
  have e1 := fir_lo co cc io dc go gc ro rc gv
  have e2 := fir_hi co cc io dc go gc ro rc gv
  generalize joinO (one1 4607182418800017408) (farZ (firZ co cc io dc go gc ro rc gv) 0) true = o1 at h1 e1
  generalize joinO (one1 4607182418800017408) (farZ (firZ co cc io dc go gc ro rc gv) 0) false = o2 at h2 e2
  obtain ⟨rfl, rfl⟩ := rnd_exJ (d := 2) (r := 13830554455654793216) (by decide) (by decide) (by decide) e1 h1
  obtain ⟨rfl, rfl⟩ := rnd_exJ (d := 1) (r := 4613937818241073152) (by decide) (by decide) (by decide) e2 h2
  exact mkS_fir
set_option maxRecDepth 100000 in
theorem sup_fir (co : Option Addr) (cc : Nat) (io : Option Addr) (dc : Nat) (go : Option Addr) (gc : Nat) (ro : Option Addr) (rc : Nat) (gv : Nat → Option Addr × Nat × Nat) {u : Nat} {b : Bool} (h : RndO 1 (supO (firZ co cc io dc go gc ro rc gv) [4607182418800017408, 4607182418800017408]) u b) : u = 4616752568008179712 ∧ b = true := by
  have e1 := fir_sup co cc io dc go gc ro rc gv
  generalize supO (firZ co cc io dc go gc ro rc gv) [4607182418800017408, 4607182418800017408] = o1 at h e1
  obtain ⟨rfl, rfl⟩ := rnd_exJ (d := 1) (r := 4616752568008179712) (by decide) (by decide) (by decide) e1 h
  exact ⟨by kernel_rfl, rfl⟩
end Go.Proofs.YtfepcpkfbnpbjaaGreat

namespace Go.Proofs.YtfepcpkfbnpbjaaGreat
open Go.RowKit Go.Shelf
set_option linter.unusedVariables false
set_option linter.unusedSimpArgs false

section
variable (co : Option Addr) (cc : Nat) (io : Option Addr) (dc : Nat) (go : Option Addr) (gc : Nat) (ro : Option Addr) (rc : Nat) (gv : Nat → Option Addr × Nat × Nat)
theorem sup_call (dO : Option Addr) (dcap : Nat) (W : World) (hz : ZR W (firZ co cc io dc go gc ro rc gv)) (hd : RdF W dO 2 dcap [4607182418800017408, 4607182418800017408]) :
    Calls Tryz.prog 6 #[.agg #[.int .i64 2, .slice co 2 cc, .slice io 2 dc, .slice go 2 gc, .slice ro 2 rc, .bool false], .slice dO 2 dcap] W fun e w' => e = .returned (.tuple #[.float .f64 4616752568008179712, .bool true]) ∧ Below W.heap.size W w' := by
  refine Calls.mono (support_ok (firZ co cc io dc go gc ro rc gv) dO 2 dcap _ W hz hd (fir_check ..) rfl (fir_num ..) ⟨rfl, rfl, rfl, fun k hk => ?_⟩) ?_
  · match k, hk with
    | 0, _ => rfl
    | 1, _ => rfl
  · rintro e w' ⟨⟨u, b, rfl, h⟩, hb⟩
    obtain ⟨rfl, rfl⟩ := sup_fir _ _ _ _ _ _ _ _ _ h
    exact ⟨rfl, hb⟩
theorem bnd_call (W : World) (hz : ZR W (firZ co cc io dc go gc ro rc gv)) :
    Calls Tryz.prog 7 #[.agg #[.int .i64 2, .slice co 2 cc, .slice io 2 dc, .slice go 2 gc, .slice ro 2 rc, .bool false]] W fun e w' => ∃ g, e = .returned (.slice (some ⟨g, 0, none⟩) 2 2) ∧ w'.cell? ⟨g, 0, none⟩ = some (.float .f64 13830554455654793216) ∧ w'.cell? ⟨g, 1, none⟩ = some (.float .f64 4613937818241073152) ∧ w'.cell? ⟨g, 2, none⟩ = some (.bool false) ∧ Below W.heap.size W w' := by
  refine Calls.mono (bounds_ok (firZ co cc io dc go gc ro rc gv) W hz (fir_check ..) rfl rfl (show 2 ≤ 100000 by decide) (Nat.le_refl _) rfl (fun k hk => ?_)) ?_
  · match k, hk with
    | 0, _ => rfl
    | 1, _ => rfl
  · rintro e w' ⟨⟨g, rfl, hg, h⟩, hb⟩
    obtain ⟨arr, h1, h2, h3⟩ := h.ex
    obtain ⟨r, hr, a0, a1, a2⟩ := h3 0 (show 0 < 2 by decide)
    have e := aro_fir co cc io dc go gc ro rc gv hr
    subst e
    exact ⟨g, rfl, cellAtJ h1 0 _ a0, cellAtJ h1 1 _ a1, cellAtJ h1 2 _ a2, hb⟩
theorem lft_call (W : World) (hz : ZR W (firZ co cc io dc go gc ro rc gv)) :
    Calls Tryz.prog 33 #[.agg #[.int .i64 2, .slice co 2 cc, .slice io 2 dc, .slice go 2 gc, .slice ro 2 rc, .bool false], .int .i64 4] W fun e w' => ∃ y : ZD, e = .returned (.tuple #[.agg (zRow y), .int .i64 5]) ∧ ZR w' y ∧ y.dn = 3 ∧ y.ids = [0, 3, 4] ∧ Below W.heap.size W w' := by
  refine Calls.mono (lift_ok (firZ co cc io dc go gc ro rc gv) 4 W hz ?_ ?_ ?_ ?_ ?_ ?_ ?_ (by decide) ?_) ?_
  · rw [fir_tk]; rfl
  · rw [fir_tk]; rfl
  · rw [fir_tk]; rfl
  · rw [fir_tk]; rfl
  · rw [fir_tk]; exact (show 2 ≤ 100000 by decide)
  · rw [fir_tk]; exact (show 2 ≤ 2000000 by decide)
  · rw [fir_tk]
    intro k hk
    match k, hk with
    | 0, _ => rfl
    | 1, _ => rfl
  · rw [fir_tk]; exact fir_may ..
  · rintro e w' ⟨bc, br, vi, vg, gl, rfl, h, hb⟩
    rw [fir_tk] at h ⊢
    have e5 := fir_lf
    dsimp only [firZ] at h ⊢
    rw [e5] at h
    obtain ⟨y, hy, h1, h2, h3, h4, h5, h6, h7, h8, h9, h10, h11⟩ := h.zr 2 false
    refine ⟨y, ?_, h1, h10, h6, hb⟩
    rw [← hy]
    rw [e5]
theorem chk_call (W : World) (hz : ZR W (firZ co cc io dc go gc ro rc gv)) :
    Calls Tryz.prog 35 #[.agg #[.int .i64 2, .slice co 2 cc, .slice io 2 dc, .slice go 2 gc, .slice ro 2 rc, .bool false]] W fun e w' => e = .returned (.int .i64 0) ∧ Below W.heap.size W w' := by
  have h := check_any (firZ co cc io dc go gc ro rc gv) W hz
  rw [fir_check] at h
  exact h
theorem sam_call (W : World) (hz : ZR W (firZ co cc io dc go gc ro rc gv)) :
    Calls Tryz.prog 36 #[.agg #[.int .i64 2, .slice co 2 cc, .slice io 2 dc, .slice go 2 gc, .slice ro 2 rc, .bool false], .agg #[.int .i64 2, .slice co 2 cc, .slice io 2 dc, .slice go 2 gc, .slice ro 2 rc, .bool false]] W fun e w' => e = .returned (.bool true) ∧ Below W.heap.size W w' := by
  have h := same_anyJ (firZ co cc io dc go gc ro rc gv) (firZ co cc io dc go gc ro rc gv) W hz hz
  rw [fir_tk, fir_same] at h
  exact h
theorem sam_no (y : ZD) (hi : y.ids = [0, 3, 4]) (W : World) (hz : ZR W (firZ co cc io dc go gc ro rc gv)) (hy : ZR W y) :
    Calls Tryz.prog 36 #[.agg #[.int .i64 2, .slice co 2 cc, .slice io 2 dc, .slice go 2 gc, .slice ro 2 rc, .bool false], .agg #[.int .i64 y.N, .slice y.co y.cn y.cc, .slice y.io y.dn y.dc, .slice y.go y.gn y.gc, .slice y.ro y.rn y.rc, .bool y.bad]] W fun e w' => e = .returned (.bool false) ∧ Below W.heap.size W w' := by
  have h := same_anyJ (firZ co cc io dc go gc ro rc gv) y W hz hy
  have hf : sameZ (firZ co cc io dc go gc ro rc gv) (tkZ y) = false := by
    unfold tkZ
    split
    · unfold sameZ
      have : decide ((firZ co cc io dc go gc ro rc gv).ids = y.ids) = false := by rw [hi]; rfl
      rw [this]
      simp
    · kernel_rfl
  rw [fir_tk, hf] at h
  exact h
end
theorem chk_two (W : World) : Calls Tryz.prog 35 #[.agg #[.int .i64 2, .slice none 0 0, .slice none 0 0, .slice none 0 0, .slice none 0 0, .bool false]] W fun e w' => e = .returned (.int .i64 100) ∧ Below W.heap.size W w' := by
  have h := check_any ⟨2, none, 0, 0, none, 0, 0, none, 0, 0, none, 0, 0, false, [], [], fun _ => (none, 0, 0), [], []⟩ W ⟨⟨rfl, Nat.zero_le _, fun u hu => (by cases hu), .inl rfl⟩, ⟨rfl, Nat.zero_le _, .inl rfl⟩, ⟨rfl, Nat.zero_le _, .inl rfl, fun j hj => absurd hj (Nat.not_lt_zero _)⟩, ⟨rfl, Nat.zero_le _, fun u hu => (by cases hu), .inl rfl⟩⟩
  rw [two_check] at h
  exact h
end Go.Proofs.YtfepcpkfbnpbjaaGreat

namespace Go.Proofs.YtfepcpkfbnpbjaaGreat
open Go.RowKit Go.Shelf
set_option linter.unusedVariables false
set_option linter.unusedSimpArgs false

theorem eqF_lo (W : World) : (Op.equalIn 9999 38 (.float .f64 13830554455654793216) (.float .f64 13830554455654793216)).run Tryz.prog W = .ok true W := by kernel_rfl
theorem eqF_hi (W : World) : (Op.equalIn 9999 38 (.float .f64 4613937818241073152) (.float .f64 4613937818241073152)).run Tryz.prog W = .ok true W := by kernel_rfl
set_option maxRecDepth 100000 in
set_option maxHeartbeats 4000000 in
theorem started_any (w : World) : Calls Tryz.prog 9 #[] w fun e w' => e = .returned (.bool true) ∧ Below w.heap.size w w' := by
  have HF1 : Hid _ := first_fir w
  go_enter Tryz.func9, Tryz.ntmps9
  go_upto_region 2 with (first
    | (go_at_call 32; refine Calls.mono HF1.out ?_; rintro e w1 ⟨co, cc, io, dc, go, gc, ro, rc, gv, rfl, hz, hb1⟩)
    | (refine wpList_store_row (by rfl) 26 _ _ (by rfl) w w.heap.size w1.heap.size #[.int .i64 2, .slice co 2 cc, .slice io 2 dc, .slice go 2 gc, .slice ro 2 rc, .bool false] _ (by rfl) (by rfl) (heap_alloc_new w1 _) (hb1.alloc hb1.size _) hb1.size 6 Tryz.infoZ (by rfl) (by rfl) (oneZ _ _ _ _ _ rfl rfl rfl rfl _) ?_; intro W2 e2 b2 s2 o2))
  have hz2 : ZR W2 (firZ co cc io dc go gc ro rc gv) := hz.later ⟨b2.os.trans hb1.os.symm, b2.tape.trans hb1.tape.symm, b2.output.trans hb1.output.symm, by rw [s2]; simp, fun k hk => (o2 k (Nat.ne_of_lt hk)).trans (Below.heap_alloc w1 _ k hk)⟩
  obtain ⟨B1, hB1⟩ : ∃ B1, w1.heap.size = B1 := ⟨_, rfl⟩
  have hB1w : w.heap.size ≤ B1 := hB1 ▸ hb1.size
  rw [hB1] at e2 ⊢
  have H2 : Hid (ZR W2 (firZ co cc io dc go gc ro rc gv) ∧ W2.heap[B1]? = some (.cells #[.int .i64 2, .slice co 2 cc, .slice io 2 dc, .slice go 2 gc, .slice ro 2 rc, .bool false] 26) ∧ Below w.heap.size w W2) := ⟨hz2, e2, b2⟩
  clear hz2 e2 b2 o2 s2 hz hb1 hB1 HF1
  have X2 : Below W2.heap.size W2 (W2.alloc (.cells #[.float .f64 4607182418800017408, .float .f64 4607182418800017408] 38)) := (Below.refl _ W2).alloc (Nat.le_refl _) _
  have HSc : Hid _ := sup_call co cc io dc go gc ro rc gv (some ⟨W2.heap.size, 0, none⟩) 2 _ (H2.out.1.later X2) (rdF2 (heap_alloc_new W2 _) (by decide) (by decide))
  go_upto_region 3 with (first
    | (refine wpList_load_row (by rfl) 26 _ (by rfl) B1 _ (by rfl) H2.out.2.1 _ Tryz.underlying26 rfl 6 Tryz.infoZ (by rfl) ?_)
    | (go_at_call 6; refine Calls.mono HSc.out ?_; rintro e w3 ⟨rfl, hb3⟩))
  have q3 := to_call X2 hb3
  have H3 : Hid (ZR w3 (firZ co cc io dc go gc ro rc gv) ∧ w3.heap[B1]? = some (.cells #[.int .i64 2, .slice co 2 cc, .slice io 2 dc, .slice go 2 gc, .slice ro 2 rc, .bool false] 26) ∧ Below w.heap.size w w3) := ⟨H2.out.1.later q3, kept q3 H2.out.2.1, to_call H2.out.2.2 q3⟩
  clear q3 hb3 X2 HSc H2
  have HBc : Hid _ := bnd_call co cc io dc go gc ro rc gv w3 H3.out.1
  go_upto_region 4 with (first
    | (refine wpList_load_row (by rfl) 26 _ (by rfl) B1 _ (by rfl) H3.out.2.1 _ Tryz.underlying26 rfl 6 Tryz.infoZ (by rfl) ?_)
    | (go_at_call 7; refine Calls.mono HBc.out ?_; rintro e w4 ⟨g, rfl, g0, g1, g2, hb4⟩))
  have H4 : Hid (ZR w4 (firZ co cc io dc go gc ro rc gv) ∧ w4.heap[B1]? = some (.cells #[.int .i64 2, .slice co 2 cc, .slice io 2 dc, .slice go 2 gc, .slice ro 2 rc, .bool false] 26) ∧ Below w.heap.size w w4) := ⟨H3.out.1.later hb4, kept hb4 H3.out.2.1, to_call H3.out.2.2 hb4⟩
  have HG4 : Hid _ := And.intro g0 (And.intro g1 g2)
  clear hb4 HBc H3 g0 g1 g2
  have HLc : Hid _ := lft_call co cc io dc go gc ro rc gv w4 H4.out.1
  go_upto_region 5 with (first
    | (refine wpList_load_row (by rfl) 26 _ (by rfl) B1 _ (by rfl) H4.out.2.1 _ Tryz.underlying26 rfl 6 Tryz.infoZ (by rfl) ?_)
    | (go_at_call 33; refine Calls.mono HLc.out ?_; rintro e w5 ⟨⟨yN, yco, ycn, ycc, yio, ydn, ydc, ygo, ygn, ygc, yro, yrn, yrc, ybad, ycs, yids, ygv, ygs, yrs⟩, rfl, hy, hyd, hyi, hb5⟩; (try dsimp only at hyd hyi); subst hyd; subst hyi; unfold zRow; dsimp only))
  have q6 : Below w5.heap.size w5 (w5.alloc (.cells #[.int .i64 yN, .slice yco ycn ycc, .slice yio 3 ydc, .slice ygo ygn ygc, .slice yro yrn yrc, .bool ybad] 26)) := (Below.refl _ w5).alloc (Nat.le_refl _) _
  have e6 : (w5.alloc (.cells #[.int .i64 yN, .slice yco ycn ycc, .slice yio 3 ydc, .slice ygo ygn ygc, .slice yro yrn yrc, .bool ybad] 26)).heap[w5.heap.size]? = some (.cells #[.int .i64 yN, .slice yco ycn ycc, .slice yio 3 ydc, .slice ygo ygn ygc, .slice yro yrn yrc, .bool ybad] 26) := heap_alloc_new w5 _
  obtain ⟨W6, hW6⟩ : ∃ W6, w5.alloc (.cells #[.int .i64 yN, .slice yco ycn ycc, .slice yio 3 ydc, .slice ygo ygn ygc, .slice yro yrn yrc, .bool ybad] 26) = W6 := ⟨_, rfl⟩
  rw [hW6] at q6 e6 ⊢
  have b6 := to_call (to_call H4.out.2.2 hb5) q6
  have q46 := to_call hb5 q6
  obtain ⟨B5, hB5⟩ : ∃ B5, w5.heap.size = B5 := ⟨_, rfl⟩
  rw [hB5] at e6 ⊢
  have H6 : Hid (ZR W6 (firZ co cc io dc go gc ro rc gv) ∧ W6.heap[B1]? = some (.cells #[.int .i64 2, .slice co 2 cc, .slice io 2 dc, .slice go 2 gc, .slice ro 2 rc, .bool false] 26) ∧ Below w.heap.size w W6 ∧ ZR W6 ⟨yN, yco, ycn, ycc, yio, 3, ydc, ygo, ygn, ygc, yro, yrn, yrc, ybad, ycs, [0, 3, 4], ygv, ygs, yrs⟩ ∧ W6.heap[B5]? = some (.cells #[.int .i64 yN, .slice yco ycn ycc, .slice yio 3 ydc, .slice ygo ygn ygc, .slice yro yrn yrc, .bool ybad] 26)) := ⟨H4.out.1.later q46, kept q46 H4.out.2.1, b6, hy.later q6, e6⟩
  have g0 : W6.cell? ⟨g, 0, none⟩ = some (.float .f64 13830554455654793216) := (q46.cell (World.block_lt_of_cell? _ _ HG4.out.1)).trans HG4.out.1
  have g1 : W6.cell? ⟨g, 1, none⟩ = some (.float .f64 4613937818241073152) := (q46.cell (World.block_lt_of_cell? _ _ HG4.out.2.1)).trans HG4.out.2.1
  have g2 : W6.cell? ⟨g, 2, none⟩ = some (.bool false) := (q46.cell (World.block_lt_of_cell? _ _ HG4.out.2.2)).trans HG4.out.2.2
  have CK : Hid (∀ W, Below W6.heap.size W6 W → Calls Tryz.prog 35 #[.agg #[.int .i64 2, .slice co 2 cc, .slice io 2 dc, .slice go 2 gc, .slice ro 2 rc, .bool false]] W fun e w' => e = .returned (.int .i64 0) ∧ Below W.heap.size W w') := fun W h => chk_call co cc io dc go gc ro rc gv W (H6.out.1.later h)
  have CS : Hid (∀ W, Below W6.heap.size W6 W → Calls Tryz.prog 36 #[.agg #[.int .i64 2, .slice co 2 cc, .slice io 2 dc, .slice go 2 gc, .slice ro 2 rc, .bool false], .agg #[.int .i64 2, .slice co 2 cc, .slice io 2 dc, .slice go 2 gc, .slice ro 2 rc, .bool false]] W fun e w' => e = .returned (.bool true) ∧ Below W.heap.size W w') := fun W h => sam_call co cc io dc go gc ro rc gv W (H6.out.1.later h)
  have CN : Hid (∀ W, Below W6.heap.size W6 W → Calls Tryz.prog 36 #[.agg #[.int .i64 2, .slice co 2 cc, .slice io 2 dc, .slice go 2 gc, .slice ro 2 rc, .bool false], .agg #[.int .i64 yN, .slice yco ycn ycc, .slice yio 3 ydc, .slice ygo ygn ygc, .slice yro yrn yrc, .bool ybad]] W fun e w' => e = .returned (.bool false) ∧ Below W.heap.size W w') := fun W h => sam_no co cc io dc go gc ro rc gv ⟨yN, yco, ycn, ycc, yio, 3, ydc, ygo, ygn, ygc, yro, yrn, yrc, ybad, ycs, [0, 3, 4], ygv, ygs, yrs⟩ rfl W (H6.out.1.later h) (H6.out.2.2.2.1.later h)
  obtain ⟨z0, z1, z2, z3, z4, z5⟩ := cells6 e6
  have hzi := H6.out.2.2.2.1.i
  dsimp only at hzi
  rcases hzi.cells with h0 | ⟨ib, ioff, hio, hic⟩
  · cases h0
  have i2 := hic 2 (by decide)
  subst hio
  clear hzi hic q6 q46 hb5 hB5 HG4 H4 HLc hy e6 b6 hW6 z0 z1 z3 z4 z5
  have hq1 : ∀ W, (Op.equalIn 9999 38 (.float .f64 13830554455654793216) (.float .f64 13830554455654793216)).run Tryz.prog W = .ok true W := eqF_lo
  have hq2 : ∀ W, (Op.equalIn 9999 38 (.float .f64 4613937818241073152) (.float .f64 4613937818241073152)).run Tryz.prog W = .ok true W := eqF_hi
  go_wp2_with (first
    | (go_at_call_of 35 (Value.agg #[.int .i64 2, .slice co 2 cc, .slice io 2 dc, .slice go 2 gc, .slice ro 2 rc, .bool false]); refine Calls.mono (CK.out _ (Below.refl _ _)) ?_; rintro e w7 ⟨rfl, hb7⟩)
    | (go_at_call_of 35 (Value.agg #[.int .i64 2, .slice none 0 0, .slice none 0 0, .slice none 0 0, .slice none 0 0, .bool false]); refine Calls.mono (chk_two _) ?_; rintro e w9 ⟨rfl, hb9⟩; have q9 : Hid (Below W6.heap.size W6 w9) := to_call hb7 hb9; clear hb7 hb9)
    | (go_at_call_of 34 (Value.int .i64 0); refine Calls.mono (num_any10 0 (by decide) _) ?_; rintro e w8 ⟨rfl, hw8⟩; rw [hw8]; clear hw8)
    | (go_at_call_of 34 (Value.int .i64 100); refine Calls.mono (num_any10 100 (by decide) _) ?_; rintro e w8 ⟨rfl, hw8⟩; rw [hw8]; clear hw8)
    | (go_at_call_of 36 (Value.agg #[.int .i64 yN, .slice yco ycn ycc, .slice (some ⟨ib, ioff, none⟩) 3 ydc, .slice ygo ygn ygc, .slice yro yrn yrc, .bool ybad]); refine Calls.mono (CN.out _ qa.out) ?_; rintro e wb ⟨rfl, hbb⟩; have qb : Hid (Below W6.heap.size W6 wb) := to_call qa.out hbb; clear hbb)
    | (go_at_call_of 36 (Value.agg #[.int .i64 2, .slice co 2 cc, .slice io 2 dc, .slice go 2 gc, .slice ro 2 rc, .bool false]); refine Calls.mono (CS.out _ q9.out) ?_; rintro e wa ⟨rfl, hba⟩; have qa : Hid (Below W6.heap.size W6 wa) := to_call q9.out hba; clear hba)
    | (refine wpList_load_rowG (by rfl) 26 _ (by rfl) B5 _ (by rfl) (kept qa.out H6.out.2.2.2.2) _ Tryz.underlying26 rfl 6 Tryz.infoZ (by rfl) ?_)
    | (refine wpList_load_rowG (by rfl) 26 _ (by rfl) B1 _ (by rfl) (kept qa.out H6.out.2.1) _ Tryz.underlying26 rfl 6 Tryz.infoZ (by rfl) ?_)
    | (refine wpList_load_rowG (by rfl) 26 _ (by rfl) B1 _ (by rfl) (kept q9.out H6.out.2.1) _ Tryz.underlying26 rfl 6 Tryz.infoZ (by rfl) ?_)
    | (refine wpList_load_rowG (by rfl) 26 _ (by rfl) B1 _ (by rfl) H6.out.2.1 _ Tryz.underlying26 rfl 6 Tryz.infoZ (by rfl) ?_))
  go_ret
  exact ⟨rfl, to_call H6.out.2.2.1 qb.out⟩
end Go.Proofs.YtfepcpkfbnpbjaaGreat

namespace Go.Proofs.YtfepcpkfbnpbjaaGreat
open Go.RowKit Go.Shelf
set_option linter.unusedVariables false
set_option linter.unusedSimpArgs false

/-- append(s, x...) onto a row in a block of its own, elements of any size: where the answer lies. -/
theorem append_gsJ {SE E : TypeId} {z : Value} {size bytes : Nat} (hu : Tryz.prog.underlying SE = some (.slice E)) (hinfo : (Tryz.prog.info? E).map (fun i => (i.zero, i.size, i.bytes)) = some (some z, size, bytes)) (hzc : z.cells.size = size) (hsz : 0 < size) (hby : bytes ≤ 64)
    {ops : Array Oper} {rest : List Oper} {o : Oper} {a : Act} {Q : Exit → Act → World → Prop} (W : World) (hgd : o.guard = none) (s x : Operand) (ho : o.op = .call { callee := .builtin .append, args := #[s, x], argTypes := #[SE, SE] })
    (base : Nat) (v : Value) (n : Nat) (xs : List Value) (hs : a.eval s = v) (hown : W.ownsRow base E size v n xs)
    (ad : Addr) (m c : Nat) (news : List Value) (hx : a.eval x = .slice (some ad) m c) (hl : news.length = m * size) (hnews : ∀ j u, news[j]? = some u → W.cell? (ad.add j) = some u) (h1 : ∀ u ∈ news, u.oneCell' = true)
    (hlen : n + m ≤ 4000000) (hbase : base ≤ W.heap.size)
    (h : ∀ v' w', w'.ownsRow base E size v' (n + m) (xs ++ news) → Grw W w' v.ownBlock v'.ownBlock → wpList Tryz.prog ops Q rest (a.put o.dst v') w') : wpList Tryz.prog ops Q (o :: rest) a W := by
  obtain ⟨i0, hi, hz0, hz1, hz2⟩ := info3' hinfo
  have hb2 : (n + m) * bytes ≤ 140737488355328 := Nat.le_trans (Nat.mul_le_mul hlen hby) (by decide)
  have grow : ∀ (w' : World) (v' : Value), w'.ownsRow W.heap.size E size v' (n + m) (xs ++ news) → W.grownBy w' none → wpList Tryz.prog ops Q rest (a.put o.dst v') w' := by
    intro w' v' g1 g2
    exact h v' w' (owns_monoJ g1 hbase) ⟨⟨g2.os, g2.tape, g2.output, g2.size, fun k hk _ => g2.block k hk (by simp)⟩, .inr fun k hk => (World.ownsRow.lt g1 k hk).1⟩
  rcases hown.2 with ⟨rfl, h0⟩ | ⟨g, cap, cur, hv, hg, hh, k1, k2, k3, k4⟩
  · subst h0
    have hx0 : xs = [] := List.eq_nil_of_length_eq_zero (by simpa using hown.1)
    subst hx0
    by_cases hm : m = 0
    · subst hm
      have hn0 : news = [] := List.eq_nil_of_length_eq_zero (by simpa using hl)
      subst hn0
      refine wpList_append_own W hgd s x SE ho base E i0 z size bytes hu hi hz0 hz1 hz2 hzc hsz (.slice none 0 0) 0 [] hs hown ad 0 c [] hx (by simp) hnews h1 (by simp [maxLen]) (by simp) hbase ?_
      intro v' w' r1 r2 r3
      obtain rfl := r3.2 ⟨rfl, rfl⟩
      exact h _ w' r1 ⟨r2, .inl rfl⟩
    · refine wpList_append_grows W hgd s x SE ho E i0 z size bytes hu hi hz0 hz1 hz2 hzc hsz none 0 0 [] hs (fun _ => ⟨rfl, rfl⟩) (by simp) (fun b hb => by cases hb) ad m c news hx hl hnews h1 (by omega) (by simp only [maxLen]; omega) hb2 ?_
      intro v' w' r1 r2
      exact grow w' v' r1 r2
  · by_cases hr : n + m ≤ cap
    · subst hv
      refine wpList_append_fits W hgd s x SE ho base E i0 size hu hi hz1 g n cap xs hs hown ad m c news hx hl hnews h1 hr ?_
      intro w' r1 r2
      exact h _ w' r1 ⟨r2, .inl rfl⟩
    · refine wpList_append_grows W hgd s x SE ho E i0 z size bytes hu hi hz0 hz1 hz2 hzc hsz (some ⟨g, 0, none⟩) n cap xs (by rw [hs, hv]) (fun c => by cases c) hown.1 ?_ ad m c news hx hl hnews h1 (by omega) (by simp only [maxLen]; omega) hb2 ?_
      · intro b hb j u hj
        cases hb
        exact World.ownsRow.cells hown (by rw [hv]; rfl) j u hj
      · intro v' w' r1 r2
        exact grow w' v' r1 r2
/-- append(s, x...), x a slice that came in, nil perhaps. -/
theorem append_gnJ {SE E : TypeId} {z : Value} {size bytes : Nat} (hu : Tryz.prog.underlying SE = some (.slice E)) (hinfo : (Tryz.prog.info? E).map (fun i => (i.zero, i.size, i.bytes)) = some (some z, size, bytes)) (hzc : z.cells.size = size) (hsz : 0 < size) (hby : bytes ≤ 64)
    {ops : Array Oper} {rest : List Oper} {o : Oper} {a : Act} {Q : Exit → Act → World → Prop} (W : World) (hgd : o.guard = none) (s x : Operand) (ho : o.op = .call { callee := .builtin .append, args := #[s, x], argTypes := #[SE, SE] })
    (base : Nat) (v : Value) (n : Nat) (xs : List Value) (hs : a.eval s = v) (hown : W.ownsRow base E size v n xs)
    (xo : Option Addr) (m c : Nat) (news : List Value) (hx : a.eval x = .slice xo m c) (hnone : xo = none → m = 0 ∧ c = 0) (hl : news.length = m * size) (hnews : ∀ ad, xo = some ad → ∀ j u, news[j]? = some u → W.cell? (ad.add j) = some u) (h1 : ∀ u ∈ news, u.oneCell' = true)
    (hlen : n + m ≤ 4000000) (hbase : base ≤ W.heap.size)
    (h : ∀ v' w', w'.ownsRow base E size v' (n + m) (xs ++ news) → Grw W w' v.ownBlock v'.ownBlock → wpList Tryz.prog ops Q rest (a.put o.dst v') w') : wpList Tryz.prog ops Q (o :: rest) a W := by
  cases xo with
  | some ad => exact append_gsJ hu hinfo hzc hsz hby W hgd s x ho base v n xs hs hown ad m c news hx hl (hnews ad rfl) h1 hlen hbase h
  | none =>
    obtain ⟨rfl, rfl⟩ := hnone rfl
    obtain ⟨i0, hi, hz0, hz1, hz2⟩ := info3' hinfo
    have hn0 : news = [] := List.eq_nil_of_length_eq_zero (by simpa using hl)
    subst hn0
    refine wpList_append_own_none hgd s x SE ho base E i0 size hu hi v n xs hs hown hx (h v W (by rw [List.append_nil]; exact hown) ⟨⟨rfl, rfl, rfl, Nat.le_refl _, fun _ _ _ => rfl⟩, .inl rfl⟩)
def mkF (i : Nat) : Nat := 4651136495631990784 + i * 8796093022208
/-- A list of numbers in a block of its own, five marks behind it. -/
structure WdB (w : World) (base g cap : Nat) (us : List Nat) : Prop where
  lo : base ≤ g
  room : us.length + 5 ≤ cap
  max : cap ≤ maxLen
  lt : ∀ u ∈ us, u < 18446744073709551616
  cur : ∃ cur, w.heap[g]? = some (.cells cur 38) ∧ (∀ j, j < us.length → cur[j]? = some (.float .f64 (us[j]?.getD 0))) ∧ ∀ i, i < 5 → cur[us.length + i]? = some (.float .f64 (mkF i))
def flJ (us : List Nat) : List Value := us.map (Value.float .f64)
def mksJ (i : Nat) : List Nat := (List.range i).map mkF
end Go.Proofs.YtfepcpkfbnpbjaaGreat


namespace Go.Proofs.YtfepcpkfbnpbjaaGreat
open Go.RowKit Go.Shelf
set_option linter.unusedVariables false
set_option linter.unusedSimpArgs false

end Go.Proofs.YtfepcpkfbnpbjaaGreat

