import Derived.Test.YtjeghdmclmelfaaGreatJZf
import Derived.Test.YtjeghdmclmelfaaGreatGJd
import Derived.Test.YtjeghdmclmelfaaGreatJS
import Derived.Laws.AppendOwnNone
namespace Go.Proofs.YtjeghdmclmelfaaGreat
open Go.RowKit Go.Shelf
set_option linter.unusedVariables false
set_option linter.unusedSimpArgs false
def firZ (co : Option Addr) (cc : Nat) (io : Option Addr) (dc : Nat) (go : Option Addr) (gc : Nat) (ro : Option Addr) (rc : Nat) (gv : Nat → Option Addr × Nat × Nat) : ZD :=
 ⟨2, co, 2, cc, io, 2, dc, go, 2, gc, ro, 2, rc, false, [4607182418800017408, 4611686018427387904], [0, 3], gv, [[4607182418800017408, 0], [4607182418800017408, 13830554455654793216]], [0, 4602678819172646912]⟩
theorem first_fir (w : World) : Calls Tryz.prog 53 #[] w fun e w' => ∃ co cc io dc go gc ro rc gv, e = .returned (.agg (zRow (firZ co cc io dc go gc ro rc gv))) ∧ ZR w' (firZ co cc io dc go gc ro rc gv) ∧ Below w.heap.size w w' := by
 refine Calls.mono (first_any w) ?_
 rintro e w' ⟨z, rfl, hz, h1, h2, h3, h4, h5, h6, h7, h8, h9, h10, hb⟩
 obtain ⟨N, co, cn, cc, io, dn, dc, go, gn, gc, ro, rn, rc, bad, cs, ids, gv, gs, rs⟩ := z
 dsimp only at h1 h2 h3 h4 h5 h6 h7 h8 h9 h10
 subst h1 h2 h3 h4 h5 h6 h7 h8 h9 h10
 exact ⟨co, cc, io, dc, go, gc, ro, rc, gv, rfl, hz, hb⟩
section
variable (co : Option Addr) (cc : Nat) (io : Option Addr) (dc : Nat) (go : Option Addr) (gc : Nat) (ro : Option Addr) (rc : Nat) (gv : Nat → Option Addr × Nat × Nat)
theorem fir_check : checkB (firZ co cc io dc go gc ro rc gv) = true := by kernel_rfl
theorem fir_tk : tkZ (firZ co cc io dc go gc ro rc gv) = firZ co cc io dc go gc ro rc gv := by unfold tkZ; rw [fir_check, if_pos rfl]
theorem fir_num : numN [4607182418800017408, 4607182418800017408] (firZ co cc io dc go gc ro rc gv).N = true := by kernel_rfl
theorem fir_sup : supO (firZ co cc io dc go gc ro rc gv) [4607182418800017408, 4607182418800017408] = some (fval 4616752568008179712 * ((2 ^ 1166 : Nat) : Int)) := of_decide_eq_true (by kernel_rfl)
theorem fir_lo : joinO (one1 4607182418800017408) (farZ (firZ co cc io dc go gc ro rc gv) 0) true = some (fval 13830554455654793216 * ((2 ^ 1166 : Nat) : Int)) := of_decide_eq_true (by kernel_rfl)
theorem fir_hi : joinO (one1 4607182418800017408) (farZ (firZ co cc io dc go gc ro rc gv) 0) false = some (fval 4613937818241073152 * ((2 ^ 1166 : Nat) : Int)) := of_decide_eq_true (by kernel_rfl)
theorem fir_may : mayB (firZ co cc io dc go gc ro rc gv) 4 = true := by kernel_rfl
theorem fir_lf : lfS 2 ([0, 4602678819172646912].map plainM) 4 2 = ([4], [[0, 4602678819172646912]], 5) := by kernel_rfl
theorem fir_same : sameZ (firZ co cc io dc go gc ro rc gv) (firZ co cc io dc go gc ro rc gv) = true := by kernel_rfl
end
theorem two_check : checkB ⟨2, none, 0, 0, none, 0, 0, none, 0, 0, none, 0, 0, false, [], [], fun _ => (none, 0, 0), [], []⟩ = false := by kernel_rfl
theorem rnd_exJ {d : Int} {r u : Nat} {b : Bool} {o : Option Int} (hr : r < 18446744073709551616) (hf : Fin r) (hd : d = 0 ∨ d = 1 ∨ d = 2) (ho : o = some (fval r * ((2 ^ 1166 : Nat) : Int))) (h : RndO d o u b) : u = plainM r ∧ b = true := by
 subst ho
 have h1 := canon_rnd hr hf (Nat.two_pow_pos 1166) hd (h 1166 rfl)
 cases h1
 exact ⟨rfl, rfl⟩
theorem mkS_fir : (if (true && true) = true then makeS (plainM 13830554455654793216) (plainM 4613937818241073152) else (0, 0, true)) = (13830554455654793216, 4613937818241073152, false) := by kernel_rfl
set_option maxRecDepth 100000 in
theorem aro_fir (co : Option Addr) (cc : Nat) (io : Option Addr) (dc : Nat) (go : Option Addr) (gc : Nat) (ro : Option Addr) (rc : Nat) (gv : Nat → Option Addr × Nat × Nat) {r : Nat × Nat × Bool} (h : AroR 4607182418800017408 (farZ (firZ co cc io dc go gc ro rc gv) 0) r) : r = (13830554455654793216, 4613937818241073152, false) := by
 obtain ⟨lo, low, hi, high, h1, h2, rfl⟩ := h
 have e1 := fir_lo co cc io dc go gc ro rc gv
 have e2 := fir_hi co cc io dc go gc ro rc gv
 generalize joinO (one1 4607182418800017408) (farZ (firZ co cc io dc go gc ro rc gv) 0) true = o1 at h1 e1
 generalize joinO (one1 4607182418800017408) (farZ (firZ co cc io dc go gc ro rc gv) 0) false = o2 at h2 e2
 obtain ⟨rfl, rfl⟩ := rnd_exJ (d := 2) (r := 13830554455654793216) (by decide) (by decide) (by decide) e1 h1
 obtain ⟨rfl, rfl⟩ := rnd_exJ (d := 1) (r := 4613937818241073152) (by decide) (by decide) (by decide) e2 h2
 exact mkS_fir
set_option maxRecDepth 100000 in
theorem sup_fir (co : Option Addr) (cc : Nat) (io : Option Addr) (dc : Nat) (go : Option Addr) (gc : Nat) (ro : Option Addr) (rc : Nat) (gv : Nat → Option Addr × Nat × Nat) {u : Nat} {b : Bool} (h : RndO 1 (supO (firZ co cc io dc go gc ro rc gv) [4607182418800017408, 4607182418800017408]) u b) : u = 4616752568008179712 ∧ b = true := by
 have e1 := fir_sup co cc io dc go gc ro rc gv
 generalize supO (firZ co cc io dc go gc ro rc gv) [4607182418800017408, 4607182418800017408] = o1 at h e1
 obtain ⟨rfl, rfl⟩ := rnd_exJ (d := 1) (r := 4616752568008179712) (by decide) (by decide) (by decide) e1 h
 exact ⟨by kernel_rfl, rfl⟩
end Go.Proofs.YtjeghdmclmelfaaGreat
namespace Go.Proofs.YtjeghdmclmelfaaGreat
open Go.RowKit Go.Shelf
set_option linter.unusedVariables false
set_option linter.unusedSimpArgs false
section
variable (co : Option Addr) (cc : Nat) (io : Option Addr) (dc : Nat) (go : Option Addr) (gc : Nat) (ro : Option Addr) (rc : Nat) (gv : Nat → Option Addr × Nat × Nat)
theorem sup_call (dO : Option Addr) (dcap : Nat) (W : World) (hz : ZR W (firZ co cc io dc go gc ro rc gv)) (hd : RdF W dO 2 dcap [4607182418800017408, 4607182418800017408]) :
  Calls Tryz.prog 8 #[.agg #[.int .i64 2, .slice co 2 cc, .slice io 2 dc, .slice go 2 gc, .slice ro 2 rc, .bool false], .slice dO 2 dcap] W fun e w' => e = .returned (.tuple #[.float .f64 4616752568008179712, .bool true]) ∧ Below W.heap.size W w' := by
 refine Calls.mono (support_ok (firZ co cc io dc go gc ro rc gv) dO 2 dcap _ W hz hd (fir_check ..) rfl (fir_num ..) ⟨rfl, rfl, rfl, fun k hk => ?_⟩) ?_
 ·match k, hk with
  | 0, _ => rfl
  | 1, _ => rfl
 ·rintro e w' ⟨⟨u, b, rfl, h⟩, hb⟩
  obtain ⟨rfl, rfl⟩ := sup_fir _ _ _ _ _ _ _ _ _ h
  exact ⟨rfl, hb⟩
theorem bnd_call (W : World) (hz : ZR W (firZ co cc io dc go gc ro rc gv)) :
  Calls Tryz.prog 14 #[.agg #[.int .i64 2, .slice co 2 cc, .slice io 2 dc, .slice go 2 gc, .slice ro 2 rc, .bool false]] W fun e w' => ∃ g, e = .returned (.slice (some ⟨g, 0, none⟩) 2 2) ∧ w'.cell? ⟨g, 0, none⟩ = some (.float .f64 13830554455654793216) ∧ w'.cell? ⟨g, 1, none⟩ = some (.float .f64 4613937818241073152) ∧ w'.cell? ⟨g, 2, none⟩ = some (.bool false) ∧ Below W.heap.size W w' := by
 refine Calls.mono (bounds_ok (firZ co cc io dc go gc ro rc gv) W hz (fir_check ..) rfl rfl (show 2 ≤ 100000 by decide) (Nat.le_refl _) rfl (fun k hk => ?_)) ?_
 ·match k, hk with
  | 0, _ => rfl
  | 1, _ => rfl
 ·rintro e w' ⟨⟨g, rfl, hg, h⟩, hb⟩
  obtain ⟨arr, h1, h2, h3⟩ := h.ex
  obtain ⟨r, hr, a0, a1, a2⟩ := h3 0 (show 0 < 2 by decide)
  have e := aro_fir co cc io dc go gc ro rc gv hr
  subst e
  exact ⟨g, rfl, cellAtJ h1 0 _ a0, cellAtJ h1 1 _ a1, cellAtJ h1 2 _ a2, hb⟩
theorem lft_call (W : World) (hz : ZR W (firZ co cc io dc go gc ro rc gv)) :
  Calls Tryz.prog 6 #[.agg #[.int .i64 2, .slice co 2 cc, .slice io 2 dc, .slice go 2 gc, .slice ro 2 rc, .bool false], .int .i64 4] W fun e w' => ∃ y : ZD, e = .returned (.tuple #[.agg (zRow y), .int .i64 5]) ∧ ZR w' y ∧ y.dn = 3 ∧ y.ids = [0, 3, 4] ∧ Below W.heap.size W w' := by
 refine Calls.mono (lift_ok (firZ co cc io dc go gc ro rc gv) 4 W hz ?_ ?_ ?_ ?_ ?_ ?_ ?_ (by decide) ?_) ?_
 ·rw [fir_tk]; rfl
 ·rw [fir_tk]; rfl
 ·rw [fir_tk]; rfl
 ·rw [fir_tk]; rfl
 ·rw [fir_tk]; exact (show 2 ≤ 100000 by decide)
 ·rw [fir_tk]; exact (show 2 ≤ 2000000 by decide)
 ·rw [fir_tk]
  intro k hk
  match k, hk with
  | 0, _ => rfl
  | 1, _ => rfl
 ·rw [fir_tk]; exact fir_may ..
 ·rintro e w' ⟨bc, br, vi, vg, gl, rfl, h, hb⟩
  rw [fir_tk] at h ⊢
  have e5 := fir_lf
  dsimp only [firZ] at h ⊢
  rw [e5] at h
  obtain ⟨y, hy, h1, h2, h3, h4, h5, h6, h7, h8, h9, h10, h11⟩ := h.zr 2 false
  refine ⟨y, ?_, h1, h10, h6, hb⟩
  rw [← hy]
  rw [e5]
theorem chk_call (W : World) (hz : ZR W (firZ co cc io dc go gc ro rc gv)) :
  Calls Tryz.prog 55 #[.agg #[.int .i64 2, .slice co 2 cc, .slice io 2 dc, .slice go 2 gc, .slice ro 2 rc, .bool false]] W fun e w' => e = .returned (.int .i64 0) ∧ Below W.heap.size W w' := by
 have h := check_any (firZ co cc io dc go gc ro rc gv) W hz
 rw [fir_check] at h
 exact h
theorem sam_call (W : World) (hz : ZR W (firZ co cc io dc go gc ro rc gv)) :
  Calls Tryz.prog 56 #[.agg #[.int .i64 2, .slice co 2 cc, .slice io 2 dc, .slice go 2 gc, .slice ro 2 rc, .bool false], .agg #[.int .i64 2, .slice co 2 cc, .slice io 2 dc, .slice go 2 gc, .slice ro 2 rc, .bool false]] W fun e w' => e = .returned (.bool true) ∧ Below W.heap.size W w' := by
 have h := same_anyJ (firZ co cc io dc go gc ro rc gv) (firZ co cc io dc go gc ro rc gv) W hz hz
 rw [fir_tk, fir_same] at h
 exact h
theorem sam_no (y : ZD) (hi : y.ids = [0, 3, 4]) (W : World) (hz : ZR W (firZ co cc io dc go gc ro rc gv)) (hy : ZR W y) :
  Calls Tryz.prog 56 #[.agg #[.int .i64 2, .slice co 2 cc, .slice io 2 dc, .slice go 2 gc, .slice ro 2 rc, .bool false], .agg #[.int .i64 y.N, .slice y.co y.cn y.cc, .slice y.io y.dn y.dc, .slice y.go y.gn y.gc, .slice y.ro y.rn y.rc, .bool y.bad]] W fun e w' => e = .returned (.bool false) ∧ Below W.heap.size W w' := by
 have h := same_anyJ (firZ co cc io dc go gc ro rc gv) y W hz hy
 have hf : sameZ (firZ co cc io dc go gc ro rc gv) (tkZ y) = false := by
  unfold tkZ
  split
  ·unfold sameZ
   have : decide ((firZ co cc io dc go gc ro rc gv).ids = y.ids) = false := by rw [hi]; rfl
   rw [this]
   simp
  ·kernel_rfl
 rw [fir_tk, hf] at h
 exact h
end
theorem chk_two (W : World) : Calls Tryz.prog 55 #[.agg #[.int .i64 2, .slice none 0 0, .slice none 0 0, .slice none 0 0, .slice none 0 0, .bool false]] W fun e w' => e = .returned (.int .i64 100) ∧ Below W.heap.size W w' := by
 have h := check_any ⟨2, none, 0, 0, none, 0, 0, none, 0, 0, none, 0, 0, false, [], [], fun _ => (none, 0, 0), [], []⟩ W ⟨⟨rfl, Nat.zero_le _, fun u hu => (by cases hu), .inl rfl⟩, ⟨rfl, Nat.zero_le _, .inl rfl⟩, ⟨rfl, Nat.zero_le _, .inl rfl, fun j hj => absurd hj (Nat.not_lt_zero _)⟩, ⟨rfl, Nat.zero_le _, fun u hu => (by cases hu), .inl rfl⟩⟩
 rw [two_check] at h
 exact h
end Go.Proofs.YtjeghdmclmelfaaGreat
namespace Go.Proofs.YtjeghdmclmelfaaGreat
open Go.RowKit Go.Shelf
set_option linter.unusedVariables false
set_option linter.unusedSimpArgs false
theorem eqF_lo (W : World) : (Op.equalIn 9999 37 (.float .f64 13830554455654793216) (.float .f64 13830554455654793216)).run Tryz.prog W = .ok true W := by kernel_rfl
theorem eqF_hi (W : World) : (Op.equalIn 9999 37 (.float .f64 4613937818241073152) (.float .f64 4613937818241073152)).run Tryz.prog W = .ok true W := by kernel_rfl
set_option maxRecDepth 100000 in
set_option maxHeartbeats 4000000 in
theorem started_any (w : World) : Calls Tryz.prog 19 #[] w fun e w' => e = .returned (.bool true) ∧ Below w.heap.size w w' := by
 have HF1 : Hid _ := first_fir w
 go_enter Tryz.func19, Tryz.ntmps19
 go_upto_region 2 with (first
  | (go_at_call 53; refine Calls.mono HF1.out ?_; rintro e w1 ⟨co, cc, io, dc, go, gc, ro, rc, gv, rfl, hz, hb1⟩)
  | (refine wpList_store_row (by rfl) 26 _ _ (by rfl) w w.heap.size w1.heap.size #[.int .i64 2, .slice co 2 cc, .slice io 2 dc, .slice go 2 gc, .slice ro 2 rc, .bool false] _ (by rfl) (by rfl) (heap_alloc_new w1 _) (hb1.alloc hb1.size _) hb1.size 6 Tryz.infoZ (by rfl) (by rfl) (oneZ _ _ _ _ _ rfl rfl rfl rfl _) ?_; intro W2 e2 b2 s2 o2))
 have hz2 : ZR W2 (firZ co cc io dc go gc ro rc gv) := hz.later ⟨b2.os.trans hb1.os.symm, b2.tape.trans hb1.tape.symm, b2.output.trans hb1.output.symm, by rw [s2]; simp, fun k hk => (o2 k (Nat.ne_of_lt hk)).trans (Below.heap_alloc w1 _ k hk)⟩
 obtain ⟨B1, hB1⟩ : ∃ B1, w1.heap.size = B1 := ⟨_, rfl⟩
 have hB1w : w.heap.size ≤ B1 := hB1 ▸ hb1.size
 rw [hB1] at e2 ⊢
 have H2 : Hid (ZR W2 (firZ co cc io dc go gc ro rc gv) ∧ W2.heap[B1]? = some (.cells #[.int .i64 2, .slice co 2 cc, .slice io 2 dc, .slice go 2 gc, .slice ro 2 rc, .bool false] 26) ∧ Below w.heap.size w W2) := ⟨hz2, e2, b2⟩
 clear hz2 e2 b2 o2 s2 hz hb1 hB1 HF1
 have X2 : Below W2.heap.size W2 (W2.alloc (.cells #[.float .f64 4607182418800017408, .float .f64 4607182418800017408] 37)) := (Below.refl _ W2).alloc (Nat.le_refl _) _
 have HSc : Hid _ := sup_call co cc io dc go gc ro rc gv (some ⟨W2.heap.size, 0, none⟩) 2 _ (H2.out.1.later X2) (rdF2 (heap_alloc_new W2 _) (by decide) (by decide))
 go_upto_region 3 with (first
  | (refine wpList_load_row (by rfl) 26 _ (by rfl) B1 _ (by rfl) H2.out.2.1 _ Tryz.underlying26 rfl 6 Tryz.infoZ (by rfl) ?_)
  | (go_at_call 8; refine Calls.mono HSc.out ?_; rintro e w3 ⟨rfl, hb3⟩))
 have q3 := to_call X2 hb3
 have H3 : Hid (ZR w3 (firZ co cc io dc go gc ro rc gv) ∧ w3.heap[B1]? = some (.cells #[.int .i64 2, .slice co 2 cc, .slice io 2 dc, .slice go 2 gc, .slice ro 2 rc, .bool false] 26) ∧ Below w.heap.size w w3) := ⟨H2.out.1.later q3, kept q3 H2.out.2.1, to_call H2.out.2.2 q3⟩
 clear q3 hb3 X2 HSc H2
 have HBc : Hid _ := bnd_call co cc io dc go gc ro rc gv w3 H3.out.1
 go_upto_region 4 with (first
  | (refine wpList_load_row (by rfl) 26 _ (by rfl) B1 _ (by rfl) H3.out.2.1 _ Tryz.underlying26 rfl 6 Tryz.infoZ (by rfl) ?_)
  | (go_at_call 14; refine Calls.mono HBc.out ?_; rintro e w4 ⟨g, rfl, g0, g1, g2, hb4⟩))
 have H4 : Hid (ZR w4 (firZ co cc io dc go gc ro rc gv) ∧ w4.heap[B1]? = some (.cells #[.int .i64 2, .slice co 2 cc, .slice io 2 dc, .slice go 2 gc, .slice ro 2 rc, .bool false] 26) ∧ Below w.heap.size w w4) := ⟨H3.out.1.later hb4, kept hb4 H3.out.2.1, to_call H3.out.2.2 hb4⟩
 have HG4 : Hid _ := And.intro g0 (And.intro g1 g2)
 clear hb4 HBc H3 g0 g1 g2
 have HLc : Hid _ := lft_call co cc io dc go gc ro rc gv w4 H4.out.1
 go_upto_region 5 with (first
  | (refine wpList_load_row (by rfl) 26 _ (by rfl) B1 _ (by rfl) H4.out.2.1 _ Tryz.underlying26 rfl 6 Tryz.infoZ (by rfl) ?_)
  | (go_at_call 6; refine Calls.mono HLc.out ?_; rintro e w5 ⟨⟨yN, yco, ycn, ycc, yio, ydn, ydc, ygo, ygn, ygc, yro, yrn, yrc, ybad, ycs, yids, ygv, ygs, yrs⟩, rfl, hy, hyd, hyi, hb5⟩; (try dsimp only at hyd hyi); subst hyd; subst hyi; unfold zRow; dsimp only))
 have q6 : Below w5.heap.size w5 (w5.alloc (.cells #[.int .i64 yN, .slice yco ycn ycc, .slice yio 3 ydc, .slice ygo ygn ygc, .slice yro yrn yrc, .bool ybad] 26)) := (Below.refl _ w5).alloc (Nat.le_refl _) _
 have e6 : (w5.alloc (.cells #[.int .i64 yN, .slice yco ycn ycc, .slice yio 3 ydc, .slice ygo ygn ygc, .slice yro yrn yrc, .bool ybad] 26)).heap[w5.heap.size]? = some (.cells #[.int .i64 yN, .slice yco ycn ycc, .slice yio 3 ydc, .slice ygo ygn ygc, .slice yro yrn yrc, .bool ybad] 26) := heap_alloc_new w5 _
 obtain ⟨W6, hW6⟩ : ∃ W6, w5.alloc (.cells #[.int .i64 yN, .slice yco ycn ycc, .slice yio 3 ydc, .slice ygo ygn ygc, .slice yro yrn yrc, .bool ybad] 26) = W6 := ⟨_, rfl⟩
 rw [hW6] at q6 e6 ⊢
 have b6 := to_call (to_call H4.out.2.2 hb5) q6
 have q46 := to_call hb5 q6
 obtain ⟨B5, hB5⟩ : ∃ B5, w5.heap.size = B5 := ⟨_, rfl⟩
 rw [hB5] at e6 ⊢
 have H6 : Hid (ZR W6 (firZ co cc io dc go gc ro rc gv) ∧ W6.heap[B1]? = some (.cells #[.int .i64 2, .slice co 2 cc, .slice io 2 dc, .slice go 2 gc, .slice ro 2 rc, .bool false] 26) ∧ Below w.heap.size w W6 ∧ ZR W6 ⟨yN, yco, ycn, ycc, yio, 3, ydc, ygo, ygn, ygc, yro, yrn, yrc, ybad, ycs, [0, 3, 4], ygv, ygs, yrs⟩ ∧ W6.heap[B5]? = some (.cells #[.int .i64 yN, .slice yco ycn ycc, .slice yio 3 ydc, .slice ygo ygn ygc, .slice yro yrn yrc, .bool ybad] 26)) := ⟨H4.out.1.later q46, kept q46 H4.out.2.1, b6, hy.later q6, e6⟩
 have g0 : W6.cell? ⟨g, 0, none⟩ = some (.float .f64 13830554455654793216) := (q46.cell (World.block_lt_of_cell? _ _ HG4.out.1)).trans HG4.out.1
 have g1 : W6.cell? ⟨g, 1, none⟩ = some (.float .f64 4613937818241073152) := (q46.cell (World.block_lt_of_cell? _ _ HG4.out.2.1)).trans HG4.out.2.1
 have g2 : W6.cell? ⟨g, 2, none⟩ = some (.bool false) := (q46.cell (World.block_lt_of_cell? _ _ HG4.out.2.2)).trans HG4.out.2.2
 have CK : Hid (∀ W, Below W6.heap.size W6 W → Calls Tryz.prog 55 #[.agg #[.int .i64 2, .slice co 2 cc, .slice io 2 dc, .slice go 2 gc, .slice ro 2 rc, .bool false]] W fun e w' => e = .returned (.int .i64 0) ∧ Below W.heap.size W w') := fun W h => chk_call co cc io dc go gc ro rc gv W (H6.out.1.later h)
 have CS : Hid (∀ W, Below W6.heap.size W6 W → Calls Tryz.prog 56 #[.agg #[.int .i64 2, .slice co 2 cc, .slice io 2 dc, .slice go 2 gc, .slice ro 2 rc, .bool false], .agg #[.int .i64 2, .slice co 2 cc, .slice io 2 dc, .slice go 2 gc, .slice ro 2 rc, .bool false]] W fun e w' => e = .returned (.bool true) ∧ Below W.heap.size W w') := fun W h => sam_call co cc io dc go gc ro rc gv W (H6.out.1.later h)
 have CN : Hid (∀ W, Below W6.heap.size W6 W → Calls Tryz.prog 56 #[.agg #[.int .i64 2, .slice co 2 cc, .slice io 2 dc, .slice go 2 gc, .slice ro 2 rc, .bool false], .agg #[.int .i64 yN, .slice yco ycn ycc, .slice yio 3 ydc, .slice ygo ygn ygc, .slice yro yrn yrc, .bool ybad]] W fun e w' => e = .returned (.bool false) ∧ Below W.heap.size W w') := fun W h => sam_no co cc io dc go gc ro rc gv ⟨yN, yco, ycn, ycc, yio, 3, ydc, ygo, ygn, ygc, yro, yrn, yrc, ybad, ycs, [0, 3, 4], ygv, ygs, yrs⟩ rfl W (H6.out.1.later h) (H6.out.2.2.2.1.later h)
 obtain ⟨z0, z1, z2, z3, z4, z5⟩ := cells6 e6
 have hzi := H6.out.2.2.2.1.i
 dsimp only at hzi
 rcases hzi.cells with h0 | ⟨ib, ioff, hio, hic⟩
 ·cases h0
 have i2 := hic 2 (by decide)
 subst hio
 clear hzi hic q6 q46 hb5 hB5 HG4 H4 HLc hy e6 b6 hW6 z0 z1 z3 z4 z5
 have hq1 : ∀ W, (Op.equalIn 9999 37 (.float .f64 13830554455654793216) (.float .f64 13830554455654793216)).run Tryz.prog W = .ok true W := eqF_lo
 have hq2 : ∀ W, (Op.equalIn 9999 37 (.float .f64 4613937818241073152) (.float .f64 4613937818241073152)).run Tryz.prog W = .ok true W := eqF_hi
 go_wp2_with (first
  | (go_at_call_of 55 (Value.agg #[.int .i64 2, .slice co 2 cc, .slice io 2 dc, .slice go 2 gc, .slice ro 2 rc, .bool false]); refine Calls.mono (CK.out _ (Below.refl _ _)) ?_; rintro e w7 ⟨rfl, hb7⟩)
  | (go_at_call_of 55 (Value.agg #[.int .i64 2, .slice none 0 0, .slice none 0 0, .slice none 0 0, .slice none 0 0, .bool false]); refine Calls.mono (chk_two _) ?_; rintro e w9 ⟨rfl, hb9⟩; have q9 : Hid (Below W6.heap.size W6 w9) := to_call hb7 hb9; clear hb7 hb9)
  | (go_at_call_of 54 (Value.int .i64 0); refine Calls.mono (num_any10 0 (by decide) _) ?_; rintro e w8 ⟨rfl, hw8⟩; rw [hw8]; clear hw8)
  | (go_at_call_of 54 (Value.int .i64 100); refine Calls.mono (num_any10 100 (by decide) _) ?_; rintro e w8 ⟨rfl, hw8⟩; rw [hw8]; clear hw8)
  | (go_at_call_of 56 (Value.agg #[.int .i64 yN, .slice yco ycn ycc, .slice (some ⟨ib, ioff, none⟩) 3 ydc, .slice ygo ygn ygc, .slice yro yrn yrc, .bool ybad]); refine Calls.mono (CN.out _ qa.out) ?_; rintro e wb ⟨rfl, hbb⟩; have qb : Hid (Below W6.heap.size W6 wb) := to_call qa.out hbb; clear hbb)
  | (go_at_call_of 56 (Value.agg #[.int .i64 2, .slice co 2 cc, .slice io 2 dc, .slice go 2 gc, .slice ro 2 rc, .bool false]); refine Calls.mono (CS.out _ q9.out) ?_; rintro e wa ⟨rfl, hba⟩; have qa : Hid (Below W6.heap.size W6 wa) := to_call q9.out hba; clear hba)
  | (refine wpList_load_rowG (by rfl) 26 _ (by rfl) B5 _ (by rfl) (kept qa.out H6.out.2.2.2.2) _ Tryz.underlying26 rfl 6 Tryz.infoZ (by rfl) ?_)
  | (refine wpList_load_rowG (by rfl) 26 _ (by rfl) B1 _ (by rfl) (kept qa.out H6.out.2.1) _ Tryz.underlying26 rfl 6 Tryz.infoZ (by rfl) ?_)
  | (refine wpList_load_rowG (by rfl) 26 _ (by rfl) B1 _ (by rfl) (kept q9.out H6.out.2.1) _ Tryz.underlying26 rfl 6 Tryz.infoZ (by rfl) ?_)
  | (refine wpList_load_rowG (by rfl) 26 _ (by rfl) B1 _ (by rfl) H6.out.2.1 _ Tryz.underlying26 rfl 6 Tryz.infoZ (by rfl) ?_))
 go_ret
 exact ⟨rfl, to_call H6.out.2.2.1 qb.out⟩
end Go.Proofs.YtjeghdmclmelfaaGreat
namespace Go.Proofs.YtjeghdmclmelfaaGreat
open Go.RowKit Go.Shelf
set_option linter.unusedVariables false
set_option linter.unusedSimpArgs false
theorem append_gsJ {SE E : TypeId} {z : Value} {size bytes : Nat} (hu : Tryz.prog.underlying SE = some (.slice E)) (hinfo : (Tryz.prog.info? E).map (fun i => (i.zero, i.size, i.bytes)) = some (some z, size, bytes)) (hzc : z.cells.size = size) (hsz : 0 < size) (hby : bytes ≤ 64)
  {ops : Array Oper} {rest : List Oper} {o : Oper} {a : Act} {Q : Exit → Act → World → Prop} (W : World) (hgd : o.guard = none) (s x : Operand) (ho : o.op = .call { callee := .builtin .append, args := #[s, x], argTypes := #[SE, SE] })
  (base : Nat) (v : Value) (n : Nat) (xs : List Value) (hs : a.eval s = v) (hown : W.ownsRow base E size v n xs)
  (ad : Addr) (m c : Nat) (news : List Value) (hx : a.eval x = .slice (some ad) m c) (hl : news.length = m * size) (hnews : ∀ j u, news[j]? = some u → W.cell? (ad.add j) = some u) (h1 : ∀ u ∈ news, u.oneCell' = true)
  (hlen : n + m ≤ 4000000) (hbase : base ≤ W.heap.size)
  (h : ∀ v' w', w'.ownsRow base E size v' (n + m) (xs ++ news) → Grw W w' v.ownBlock v'.ownBlock → wpList Tryz.prog ops Q rest (a.put o.dst v') w') : wpList Tryz.prog ops Q (o :: rest) a W := by
 obtain ⟨i0, hi, hz0, hz1, hz2⟩ := info3' hinfo
 have hb2 : (n + m) * bytes ≤ 140737488355328 := Nat.le_trans (Nat.mul_le_mul hlen hby) (by decide)
 have grow : ∀ (w' : World) (v' : Value), w'.ownsRow W.heap.size E size v' (n + m) (xs ++ news) → W.grownBy w' none → wpList Tryz.prog ops Q rest (a.put o.dst v') w' := by
  intro w' v' g1 g2
  exact h v' w' (owns_monoJ g1 hbase) ⟨⟨g2.os, g2.tape, g2.output, g2.size, fun k hk _ => g2.block k hk (by simp)⟩, .inr fun k hk => (World.ownsRow.lt g1 k hk).1⟩
 rcases hown.2 with ⟨rfl, h0⟩ | ⟨g, cap, cur, hv, hg, hh, k1, k2, k3, k4⟩
 ·subst h0
  have hx0 : xs = [] := List.eq_nil_of_length_eq_zero (by simpa using hown.1)
  subst hx0
  by_cases hm : m = 0
  ·subst hm
   have hn0 : news = [] := List.eq_nil_of_length_eq_zero (by simpa using hl)
   subst hn0
   refine wpList_append_own W hgd s x SE ho base E i0 z size bytes hu hi hz0 hz1 hz2 hzc hsz (.slice none 0 0) 0 [] hs hown ad 0 c [] hx (by simp) hnews h1 (by simp [maxLen]) (by simp) hbase ?_
   intro v' w' r1 r2 r3
   obtain rfl := r3.2 ⟨rfl, rfl⟩
   exact h _ w' r1 ⟨r2, .inl rfl⟩
  ·refine wpList_append_grows W hgd s x SE ho E i0 z size bytes hu hi hz0 hz1 hz2 hzc hsz none 0 0 [] hs (fun _ => ⟨rfl, rfl⟩) (by simp) (fun b hb => by cases hb) ad m c news hx hl hnews h1 (by omega) (by simp only [maxLen]; omega) hb2 ?_
   intro v' w' r1 r2
   exact grow w' v' r1 r2
 ·by_cases hr : n + m ≤ cap
  ·subst hv
   refine wpList_append_fits W hgd s x SE ho base E i0 size hu hi hz1 g n cap xs hs hown ad m c news hx hl hnews h1 hr ?_
   intro w' r1 r2
   exact h _ w' r1 ⟨r2, .inl rfl⟩
  ·refine wpList_append_grows W hgd s x SE ho E i0 z size bytes hu hi hz0 hz1 hz2 hzc hsz (some ⟨g, 0, none⟩) n cap xs (by rw [hs, hv]) (fun c => by cases c) hown.1 ?_ ad m c news hx hl hnews h1 (by omega) (by simp only [maxLen]; omega) hb2 ?_
   ·intro b hb j u hj
    cases hb
    exact World.ownsRow.cells hown (by rw [hv]; rfl) j u hj
   ·intro v' w' r1 r2
    exact grow w' v' r1 r2
theorem append_gnJ {SE E : TypeId} {z : Value} {size bytes : Nat} (hu : Tryz.prog.underlying SE = some (.slice E)) (hinfo : (Tryz.prog.info? E).map (fun i => (i.zero, i.size, i.bytes)) = some (some z, size, bytes)) (hzc : z.cells.size = size) (hsz : 0 < size) (hby : bytes ≤ 64)
  {ops : Array Oper} {rest : List Oper} {o : Oper} {a : Act} {Q : Exit → Act → World → Prop} (W : World) (hgd : o.guard = none) (s x : Operand) (ho : o.op = .call { callee := .builtin .append, args := #[s, x], argTypes := #[SE, SE] })
  (base : Nat) (v : Value) (n : Nat) (xs : List Value) (hs : a.eval s = v) (hown : W.ownsRow base E size v n xs)
  (xo : Option Addr) (m c : Nat) (news : List Value) (hx : a.eval x = .slice xo m c) (hnone : xo = none → m = 0 ∧ c = 0) (hl : news.length = m * size) (hnews : ∀ ad, xo = some ad → ∀ j u, news[j]? = some u → W.cell? (ad.add j) = some u) (h1 : ∀ u ∈ news, u.oneCell' = true)
  (hlen : n + m ≤ 4000000) (hbase : base ≤ W.heap.size)
  (h : ∀ v' w', w'.ownsRow base E size v' (n + m) (xs ++ news) → Grw W w' v.ownBlock v'.ownBlock → wpList Tryz.prog ops Q rest (a.put o.dst v') w') : wpList Tryz.prog ops Q (o :: rest) a W := by
 cases xo with
 | some ad => exact append_gsJ hu hinfo hzc hsz hby W hgd s x ho base v n xs hs hown ad m c news hx hl (hnews ad rfl) h1 hlen hbase h
 | none =>
  obtain ⟨rfl, rfl⟩ := hnone rfl
  obtain ⟨i0, hi, hz0, hz1, hz2⟩ := info3' hinfo
  have hn0 : news = [] := List.eq_nil_of_length_eq_zero (by simpa using hl)
  subst hn0
  refine wpList_append_own_none hgd s x SE ho base E i0 size hu hi v n xs hs hown hx (h v W (by rw [List.append_nil]; exact hown) ⟨⟨rfl, rfl, rfl, Nat.le_refl _, fun _ _ _ => rfl⟩, .inl rfl⟩)
def mkF (i : Nat) : Nat := 4651136495631990784 + i * 8796093022208
structure WdB (w : World) (base g cap : Nat) (us : List Nat) : Prop where
 lo : base ≤ g
 room : us.length + 5 ≤ cap
 max : cap ≤ maxLen
 lt : ∀ u ∈ us, u < 18446744073709551616
 cur : ∃ cur, w.heap[g]? = some (.cells cur 37) ∧ (∀ j, j < us.length → cur[j]? = some (.float .f64 (us[j]?.getD 0))) ∧ ∀ i, i < 5 → cur[us.length + i]? = some (.float .f64 (mkF i))
theorem WdB.keep {w w' : World} {base g cap : Nat} {us : List Nat} (h : WdB w base g cap us) (hk : ∀ (k : Nat) (cur : Array Value), w.heap[k]? = some (.cells cur 37) → w'.heap[k]? = w.heap[k]?) : WdB w' base g cap us := by
 obtain ⟨cur, h1, h2⟩ := h.cur
 exact ⟨h.lo, h.room, h.max, h.lt, cur, (hk g cur h1).trans h1, h2⟩
theorem WdB.later {w w' : World} {base g cap : Nat} {us : List Nat} (h : WdB w base g cap us) (hb : Below w.heap.size w w') : WdB w' base g cap us := h.keep fun k cur hc => hb.block k (blk_lt hc)
theorem WdB.mono {w : World} {base base' g cap : Nat} {us : List Nat} (h : WdB w base g cap us) (hb : base' ≤ base) : WdB w base' g cap us := ⟨Nat.le_trans hb h.lo, h.room, h.max, h.lt, h.cur⟩
theorem WdB.rd {w : World} {base g cap : Nat} {us : List Nat} (h : WdB w base g cap us) : RdF w (some ⟨g, 0, none⟩) us.length cap us := by
 obtain ⟨cur, h1, h2, h3⟩ := h.cur
 exact ⟨rfl, by have := h.room; have := h.max; omega, h.lt, .inr ⟨g, 0, rfl, fun j hj => by rw [Nat.zero_add]; exact cellAtJ h1 j _ (h2 j hj)⟩⟩
def flJ (us : List Nat) : List Value := us.map (Value.float .f64)
theorem flJ_len (us : List Nat) : (flJ us).length = us.length := List.length_map _
theorem flJ_one (us : List Nat) : ∀ u ∈ flJ us, u.oneCell' = true := by
 intro u hu
 obtain ⟨x, _, rfl⟩ := List.mem_map.1 hu
 rfl
theorem flJ_app (us vs : List Nat) : flJ (us ++ vs) = flJ us ++ flJ vs := List.map_append
theorem flJ_at (us : List Nat) (j : Nat) (h : j < us.length) : (flJ us)[j]? = some (.float .f64 (us[j]?.getD 0)) := by
 unfold flJ
 rw [List.getElem?_map, List.getElem?_eq_getElem h]
 rfl
theorem rdF_news {w : World} {ao : Option Addr} {len cap : Nat} {us : List Nat} (h : RdF w ao len cap us) : ∀ ad, ao = some ad → ∀ j u, (flJ us)[j]? = some u → w.cell? (ad.add j) = some u := by
 intro ad ha j u hj
 have hl : j < us.length := by have := (List.getElem?_eq_some_iff.1 hj).1; rw [flJ_len] at this; exact this
 rw [flJ_at us j hl] at hj
 cases hj
 have hlen := h.length
 rcases h.cells with h0 | ⟨b, off, he, hc⟩
 ·omega
 ·rw [ha] at he
  cases he
  rw [Addr.add_mid]
  exact hc j (by omega)
def mksJ (i : Nat) : List Nat := (List.range i).map mkF
theorem mksJ_succ (i : Nat) : mksJ (i + 1) = mksJ i ++ [mkF i] := by unfold mksJ; rw [List.range_succ, List.map_append]; rfl
theorem mksJ_len (i : Nat) : (mksJ i).length = i := by unfold mksJ; simp
theorem mksJ_at (i j : Nat) (h : j < i) : (mksJ i)[j]?.getD 0 = mkF j := by unfold mksJ; rw [List.getElem?_map, List.getElem?_range h, Option.map_some, Option.getD_some]
theorem Tryz.infoFJ2 : (Tryz.prog.info? 37).map (fun i => (i.zero, i.size, i.bytes)) = some (some (.float .f64 0), 1, 8) := by kernel_rfl
theorem Tryz.elemFJ : Tryz.prog.elem 22 = 37 := by kernel_rfl
theorem sizeFJ (w : World) : (sizeOf 37).run Tryz.prog w = .ok 1 w := by kernel_rfl
theorem add_zeroJ (b o : Nat) : (⟨b, o, none⟩ : Addr).add (0 * 1) = ⟨b, o, none⟩ := by rw [Addr.add_lit]; simp
theorem cutFJ (b len cap q : Nat) (hq : q ≤ cap) (hc : 0 < cap) (w : World) : (Instr.slice 22 (.slice (some ⟨b, 0, none⟩) len cap) none (some (.int .i64 (q : Int))) none).run Tryz.prog w = .ok (.slice (some ⟨b, 0, none⟩) q cap) w := by
 rw [run_slice_h w _ _ _ _ (by rw [Tryz.elemFJ]; exact Tryz.underlying22) .i64 q (by omega) (by omega), Tryz.elemFJ, sizeFJ]
 simp only [Result.andThen, sliced, if_neg (Nat.ne_of_gt hc), Option.map_some, add_zeroJ]
 simp
theorem WdB.of {w : World} {base c g n : Nat} {us : List Nat} (hu : ∀ u ∈ us, u < 18446744073709551616) (h : w.ownsRow base 37 1 (.slice (some ⟨g, 0, none⟩) n c) n (flJ (us ++ mksJ 5))) : WdB w base g c us ∧ n = us.length + 5 := by
 have hl : n = us.length + 5 := by have := h.1; rw [flJ_len, List.length_append, mksJ_len] at this; omega
 subst hl
 rcases h.2 with ⟨h1, h2⟩ | ⟨g', cap, cur, hv, hg, hh, k1, k2, k3, k4⟩
 ·cases h1
 ·cases hv
  have hat : ∀ j, j < us.length + 5 → cur[j]? = (flJ (us ++ mksJ 5))[j]? := fun j hj => by rw [← k4, List.getElem?_take, if_pos (by omega), Array.getElem?_toList]
  refine ⟨⟨hg, k1, k2, hu, cur, hh, fun j hj => ?_, fun i hi => ?_⟩, rfl⟩
  ·rw [hat j (by omega), flJ_at _ j (by simp; omega), List.getElem?_append_left hj]
  ·rw [hat _ (by omega), flJ_at _ _ (by simp [mksJ_len]; omega), List.getElem?_append_right (by omega)]
   rw [show us.length + i - us.length = i by omega, mksJ_at 5 i hi]
theorem near_mk : ∀ i : _root_.Fin 5, FloatKind.f64.nearest (901 + ((i : Nat) : Int)) = mkF i := by decide +kernel
theorem conv_mk (i : Nat) (h : i < 5) (w : World) : (convert 3 37 (.int .i64 (901 + (i : Int)))).run Tryz.prog w = .ok (.float .f64 (mkF i)) w := by
 rw [← near_mk ⟨i, h⟩]
 kernel_rfl
set_option maxRecDepth 100000 in
set_option maxHeartbeats 2000000 in
theorem wide_any (ao : Option Addr) (len cap : Nat) (us : List Nat) (w : World) (hr : RdF w ao len cap us) (hno : ao = none → len = 0 ∧ cap = 0) (hl : len ≤ 1050000) :
  Calls Tryz.prog 20 #[.slice ao len cap] w fun e w' => ∃ g c, e = .returned (.slice (some ⟨g, 0, none⟩) len c) ∧ WdB w' w.heap.size g c us ∧ Below w.heap.size w w' := by
 have HR : Hid _ := hr
 have HNO : Hid _ := hno
 have hln := hr.length
 have HLN : Hid (us.length = len) := hln
 clear hr hno hln
 go_enter Tryz.func20, Tryz.ntmps20
 go_wp2_with (first
  | (at_builtin; refine append_gnJ Tryz.underlying22 Tryz.infoFJ2 rfl (by decide) (by decide) w (by rfl) _ _ (by rfl) w.heap.size (.slice none 0 0) 0 [] (by rfl) (World.ownsRow_nil _ _ _ _) ao len cap (flJ us) (by rfl) HNO.out (by rw [flJ_len, HLN.out]; omega) (rdF_news HR.out) (flJ_one us) (by omega) (Nat.le_refl _) ?_; intro v1 w1 o1 g1))
 rw [List.nil_append, Nat.zero_add] at o1
 have B1 : Hid (Below w.heap.size w w1) := g1.below (fun k hk => by cases hk) (Nat.le_refl _)
 have O1 : Hid _ := o1
 clear o1 g1
 go_loopg [3, 4] 5 (fun g v u wx => ∃ (i : Nat), u = .int .i64 i ∧ i + g = 5 ∧ Hid (wx.ownsRow w.heap.size 37 1 v (len + i) (flJ (us ++ mksJ i))) ∧ Hid (Below w.heap.size w wx))
 case atStart => exact ⟨0, rfl, by omega, by unfold Hid; rw [show mksJ 0 = [] from rfl, List.append_nil]; exact O1.out, B1⟩
 case round =>
  obtain ⟨i, rfl, hi, HO, HB⟩ := hrel
  clear O1 B1
  have hsr := HB.out.size
  by_cases hlt : i < 5
  ·obtain ⟨g, rfl⟩ : ∃ g, gk = g + 1 := ⟨gk - 1, by omega⟩
   have HIG : Hid _ := hi
   have hd : decide ((i : Int) < 5) = true := decide_eq_true (by omega)
   have h901 : (901 + (i : Int)) % 18446744073709551616 = 901 + (i : Int) := by omega
   have hcv := conv_mk i hlt
   clear hi
   go_wp2_with (first
    | (at_builtin; refine append_gsJ Tryz.underlying22 Tryz.infoFJ2 rfl (by decide) (by decide) _ (by rfl) _ _ (by rfl) w.heap.size _ _ _ (by rfl) (World.ownsRow.alloc HO.out _) ⟨wr.heap.size, 0, none⟩ 1 1 [.float .f64 (mkF i)] (by rfl) rfl (news_oneJ (heap_alloc_new wr _)) (by intro u hu; simp only [List.mem_cons, List.not_mem_nil, or_false] at hu; subst hu; rfl) (by omega) (by simp only [alloc_size]; omega) ?_; intro v5 w5 o5 g5))
   have B5 : Hid (Below w.heap.size w w5) := (HB.out.alloc hsr _).trans (g5.below (fun k hk => (World.ownsRow.lt HO.out k hk).1) (by simp only [alloc_size]; omega))
   have O5 : Hid _ := o5
   clear o5 g5
   go_roundg g
   case measure => omega
   case rel =>
    refine ⟨i + 1, by go_num, by have := HIG.out; omega, ?_, B5⟩
    unfold Hid
    rw [mksJ_succ, ← List.append_assoc, flJ_app]
    exact O5.out
  ·have hd : decide ((i : Int) < 5) = false := decide_eq_false (by omega)
   obtain rfl : i = 5 := by omega
   have ho := HO.out
   rcases ho.2 with ⟨h1, h2⟩ | ⟨g, c, cur, hv, hg, hh, k1, k2, k3, k4⟩
   ·omega
   subst hv
   have HW : Hid _ := (WdB.of HR.out.lt ho).1
   have hcut := cutFJ g (len + 5) c len (by omega) (by omega)
   clear ho hh k3 k4
   go_wp2_with fail
   go_ret
   exact ⟨g, c, rfl, HW.out, HB.out⟩
end Go.Proofs.YtjeghdmclmelfaaGreat
namespace Go.Proofs.YtjeghdmclmelfaaGreat
open Go.RowKit Go.Shelf
set_option linter.unusedVariables false
set_option linter.unusedSimpArgs false
end Go.Proofs.YtjeghdmclmelfaaGreat
