import Derived.Test.YtjeghdmclmelfaaGreatGXa
import Derived.Test.YtjeghdmclmelfaaGreatGJf
import Derived.Test.YtjeghdmclmelfaaGreatJZu
namespace Go.Proofs.YtjeghdmclmelfaaGreat
open Go.RowKit Go.Shelf
set_option linter.unusedVariables false
set_option linter.unusedSimpArgs false
theorem ex_loadRN {P : Program} {ρ : Operand → Value} (o : Oper) (ty : TypeId) (p : Operand) (ho : o.op = .load ty p) (B : Nat) (hp : ρ p = .pointer (some ⟨B, 0, none⟩)) (w : World) (c : Array Value) (h : w.heap[B]? = some (.cells c ty)) (d : TypeDesc) (hu : P.underlying ty = some d) (hd : d.isRow = true) (n : Nat) (hi : (P.info? ty).map (·.size) = some n) (hn : c.size = n) : (execOp ρ o).run P w = .ok (.value (.agg c)) w := by
 have hr : w.rangeAt B 0 c.toList := by
  have := World.rangeAt_of_block h 0 c.size
  simpa using this
 have hl := run_loadVar_mid (P := P) w B 0 ty c.toList d hr hu hd (by rw [hi]; simp [hn])
 have hl2 : (loadVar ty ⟨B, 0, none⟩).run P w = .ok (.agg c) w := by simpa using hl
 unfold execOp
 simp only [ho, hp, Instr.loadAt, Instr.sureAddr, Sem.run_bind, Sem.run_pure, Result.andThen_ok, hl2]
theorem num_cl {w : World} {B : Nat} {n : Bool} {o : Option Addr} {l c : Nat} {e : Int} {t : TypeId} (h : w.heap[B]? = some (.cells #[.bool n, .slice o l c, .int .i64 e] t)) : Cl noU w B := by
 refine ⟨_, _, h, fun i v hv => ?_⟩
 match i, hv with
 | 0, hv => cases hv; rfl
 | 1, hv => cases hv; rfl
 | 2, hv => cases hv; rfl
theorem Tryz.infoN3 : (Tryz.prog.info? 72).map (·.size) = some 3 := by kernel_rfl
theorem oneN (n : Bool) (o : Option Addr) (l c : Nat) (e : Int) : (#[.bool n, .slice o l c, .int .i64 e] : Array Value).all (·.oneCell') = true := by
 simp only [Array.all_eq_true_iff_forall_mem]
 intro v hv
 simp only [List.mem_toArray, List.mem_cons, List.not_mem_nil, or_false] at hv
 rcases hv with rfl | rfl | rfl <;> rfl
structure BxN (w : World) (B s : Nat) (T z : Int) (n : Bool) (o : Option Addr) (l c : Nat) (e : Int) : Prop where
 row : w.heap[B]? = some (.cells #[.bool n, .slice o l c, .int .i64 e] 72)
 num : NumC w (.agg #[.bool n, .slice o l c, .int .i64 e]) s T z
theorem NumC.form {w : World} {v : Value} {s : Nat} {T z : Int} (h : NumC w v s T z) : ∃ n o l c e, v = .agg #[.bool n, .slice o l c, .int .i64 e] := by
 obtain ⟨neg, m, e, ⟨ao, len, cap, xs, h1, _⟩, _⟩ := h
 exact ⟨neg, ao, len, cap, e, h1⟩
theorem NumC.zeroJ (w : World) (s : Nat) (T : Int) (hT : 0 ≤ T) : NumC w (.agg #[.bool false, .slice none 0 0, .int .i64 0]) s T 0 :=
 ⟨false, 0, 0, ⟨none, 0, 0, [], rfl, rd4_none _, .inl rfl, rfl⟩, by omega, by rw [bl_zero]; omega, zv_zero _ _ _, fun _ => rfl⟩
theorem sumG_le {B : List Nat → Nat} {M : Nat} : ∀ (gs : List (List Nat)), (∀ g ∈ gs, B g ≤ M) → sumG B gs ≤ gs.length * M
 | [], _ => by simp [sumG]
 | g :: gs, h => by
  have h1 := sumG_le gs fun x hx => h x (List.mem_cons_of_mem _ hx)
  have h2 := h g List.mem_cons_self
  have h3 : sumG B (g :: gs) = B g + sumG B gs := rfl
  rw [h3, List.length_cons, Nat.succ_mul]
  omega
theorem sumG_take {B : List Nat → Nat} {gs : List (List Nat)} {k : Nat} (h : k < gs.length) : sumG B (gs.take (k + 1)) = sumG B (gs.take k) + B (gs[k]?.getD []) := by
 rw [take_snocG h, sumG_append, sumG_one]
theorem RlS.elem {w : World} {base E : Nat} {cs rs : List Nat} {ids : List Int} {gs : List (List Nat)} {vc vr vi : Value} {a3 : Option Addr} {l3 c3 : Nat} {gl : List Value} (h : RlS w base E cs rs ids gs vc vr vi (.slice a3 l3 c3) gl) {k i n : Nat} (hk : k < gs.length) (hn : (gs[k]?.getD []).length = n) (hi : i < n) :
  ∃ g b cap nb o l c e, a3 = some ⟨g, 0, none⟩ ∧ w.cell? ⟨g, k, none⟩ = some (.slice (some ⟨b, 0, none⟩) n cap) ∧ w.rangeAt b (i * 3) [.bool nb, .slice o l c, .int .i64 e] ∧ NumC w (.agg #[.bool nb, .slice o l c, .int .i64 e]) E 1024 (fval ((gs[k]?.getD [])[i]?.getD 0)) := by
 obtain ⟨ao, cap, h1, h2, h3⟩ := owns_slice h.g
 have hl := h.len
 rcases h3 with h0 | ⟨g, rfl, hc⟩
 ·omega
 have hkl : k < gl.length := by omega
 have hcell := hc k hkl
 rw [List.getElem?_eq_getElem hkl] at hcell
 obtain ⟨b, cap', nb, o, l, c, e, hv, hr, hz⟩ := (h.col k _ (List.getElem?_eq_getElem hkl)).range (k := i) (by rw [hn]; exact hi)
 rw [hv, hn] at hcell
 injection h1 with q1
 exact ⟨g, b, cap', nb, o, l, c, e, q1, hcell, hr, hz⟩
theorem RlS.lenG {w : World} {base E : Nat} {cs rs : List Nat} {ids : List Int} {gs : List (List Nat)} {vc vr vi : Value} {a3 : Option Addr} {l3 c3 : Nat} {gl : List Value} (h : RlS w base E cs rs ids gs vc vr vi (.slice a3 l3 c3) gl) : l3 = gs.length := by
 obtain ⟨ao, cap, h1, h2, h3⟩ := owns_slice h.g
 injection h1 with q1 q2
 rw [q2, h.len]
theorem RowN.lenV {w : World} {base E : Nat} {a : Option Addr} {l c : Nat} {us : List Nat} (h : RowN w base (.slice a l c) E us) : l = us.length := by
 obtain ⟨ao, cap, h1⟩ := h.form
 injection h1
def farV (rs : List Nat) (gs : List (List Nat)) (i : Nat) : Int := fval (rs[i]?.getD 0) + (sumG (fun g => rmag (frung (g[i]?.getD 0))) gs : Nat)
theorem far_bound {rs : List Nat} {gs : List (List Nat)} {i X : Nat} (hX : X = 2134) (hr : Fin (rs[i]?.getD 0)) (hg : ∀ g ∈ gs, Fin (g[i]?.getD 0)) (few : gs.length ≤ 1050000) : (farV rs gs i).natAbs < 2 ^ X := by
 obtain ⟨F, hF⟩ : ∃ F : Nat, F = 2098 := ⟨_, rfl⟩
 have h1 := fval_ltJ hr hF
 rw [← fval_absJ] at h1
 have h2 := sumG_le (B := fun g => rmag (frung (g[i]?.getD 0))) (M := 2 ^ F) gs fun g hgg => Nat.le_of_lt (fval_ltJ (hg g hgg) hF)
 have h3 : gs.length * 2 ^ F ≤ 1050000 * 2 ^ F := Nat.mul_le_mul_right _ few
 have h4 : 2097152 * 2 ^ F ≤ 2 ^ X := by
  rw [show (2097152 : Nat) = 2 ^ 21 by decide, ← Nat.pow_add]
  exact Nat.pow_le_pow_right (by omega) (by omega)
 unfold farV
 generalize 2 ^ F = A at *
 generalize 2 ^ X = Y at *
 generalize gs.length * A = G at *
 omega
set_option maxRecDepth 100000 in
set_option maxHeartbeats 4000000 in
theorem far_any (N : Int) (a1 : Option Addr) (l1 c1 : Nat) (a2 : Option Addr) (l2 c2 : Nat) (a3 : Option Addr) (l3 c3 : Nat) (a4 : Option Addr) (l4 c4 : Nat) (cs rs : List Nat) (ids : List Int) (gs : List (List Nat)) (gl : List Value) (base E n0 i : Nat) (hE : E = 1074) (w : World) (h : RlS w base E cs rs ids gs (.slice a1 l1 c1) (.slice a4 l4 c4) (.slice a2 l2 c2) (.slice a3 l3 c3) gl) (hi : i < n0) (hr : rs.length = n0) (hg : ∀ k, k < gs.length → (gs[k]?.getD []).length = n0) (hfr : Fin (rs[i]?.getD 0)) (hfg : ∀ k : Nat, Fin ((gs[k]?.getD [])[i]?.getD 0)) (few : gs.length ≤ 1050000) (hn : n0 ≤ 256) :
  Calls Tryz.prog 47 #[.agg #[.int .i64 N, .slice a1 l1 c1, .slice a2 l2 c2, .slice a3 l3 c3, .slice a4 l4 c4], .int .i64 (i : Int)] w fun e w' => ∃ v, e = .returned v ∧ NumC w' v E 1060 (farV rs gs i) ∧ Below w.heap.size w w' := by
 have HE : Hid (E = 1074) := hE
 have hl3 := h.lenG
 have hl4 := ((RowN.lenV h.r).trans hr).symm
 subst hl3 hl4
 have HR : Hid (∀ W', Below w.heap.size w W' → RlS W' base E cs rs ids gs (.slice a1 l1 c1) (.slice a4 n0 c4) (.slice a2 l2 c2) (.slice a3 gs.length c3) gl) := fun W' hb => h.later hb
 have HF : Hid (Fin (rs[i]?.getD 0) ∧ (∀ k : Nat, Fin ((gs[k]?.getD [])[i]?.getD 0)) ∧ gs.length ≤ 1050000 ∧ rs.length = n0 ∧ ∀ k, k < gs.length → (gs[k]?.getD []).length = n0) := ⟨hfr, hfg, few, hr, hg⟩
 have hgm : gs.length ≤ 1050000 := few
 clear h hfr hfg few hr hg hE
 have X0 : Below w.heap.size w ((w.alloc (.cells #[.int .i64 N, .slice a1 l1 c1, .slice a2 l2 c2, .slice a3 gs.length c3, .slice a4 n0 c4] 62)).alloc (.cells #[.bool false, .slice none 0 0, .int .i64 0] 72)) := ((Below.refl _ w).alloc (Nat.le_refl _) _).alloc (by simp only [alloc_size]; omega) _
 have Y0 : ((w.alloc (.cells #[.int .i64 N, .slice a1 l1 c1, .slice a2 l2 c2, .slice a3 gs.length c3, .slice a4 n0 c4] 62)).alloc (.cells #[.bool false, .slice none 0 0, .int .i64 0] 72)).heap[w.heap.size]? = some (.cells #[.int .i64 N, .slice a1 l1 c1, .slice a2 l2 c2, .slice a3 gs.length c3, .slice a4 n0 c4] 62) := alloc_kept (heap_alloc_new w _) _
 have Y1 : ((w.alloc (.cells #[.int .i64 N, .slice a1 l1 c1, .slice a2 l2 c2, .slice a3 gs.length c3, .slice a4 n0 c4] 62)).alloc (.cells #[.bool false, .slice none 0 0, .int .i64 0] 72)).heap[w.heap.size + 1]? = some (.cells #[.bool false, .slice none 0 0, .int .i64 0] 72) := heap_at _ _ (w.heap.size + 1) (by simp only [alloc_size])
 go_enter Tryz.func47, Tryz.ntmps47
 go_upto_region 1 with fail
 obtain ⟨X, hX⟩ : ∃ X, ((w.alloc (.cells #[.int .i64 N, .slice a1 l1 c1, .slice a2 l2 c2, .slice a3 gs.length c3, .slice a4 n0 c4] 62)).alloc (.cells #[.bool false, .slice none 0 0, .int .i64 0] 72)) = X := ⟨_, rfl⟩
 have hXs : X.heap.size = w.heap.size + 1 + 1 := by rw [← hX]; simp only [alloc_size]
 rw [hX] at X0 Y0 Y1 ⊢
 clear hX
 obtain ⟨rb, rcap, rn, ro, rl, rc, re, hrv, hrr, hrz⟩ := RowN.range (HR.out X X0).r (k := i) (by rw [HF.out.2.2.2.1]; exact hi)
 rw [HF.out.2.2.2.1] at hrv
 have k4 : X.cell? ⟨w.heap.size, 4, none⟩ = some (.slice a4 n0 c4) := cellAtJ Y0 4 _ rfl
 rw [hrv] at k4
 have P0 : Hid (Below w.heap.size w X ∧ X.heap[w.heap.size]? = some (.cells #[.int .i64 N, .slice a1 l1 c1, .slice a2 l2 c2, .slice a3 gs.length c3, .slice a4 n0 c4] 62) ∧ X.heap[w.heap.size + 1]? = some (.cells #[.bool false, .slice none 0 0, .int .i64 0] 72) ∧ NumC X (.agg #[.bool rn, .slice ro rl rc, .int .i64 re]) E 1024 (fval (rs[i]?.getD 0)) ∧ X.heap.size = w.heap.size + 1 + 1) := ⟨X0, Y0, Y1, hrz, hXs⟩
 have hi' : (i : Int) < (n0 : Int) := by omega
 clear X0 Y0 Y1 hrz hXs hrv
 go_upto_region 2 with (refine wpList_load_mid (by rfl) 72 _ (by rfl) rb (i * 3) (by rfl) #[.bool rn, .slice ro rl rc, .int .i64 re].toList _ hrr Tryz.underlying72 rfl (by kernel_rfl) ?_)
 clear k4 hrr
 have A1 : Below X.heap.size X (X.alloc (.cells #[.bool rn, .slice ro rl rc, .int .i64 re] 72)) := (Below.refl _ X).alloc (Nat.le_refl _) _
 have P1 : Hid ((BxN (X.alloc (.cells #[.bool rn, .slice ro rl rc, .int .i64 re] 72)) (w.heap.size + 1 + 1) E 1060 (fval (rs[i]?.getD 0) + (sumG (fun g => rmag (frung (g[i]?.getD 0))) (gs.take 0) : Nat)) rn ro rl rc re ∧ (X.alloc (.cells #[.bool rn, .slice ro rl rc, .int .i64 re] 72)).heap[w.heap.size]? = some (.cells #[.int .i64 N, .slice a1 l1 c1, .slice a2 l2 c2, .slice a3 gs.length c3, .slice a4 n0 c4] 62) ∧ (X.alloc (.cells #[.bool rn, .slice ro rl rc, .int .i64 re] 72)).heap[w.heap.size + 1]? = some (.cells #[.bool false, .slice none 0 0, .int .i64 0] 72) ∧ Below w.heap.size w (X.alloc (.cells #[.bool rn, .slice ro rl rc, .int .i64 re] 72)))) := ⟨⟨by rw [← P0.out.2.2.2.2]; exact heap_alloc_new X _, by rw [List.take_zero]; show NumC _ _ _ _ (_ + ((0 : Nat) : Int)); rw [Int.natCast_zero, Int.add_zero]; exact (P0.out.2.2.2.1.later A1).mono (by omega)⟩, kept A1 P0.out.2.1, kept A1 P0.out.2.2.1, to_call P0.out.1 A1⟩
 obtain ⟨X1, hX1⟩ : ∃ X1, X.alloc (.cells #[.bool rn, .slice ro rl rc, .int .i64 re] 72) = X1 := ⟨_, rfl⟩
 have hB5 := P0.out.2.2.2.2
 rw [hX1] at P1 ⊢
 rw [hB5]
 clear hX1 A1 P0 hB5
 go_wp2_with fail
 go_loopg [6] gs.length (fun q v6 wx => ∃ (k : Nat), v6 = .int .i64 k ∧ k + q = gs.length ∧ ∃ (n : Bool) (o : Option Addr) (l c : Nat) (e : Int), Hid (BxN wx (w.heap.size + 1 + 1) E 1060 (fval (rs[i]?.getD 0) + (sumG (fun g => rmag (frung (g[i]?.getD 0))) (gs.take k) : Nat)) n o l c e ∧ wx.heap[w.heap.size]? = some (.cells #[.int .i64 N, .slice a1 l1 c1, .slice a2 l2 c2, .slice a3 gs.length c3, .slice a4 n0 c4] 62) ∧ wx.heap[w.heap.size + 1]? = some (.cells #[.bool false, .slice none 0 0, .int .i64 0] 72) ∧ Below w.heap.size w wx))
 case atStart => exact ⟨0, rfl, by omega, rn, ro, rl, rc, re, P1⟩
 case round =>
  obtain ⟨k, rfl, hk, n, o, l, c, e, HI⟩ := hrel
  have k3 : wr.cell? ⟨w.heap.size, 3, none⟩ = some (.slice a3 gs.length c3) := cellAtJ HI.out.2.1 3 _ rfl
  by_cases h1 : k < gs.length
  ·have hd1 : decide ((k : Int) < (gs.length : Int)) = true := decide_eq_true (by omega)
   obtain ⟨q, rfl⟩ : ∃ q, gk = q + 1 := ⟨gk - 1, by omega⟩
   have HIG : Hid _ := hk
   clear hk
   go_upto_region 5 with fail
   have QD : Below w.heap.size w wr.drew := HI.out.2.2.2.drew
   obtain ⟨g, b, cap, gn, go, gl0, gc, ge, hg3, hc1, hc2, hc3⟩ := RlS.elem (HR.out wr.drew QD) h1 (HF.out.2.2.2.2 k h1) hi
   have hk3 : wr.drew.cell? ⟨w.heap.size, 3, none⟩ = some (.slice a3 gs.length c3) := k3
   rw [hg3] at hk3
   clear hg3
   have SX : (fun V => V.heap[w.heap.size + 1 + 1]? = some (.cells #[.bool n, .slice o l c, .int .i64 e] 72) ∧ V.cell? ⟨w.heap.size, 3, none⟩ = some (.slice (some ⟨g, 0, none⟩) gs.length c3) ∧ V.cell? ⟨g, k, none⟩ = some (.slice (some ⟨b, 0, none⟩) n0 cap) ∧ V.rangeAt b (i * 3) [.bool gn, .slice go gl0 gc, .int .i64 ge]) wr.drew := ⟨HI.out.1.row, hk3, hc1, hc2⟩
   have HEL : Hid (NumC wr.drew (.agg #[.bool gn, .slice go gl0 gc, .int .i64 ge]) E 1024 (fval ((gs[k]?.getD [])[i]?.getD 0))) := hc3
   have HBN : Hid (NumC wr.drew (.agg #[.bool n, .slice o l c, .int .i64 e]) E 1060 (fval (rs[i]?.getD 0) + (sumG (fun g => rmag (frung (g[i]?.getD 0))) (gs.take k) : Nat))) := HI.out.1.num.later (Below.refl _ wr).drew
   have HQD : Hid (Below w.heap.size w wr.drew) := QD
   have HP1 : Hid (wr.drew.heap[w.heap.size]? = some (.cells #[.int .i64 N, .slice a1 l1 c1, .slice a2 l2 c2, .slice a3 gs.length c3, .slice a4 n0 c4] 62) ) := HI.out.2.1
   have HP2 : Hid (wr.drew.heap[w.heap.size + 1]? = some (.cells #[.bool false, .slice none 0 0, .int .i64 0] 72)) := HI.out.2.2.1
   have hk0 : (k : Int) < (gs.length : Int) := by omega
   clear hc1 hc2 hc3 hk3 QD k3 hd1 HI
   refine wp_region_noPanic ?_
   refine wp_region_P (S := (fun V => V.heap[w.heap.size + 1 + 1]? = some (.cells #[.bool n, .slice o l c, .int .i64 e] 72) ∧ V.cell? ⟨w.heap.size, 3, none⟩ = some (.slice (some ⟨g, 0, none⟩) gs.length c3) ∧ V.cell? ⟨g, k, none⟩ = some (.slice (some ⟨b, 0, none⟩) n0 cap) ∧ V.rangeAt b (i * 3) [.bool gn, .slice go gl0 gc, .int .i64 ge])) (s := 11) (by kernel_rfl) ?_
   refine takeP 19 (i := 0) (v := .agg #[.bool n, .slice o l c, .int .i64 e]) rfl rfl (by kernel_rfl) (by kernel_rfl) (by kernel_rfl) (by kernel_rfl) rfl (by kernel_rfl) (fun _ _ _ h => h) (Or.inl ⟨by kernel_rfl, fun w' hSw => ex_loadRN _ 72 _ rfl (w.heap.size + 1 + 1) (by kernel_rfl) w' _ hSw.1 _ Tryz.underlying72 rfl 3 Tryz.infoN3 rfl⟩) SX ?_
   try simp only [Act.put, List.setIfInBounds_toArray, List.set_cons_zero, List.set_cons_succ]
   refine takeP 20 (i := 1) (v := ?_) rfl rfl (by kernel_rfl) (by kernel_rfl) (by kernel_rfl) (by kernel_rfl) rfl (by kernel_rfl) (fun _ _ _ h => h) (Or.inl ⟨by kernel_rfl, ?_⟩) SX ?_
   rotate_left
   ·intro w' hSw; obtain ⟨s1, s2, s3, s4⟩ := hSw; go_simp; try with_reducible rfl
   try simp only [Act.put, List.setIfInBounds_toArray, List.set_cons_zero, List.set_cons_succ]
   refine takeP 21 (i := 2) (v := ?_) rfl rfl (by kernel_rfl) (by kernel_rfl) (by kernel_rfl) (by kernel_rfl) rfl (by kernel_rfl) (fun _ _ _ h => h) (Or.inl ⟨by kernel_rfl, ?_⟩) SX ?_
   rotate_left
   ·intro w' hSw; obtain ⟨s1, s2, s3, s4⟩ := hSw; go_simp; try with_reducible rfl
   try simp only [Act.put, List.setIfInBounds_toArray, List.set_cons_zero, List.set_cons_succ]
   refine takeP 22 (i := 3) (v := ?_) rfl rfl (by kernel_rfl) (by kernel_rfl) (by kernel_rfl) (by kernel_rfl) rfl (by kernel_rfl) (fun _ _ _ h => h) (Or.inl ⟨by kernel_rfl, ?_⟩) SX ?_
   rotate_left
   ·intro w' hSw; obtain ⟨s1, s2, s3, s4⟩ := hSw; go_simp; try with_reducible rfl
   try simp only [Act.put, List.setIfInBounds_toArray, List.set_cons_zero, List.set_cons_succ]
   refine takeP 23 (i := 4) (v := ?_) rfl rfl (by kernel_rfl) (by kernel_rfl) (by kernel_rfl) (by kernel_rfl) rfl (by kernel_rfl) (fun _ _ _ h => h) (Or.inl ⟨by kernel_rfl, ?_⟩) SX ?_
   rotate_left
   ·intro w' hSw; obtain ⟨s1, s2, s3, s4⟩ := hSw; go_simp; try with_reducible rfl
   try simp only [Act.put, List.setIfInBounds_toArray, List.set_cons_zero, List.set_cons_succ]
   refine takeP 24 (i := 5) (v := ?_) rfl rfl (by kernel_rfl) (by kernel_rfl) (by kernel_rfl) (by kernel_rfl) rfl (by kernel_rfl) (fun _ _ _ h => h) (Or.inl ⟨by kernel_rfl, ?_⟩) SX ?_
   rotate_left
   ·intro w' hSw; obtain ⟨s1, s2, s3, s4⟩ := hSw; go_simp; try with_reducible rfl
   try simp only [Act.put, List.setIfInBounds_toArray, List.set_cons_zero, List.set_cons_succ]
   refine takeP 25 (i := 6) (v := ?_) rfl rfl (by kernel_rfl) (by kernel_rfl) (by kernel_rfl) (by kernel_rfl) rfl (by kernel_rfl) (fun _ _ _ h => h) (Or.inl ⟨by kernel_rfl, ?_⟩) SX ?_
   rotate_left
   ·intro w' hSw; obtain ⟨s1, s2, s3, s4⟩ := hSw; go_simp; try with_reducible rfl
   try simp only [Act.put, List.setIfInBounds_toArray, List.set_cons_zero, List.set_cons_succ]
   refine takeP 26 (i := 7) (v := ?_) rfl rfl (by kernel_rfl) (by kernel_rfl) (by kernel_rfl) (by kernel_rfl) rfl (by kernel_rfl) (fun _ _ _ h => h) (Or.inl ⟨by kernel_rfl, ?_⟩) SX ?_
   rotate_left
   ·intro w' hSw; obtain ⟨s1, s2, s3, s4⟩ := hSw; go_simp; try with_reducible rfl
   try simp only [Act.put, List.setIfInBounds_toArray, List.set_cons_zero, List.set_cons_succ]
   refine takeP 27 (i := 8) (v := .agg #[.bool gn, .slice go gl0 gc, .int .i64 ge]) rfl rfl (by kernel_rfl) (by kernel_rfl) (by kernel_rfl) (by kernel_rfl) rfl (by kernel_rfl) (fun _ _ _ h => h) (yieldsIf_load_mid (by kernel_rfl) 72 _ rfl b (i * 3) (by kernel_rfl) #[.bool gn, .slice go gl0 gc, .int .i64 ge].toList _ (fun _ hS => hS.2.2.2) Tryz.underlying72 rfl (by kernel_rfl)) SX ?_
   try simp only [Act.put, List.setIfInBounds_toArray, List.set_cons_zero, List.set_cons_succ]
   refine wpAnyP_ready (rs := [9]) (by kernel_rfl) (by simp) ?_
   refine consP _ rfl (hopCd 28 rfl (by kernel_rfl) rfl (by kernel_rfl) (Calls.mono (sizeC_any _ E 1024 _ _ HEL.out) ?_)) AllReadyP.nil
   rintro e V1 ⟨v1, rfl, hz1, b1⟩
   obtain ⟨n1, o1, l1', c1', e1, hv1⟩ := hz1.form
   subst hv1
   have SX : (fun V => V.heap[w.heap.size + 1 + 1]? = some (.cells #[.bool n, .slice o l c, .int .i64 e] 72) ∧ V.cell? ⟨w.heap.size, 3, none⟩ = some (.slice (some ⟨g, 0, none⟩) gs.length c3) ∧ V.cell? ⟨g, k, none⟩ = some (.slice (some ⟨b, 0, none⟩) n0 cap) ∧ V.rangeAt b (i * 3) [.bool gn, .slice go gl0 gc, .int .i64 ge]) V1 := ⟨kept b1 SX.1, (b1.cell (World.block_lt_of_cell? _ _ SX.2.1)).trans SX.2.1, (b1.cell (World.block_lt_of_cell? _ _ SX.2.2.1)).trans SX.2.2.1, range_later SX.2.2.2 b1⟩
   have Q1 : Below w.heap.size w V1 := HQD.out.trans (b1.mono HQD.out.size)
   have HC1 : NumC V1 (.agg #[.bool n, .slice o l c, .int .i64 e]) E 1060 (fval (rs[i]?.getD 0) + (sumG (fun g => rmag (frung (g[i]?.getD 0))) (gs.take k) : Nat)) := HBN.out.later b1
   have P1 := kept b1 HP1.out; have PZ1 := kept b1 HP2.out
   clear b1
   refine ⟨_, rfl, SX, ?_⟩
   try simp only [Act.put, List.setIfInBounds_toArray, List.set_cons_zero, List.set_cons_succ]
   refine wpAnyP_ready (rs := [10]) (by kernel_rfl) (by simp) ?_
   refine consP _ rfl (hopCd 29 rfl (by kernel_rfl) rfl (by kernel_rfl) (Calls.mono (plusC_any _ _ E 1060 _ _ _ HC1 (hz1.mono (by omega)) (by rw [HE.out]; omega) (by omega)) ?_)) AllReadyP.nil
   rintro e V2 ⟨v2, rfl, hz2, b2⟩
   obtain ⟨n2, o2, l2', c2', e2, hv2⟩ := hz2.form
   subst hv2
   have SX : (fun V => V.heap[w.heap.size + 1 + 1]? = some (.cells #[.bool n, .slice o l c, .int .i64 e] 72) ∧ V.cell? ⟨w.heap.size, 3, none⟩ = some (.slice (some ⟨g, 0, none⟩) gs.length c3) ∧ V.cell? ⟨g, k, none⟩ = some (.slice (some ⟨b, 0, none⟩) n0 cap) ∧ V.rangeAt b (i * 3) [.bool gn, .slice go gl0 gc, .int .i64 ge]) V2 := ⟨kept b2 SX.1, (b2.cell (World.block_lt_of_cell? _ _ SX.2.1)).trans SX.2.1, (b2.cell (World.block_lt_of_cell? _ _ SX.2.2.1)).trans SX.2.2.1, range_later SX.2.2.2 b2⟩
   have Q2 : Below w.heap.size w V2 := Q1.trans (b2.mono Q1.size)
   have P2 := kept b2 P1; have PZ := kept b2 PZ1
   clear b2 HC1 hz1 Q1 P1 PZ1
   refine ⟨_, rfl, SX, ?_⟩
   try simp only [Act.put, List.setIfInBounds_toArray, List.set_cons_zero, List.set_cons_succ]
   refine wpAnyP_ready (rs := [11]) (by kernel_rfl) (by simp) ?_
   refine consPs _ rfl (by kernel_rfl) (hopL rfl (wpList_store_row (by rfl) 72 _ _ (by rfl) w w.heap.size (w.heap.size + 1 + 1) #[.bool n2, .slice o2 l2' c2', .int .i64 e2] _ (by kernel_rfl) (by kernel_rfl) SX.1 Q2 (by omega) 3 Tryz.infoN3 rfl rfl (oneN _ _ _ _ _) fun V3 e3 b3 s3 k3 => ?_)) AllReadyP.nil
   refine ⟨trivial, ?_⟩
   try simp only [Act.put, List.setIfInBounds_toArray, List.set_cons_zero, List.set_cons_succ]
   refine wpAnyP_done (by kernel_rfl) ?_ _
   refine NoPanic.normal ?_
   try simp only [Act.put, List.setIfInBounds_toArray, List.set_cons_zero, List.set_cons_succ]
   have HZ : Hid (NumC V3 (.agg #[.bool n2, .slice o2 l2' c2', .int .i64 e2]) E 1060 (fval (rs[i]?.getD 0) + (sumG (fun g => rmag (frung (g[i]?.getD 0))) (gs.take (k + 1)) : Nat))) := by
    have hz3 := hz2.cl (num_cl SX.1) (fun b hb _ => k3 b hb)
    rw [sumG_take h1]
    obtain ⟨X9, hX9⟩ : ∃ X9 : Nat, X9 = 2134 := ⟨_, rfl⟩
    have hbd := far_bound (gs := gs.take (k + 1)) hX9 HF.out.1 (fun g hg => by obtain ⟨j, hj, rfl⟩ := List.getElem_of_mem (List.mem_of_mem_take hg); have := HF.out.2.1 j; rw [List.getElem?_eq_getElem hj] at this; exact this) (by rw [List.length_take]; omega)
    unfold farV at hbd
    rw [sumG_take h1] at hbd
    rw [Int.add_assoc, fval_absJ, ← Int.natCast_add] at hz3
    exact NumC.tight hz3 (by omega) (by rw [HE.out, hX9]; rfl) hbd
   have HB3 : Hid (Below w.heap.size w V3 ∧ V3.heap[w.heap.size + 1 + 1]? = some (.cells #[.bool n2, .slice o2 l2' c2', .int .i64 e2] 72) ∧ V3.heap[w.heap.size]? = some (.cells #[.int .i64 N, .slice a1 l1 c1, .slice a2 l2 c2, .slice a3 gs.length c3, .slice a4 n0 c4] 62) ∧ V3.heap[w.heap.size + 1]? = some (.cells #[.bool false, .slice none 0 0, .int .i64 0] 72)) := ⟨b3, e3, by rw [k3 _ (by omega)]; exact P2, by rw [k3 _ (by omega)]; exact PZ⟩
   clear hz2 SX k3 P2 b3 e3 s3 Q2 HEL HBN HQD HP1 HP2 PZ
   go_wp2_with fail
   go_roundg q
   case measure => omega
   case rel => exact ⟨k + 1, by go_num, by have := HIG.out; omega, n2, o2, l2', c2', e2, ⟨⟨HB3.out.2.1, HZ.out⟩, HB3.out.2.2.1, HB3.out.2.2.2, HB3.out.1⟩⟩
  ·have hd1 : decide ((k : Int) < (gs.length : Int)) = false := decide_eq_false (by omega)
   have hd2 : decide (k < gs.length) = false := decide_eq_false h1
   have HZ : Hid (NumC wr (.agg #[.bool n, .slice o l c, .int .i64 e]) E 1060 (farV rs gs i)) := by
    have := HI.out.1.num
    rw [List.take_of_length_le (by omega)] at this
    exact this
   go_wp2_with (first
    | (refine wpList_load_row (by rfl) 72 _ (by rfl) (w.heap.size + 1 + 1) _ (by rfl) HI.out.1.row _ Tryz.underlying72 rfl 3 Tryz.infoN3 (by rfl) ?_)
    | (refine wpList_store_row (by rfl) 72 _ _ (by rfl) w w.heap.size (w.heap.size + 1) #[.bool n, .slice o l c, .int .i64 e] _ (by rfl) (by rfl) HI.out.2.2.1 HI.out.2.2.2 (by omega) 3 Tryz.infoN3 (by rfl) (by rfl) (oneN _ _ _ _ _) ?_; intro W9 e9 b9 s9 o9))
   refine bodyPost_ret (v := .agg #[.bool n, .slice o l c, .int .i64 e]) (res_num _ 4 (by kernel_rfl) _ _ (w.heap.size + 1) _ _ _ (by rfl) e9) rfl ⟨_, rfl, ?_, b9⟩
   exact HZ.out.cl (num_cl HI.out.2.2.1) (fun b hb _ => o9 b hb)
end Go.Proofs.YtjeghdmclmelfaaGreat
