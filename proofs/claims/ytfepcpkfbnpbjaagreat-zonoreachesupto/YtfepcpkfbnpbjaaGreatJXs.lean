import Derived.Test.YtfepcpkfbnpbjaaGreatJXr
namespace Go.Proofs.YtfepcpkfbnpbjaaGreat
open Go.RowKit Go.Shelf
set_option linter.unusedVariables false
set_option linter.unusedSimpArgs false

/-- What the columns give at the values es, exact. -/
def colV (gs : List (List Nat)) (es : List Int) (i : Nat) : Nat → Int
  | 0 => 0
  | k + 1 => colV gs es i k + (es[k]?.getD 0) * fval ((gs[k]?.getD [])[i]?.getD 0)
/-- How far the columns go along the axis i. -/
def absG (i : Nat) (gs : List (List Nat)) : Nat := sumG (fun g => rmag (frung (g[i]?.getD 0))) gs
theorem colV_abs {A i : Nat} {gs : List (List Nat)} {es : List Int} (he : ∀ k : Nat, (es[k]?.getD 0).natAbs ≤ A) : ∀ k, k ≤ gs.length → (colV gs es i k).natAbs ≤ A * absG i (gs.take k)
  | 0, _ => by simp [colV]
  | k + 1, hk => by
    have h1 := colV_abs (i := i) (gs := gs) he k (by omega)
    unfold absG at h1 ⊢
    rw [sumG_take (by omega), Nat.mul_add]
    have h2 : colV gs es i (k + 1) = colV gs es i k + (es[k]?.getD 0) * fval ((gs[k]?.getD [])[i]?.getD 0) := rfl
    have h3 : ((es[k]?.getD 0) * fval ((gs[k]?.getD [])[i]?.getD 0)).natAbs ≤ A * rmag (frung ((gs[k]?.getD [])[i]?.getD 0)) := by
      rw [Int.natAbs_mul, fval_absJ]
      exact Nat.mul_le_mul_right _ (he k)
    rw [h2]
    have h4 := Int.natAbs_add_le (colV gs es i k) ((es[k]?.getD 0) * fval ((gs[k]?.getD [])[i]?.getD 0))
    omega
/-- The coordinate i of the point, behind k columns. -/
def ptK (A : Nat) (cs rs : List Nat) (gs : List (List Nat)) (es bs : List Int) (i k : Nat) : Int := fval (cs[i]?.getD 0) * (A : Int) + (bs[i]?.getD 0) * fval (rs[i]?.getD 0) + colV gs es i k
theorem mem_getD {P : Int → Prop} {l : List Int} (h0 : P 0) (h : ∀ z ∈ l, P z) (k : Nat) : P (l[k]?.getD 0) := by
  by_cases hk : k < l.length
  · rw [List.getElem?_eq_getElem hk, Option.getD_some]; exact h _ (List.getElem_mem hk)
  · rw [List.getElem?_eq_none (by omega), Option.getD_none]; exact h0
theorem pt_bound {A E X i : Nat} {cs rs : List Nat} {gs : List (List Nat)} {es bs : List Int} (hA : A = 2 ^ E) (hE : E = 1074) (hX : X = 3208) (hc : Fin (cs[i]?.getD 0)) (hr : Fin (rs[i]?.getD 0)) (hg : ∀ k : Nat, Fin ((gs[k]?.getD [])[i]?.getD 0)) (few : gs.length ≤ 1050000) (he : ∀ k : Nat, (es[k]?.getD 0).natAbs ≤ A) (hb : (bs[i]?.getD 0).natAbs ≤ A) (k : Nat) (hk : k ≤ gs.length) : (ptK A cs rs gs es bs i k).natAbs < 2 ^ X := by
  obtain ⟨F, hF⟩ : ∃ F : Nat, F = 2098 := ⟨_, rfl⟩
  have h1 := fval_ltJ hc hF
  have h2 := fval_ltJ hr hF
  have h3 : absG i (gs.take k) ≤ (gs.take k).length * 2 ^ F := sumG_le (M := 2 ^ F) _ fun g hgg => by
    obtain ⟨j, hj, rfl⟩ := List.getElem_of_mem (List.mem_of_mem_take hgg)
    have := hg j
    rw [List.getElem?_eq_getElem hj] at this
    exact Nat.le_of_lt (fval_ltJ this hF)
  rw [List.length_take] at h3
  have h4 := colV_abs (i := i) he k hk
  have h5 : (fval (cs[i]?.getD 0) * (A : Int)).natAbs ≤ A * 2 ^ F := by
    rw [Int.natAbs_mul, fval_absJ, Int.natAbs_natCast, Nat.mul_comm]
    exact Nat.mul_le_mul_left _ (Nat.le_of_lt h1)
  have h6 : ((bs[i]?.getD 0) * fval (rs[i]?.getD 0)).natAbs ≤ A * 2 ^ F := by
    rw [Int.natAbs_mul, fval_absJ]
    exact Nat.mul_le_mul hb (Nat.le_of_lt h2)
  have h7 : A * absG i (gs.take k) ≤ A * (1050000 * 2 ^ F) := Nat.mul_le_mul_left _ (Nat.le_trans h3 (Nat.mul_le_mul_right _ (by omega)))
  have h8 : A * (1050000 * 2 ^ F) = 1050000 * (A * 2 ^ F) := by rw [← Nat.mul_assoc, Nat.mul_comm A, Nat.mul_assoc]
  have h9 : 2097152 * (A * 2 ^ F) ≤ 2 ^ X := by
    rw [hA, ← Nat.pow_add, show (2097152 : Nat) = 2 ^ 21 by decide, ← Nat.pow_add]
    exact Nat.pow_le_pow_right (by omega) (by omega)
  have h10 : 0 < A * 2 ^ F := Nat.mul_pos (by rw [hA]; exact Nat.two_pow_pos _) (Nat.two_pow_pos _)
  unfold ptK
  have g1 := Int.natAbs_add_le (fval (cs[i]?.getD 0) * (A : Int) + (bs[i]?.getD 0) * fval (rs[i]?.getD 0)) (colV gs es i k)
  have g2 := Int.natAbs_add_le (fval (cs[i]?.getD 0) * (A : Int)) ((bs[i]?.getD 0) * fval (rs[i]?.getD 0))
  generalize A * 2 ^ F = Q at *
  generalize 2 ^ X = Y at *
  omega
/-- A point is no further from the centre than far. -/
theorem pt_in {A i : Nat} {cs rs : List Nat} {gs : List (List Nat)} {es bs : List Int} (hr : 0 ≤ fval (rs[i]?.getD 0)) (he : ∀ k : Nat, (es[k]?.getD 0).natAbs ≤ A) (hb : (bs[i]?.getD 0).natAbs ≤ A) : ((ptK A cs rs gs es bs i gs.length - fval (cs[i]?.getD 0) * (A : Int)).natAbs : Int) ≤ farV rs gs i * (A : Int) := by
  have h4 := colV_abs (i := i) (gs := gs) he gs.length (Nat.le_refl _)
  rw [List.take_of_length_le (Nat.le_refl _)] at h4
  have h6 : ((bs[i]?.getD 0) * fval (rs[i]?.getD 0)).natAbs ≤ A * rmag (frung (rs[i]?.getD 0)) := by
    rw [Int.natAbs_mul, fval_absJ]
    exact Nat.mul_le_mul_right _ hb
  have e1 : ptK A cs rs gs es bs i gs.length - fval (cs[i]?.getD 0) * (A : Int) = (bs[i]?.getD 0) * fval (rs[i]?.getD 0) + colV gs es i gs.length := by unfold ptK; omega
  have g1 := Int.natAbs_add_le ((bs[i]?.getD 0) * fval (rs[i]?.getD 0)) (colV gs es i gs.length)
  have e2 : fval (rs[i]?.getD 0) = (rmag (frung (rs[i]?.getD 0)) : Int) := by rw [← fval_absJ]; omega
  have e3 : farV rs gs i * (A : Int) = ((A * rmag (frung (rs[i]?.getD 0)) + A * absG i gs : Nat) : Int) := by
    unfold farV absG
    rw [e2, ← Int.natCast_add, ← Int.natCast_mul, Nat.mul_comm, Nat.mul_add]
  rw [e1, e3]
  omega
/-- All coordinates of the point. -/
def ptV (A : Nat) (cs rs : List Nat) (gs : List (List Nat)) (es bs : List Int) (n : Nat) : List Int := (List.range n).map fun i => ptK A cs rs gs es bs i gs.length
theorem ptV_len (A : Nat) (cs rs : List Nat) (gs : List (List Nat)) (es bs : List Int) (n : Nat) : (ptV A cs rs gs es bs n).length = n := by unfold ptV; simp
theorem ptV_snoc (A : Nat) (cs rs : List Nat) (gs : List (List Nat)) (es bs : List Int) (n : Nat) : ptV A cs rs gs es bs (n + 1) = ptV A cs rs gs es bs n ++ [ptK A cs rs gs es bs n gs.length] := by unfold ptV; rw [List.range_succ, List.map_append]; rfl
theorem ptV_at {A : Nat} {cs rs : List Nat} {gs : List (List Nat)} {es bs : List Int} {n i : Nat} (h : i < n) : (ptV A cs rs gs es bs n)[i]?.getD 0 = ptK A cs rs gs es bs i gs.length := by unfold ptV; simp [h]
theorem allocNJ (w : World) : (Instr.alloc 50 true (.tuple #[])).run Tryz.prog w = .ok (.pointer (some ⟨w.heap.size, 0, none⟩)) (w.alloc (.cells #[.bool false, .slice none 0 0, .int .i64 0] 50)) := by kernel_rfl
set_option maxRecDepth 100000 in
set_option maxHeartbeats 8000000 in
/-- The law's Point. -/
theorem point_any (n0 : Nat) (a1 : Option Addr) (l1 c1 : Nat) (a2 : Option Addr) (l2 c2 : Nat) (a3 : Option Addr) (l3 c3 : Nat) (a4 : Option Addr) (l4 c4 : Nat) (cs rs : List Nat) (ids : List Int) (gs : List (List Nat)) (gl : List Value) (ve vr : Value) (es bs : List Int) (base B1 B2 E : Nat) (hE : E = 1074) (w : World) (h : RlS w base E cs rs ids gs (.slice a1 l1 c1) (.slice a4 l4 c4) (.slice a2 l2 c2) (.slice a3 l3 c3) gl) (he : RowZ w B1 ve E 1024 es) (hb : RowZ w B2 vr E 1024 bs) (hel : es.length = gs.length) (hbl : bs.length = n0) (hea : ∀ z ∈ es, z.natAbs ≤ 2 ^ E) (hba : ∀ z ∈ bs, z.natAbs ≤ 2 ^ E) (hc : cs.length = n0) (hr : rs.length = n0) (hg : ∀ k, k < gs.length → (gs[k]?.getD []).length = n0) (hfc : ∀ i : Nat, Fin (cs[i]?.getD 0)) (hfr : ∀ i : Nat, Fin (rs[i]?.getD 0)) (hfg : ∀ k i : Nat, Fin ((gs[k]?.getD [])[i]?.getD 0)) (few : gs.length ≤ 1050000) (hn : n0 ≤ 256) :
    Calls Tryz.prog 10 #[.agg #[.int .i64 (n0 : Int), .slice a1 l1 c1, .slice a2 l2 c2, .slice a3 l3 c3, .slice a4 l4 c4], ve, vr] w fun e w' => ∃ v, e = .returned v ∧ RowZ w' w.heap.size v (E + E) 1060 (ptV (2 ^ E) cs rs gs es bs n0) ∧ Below w.heap.size w w' := by
  have HE : Hid (E = 1074) := hE
  have hl3 := h.lenG
  have hl1 := ((RowN.lenV h.c).trans hc).symm
  have hl4 := ((RowN.lenV h.r).trans hr).symm
  subst hl3 hl1 hl4
  obtain ⟨ea, ec, hve⟩ := he.form
  obtain ⟨ra, rc, hvr⟩ := hb.form
  rw [hel] at hve
  rw [hbl] at hvr
  subst hve hvr
  have HR : Hid (∀ W', Below w.heap.size w W' → RlS W' base E cs rs ids gs (.slice a1 n0 c1) (.slice a4 n0 c4) (.slice a2 l2 c2) (.slice a3 gs.length c3) gl ∧ RowZ W' B1 (.slice ea gs.length ec) E 1024 es ∧ RowZ W' B2 (.slice ra n0 rc) E 1024 bs) := fun W' hb' => ⟨h.later hb', he.later hb', hb.later hb'⟩
  have HEA : Hid (∀ k : Nat, (es[k]?.getD 0).natAbs ≤ 2 ^ E) := fun k => mem_getD (P := fun z => z.natAbs ≤ 2 ^ E) (Nat.zero_le _) hea k
  have HBA : Hid (∀ k : Nat, (bs[k]?.getD 0).natAbs ≤ 2 ^ E) := fun k => mem_getD (P := fun z => z.natAbs ≤ 2 ^ E) (Nat.zero_le _) hba k
  have HL : Hid (es.length = gs.length ∧ bs.length = n0 ∧ cs.length = n0 ∧ rs.length = n0 ∧ ∀ k, k < gs.length → (gs[k]?.getD []).length = n0) := ⟨hel, hbl, hc, hr, hg⟩
  have HTI : Hid (∀ (W : World) (v : Value) (T : Int) (i k : Nat), k ≤ gs.length → NumC W v (E + E) T (ptK (2 ^ E) cs rs gs es bs i k) → NumC W v (E + E) 1060 (ptK (2 ^ E) cs rs gs es bs i k)) := fun W v T i k hk hz => by
    obtain ⟨X9, hX9⟩ : ∃ X9 : Nat, X9 = 3208 := ⟨_, rfl⟩
    exact NumC.tight hz (by omega) (by rw [hX9, hE]; rfl) (pt_bound rfl hE hX9 (hfc i) (hfr i) (fun k => hfg k i) few HEA.out (HBA.out i) k hk)
  have hgm : gs.length ≤ 1050000 := few
  clear h he hb hel hbl hc hr hg hfc hfr hfg few hE hea hba
  have X0 : Below w.heap.size w (w.alloc (.cells #[.int .i64 (n0 : Int), .slice a1 n0 c1, .slice a2 l2 c2, .slice a3 gs.length c3, .slice a4 n0 c4] 30)) := (Below.refl _ w).alloc (Nat.le_refl _) _
  have Y0 : (w.alloc (.cells #[.int .i64 (n0 : Int), .slice a1 n0 c1, .slice a2 l2 c2, .slice a3 gs.length c3, .slice a4 n0 c4] 30)).heap[w.heap.size]? = some (.cells #[.int .i64 (n0 : Int), .slice a1 n0 c1, .slice a2 l2 c2, .slice a3 gs.length c3, .slice a4 n0 c4] 30) := heap_alloc_new w _
  go_enter Tryz.func10, Tryz.ntmps10
  go_upto_region 1 with fail
  obtain ⟨X, hX⟩ : ∃ X, (w.alloc (.cells #[.int .i64 (n0 : Int), .slice a1 n0 c1, .slice a2 l2 c2, .slice a3 gs.length c3, .slice a4 n0 c4] 30)) = X := ⟨_, rfl⟩
  rw [hX] at X0 Y0 ⊢
  have HX : Hid (Below w.heap.size w X ∧ X.heap[w.heap.size]? = some (.cells #[.int .i64 (n0 : Int), .slice a1 n0 c1, .slice a2 l2 c2, .slice a3 gs.length c3, .slice a4 n0 c4] 30)) := ⟨X0, Y0⟩
  clear hX X0 Y0
  go_wp2_with fail
  go_loopg [7, 8] n0 (fun q v iv wx => ∃ (i : Nat), iv = .int .i64 i ∧ i + q = n0 ∧ Hid (RowZ wx w.heap.size v (E + E) 1060 (ptV (2 ^ E) cs rs gs es bs i)) ∧ Hid (Below w.heap.size w wx ∧ wx.heap[w.heap.size]? = some (.cells #[.int .i64 (n0 : Int), .slice a1 n0 c1, .slice a2 l2 c2, .slice a3 gs.length c3, .slice a4 n0 c4] 30)))
  case atStart => exact ⟨0, rfl, by omega, RowZ.nil _ _ _ _, HX⟩
  case round =>
    obtain ⟨i, rfl, hk, HO, HB⟩ := hrel
    obtain ⟨Y, hY⟩ : ∃ Y, wr = Y := ⟨_, rfl⟩
    rw [hY] at HO HB ⊢
    clear hY wr
    have k0 : Y.cell? ⟨w.heap.size, 0, none⟩ = some (.int .i64 (n0 : Int)) := cellAtJ HB.out.2 0 _ rfl
    by_cases hlt : i < n0
    · have hd : decide ((i : Int) < (n0 : Int)) = true := decide_eq_true (by omega)
      obtain ⟨q, rfl⟩ : ∃ q, gk = q + 1 := ⟨gk - 1, by omega⟩
      have HIG : Hid _ := hk
      have hi : (i : Int) < (n0 : Int) := by omega
      clear hk
      go_upto_region 5 with fail
      obtain ⟨hRl, hRe, hRb⟩ := HR.out Y HB.out.1
      obtain ⟨g1, q1, cn, co, cl, cc, ce, v1, r1, z1⟩ := RowN.range hRl.c (k := i) (by rw [HL.out.2.2.1]; exact hlt)
      obtain ⟨g4, q4, rn, ro, rl0, rc0, re, v4, r4, z4⟩ := RowN.range hRl.r (k := i) (by rw [HL.out.2.2.2.1]; exact hlt)
      obtain ⟨gb, qb, bn, bo, bl0, bc, be, vb, rb, zb⟩ := RowZ.range hRb (k := i) (by rw [HL.out.2.1]; exact hlt)
      rw [HL.out.2.2.1] at v1
      rw [HL.out.2.2.2.1] at v4
      rw [HL.out.2.1] at vb
      have C1 : Hid (Y.cell? ⟨w.heap.size, 1, none⟩ = some (.slice (some ⟨g1, 0, none⟩) n0 q1)) := by rw [← v1]; exact cellAtJ HB.out.2 1 _ rfl
      have C4 : Hid (Y.cell? ⟨w.heap.size, 4, none⟩ = some (.slice (some ⟨g4, 0, none⟩) n0 q4)) := by rw [← v4]; exact cellAtJ HB.out.2 4 _ rfl
      have R1 : Hid (Y.rangeAt g1 (i * 3) [.bool cn, .slice co cl cc, .int .i64 ce]) := r1
      have R2 : Hid (Y.rangeAt gb (i * 3) [.bool bn, .slice bo bl0 bc, .int .i64 be]) := rb
      have R4 : Hid (Y.rangeAt g4 (i * 3) [.bool rn, .slice ro rl0 rc0, .int .i64 re]) := r4
      have Z1 : Hid _ := z1
      have Z2 : Hid _ := zb
      have Z4 : Hid _ := z4
      have HRA : Hid (ra = some ⟨gb, 0, none⟩) := by injection vb
      clear r1 rb r4 z1 zb z4 v1 v4 vb hRl hRe hRb k0 hd
      go_cut [9] (fun v9 wx => ∃ (D : Nat) (n : Bool) (o : Option Addr) (l c : Nat) (e : Int), v9 = .pointer (some ⟨D, 0, none⟩) ∧ Hid (BxN wx D (E + E) 1060 (ptK (2 ^ E) cs rs gs es bs i 0) n o l c e) ∧ Y.heap.size ≤ D ∧ Hid (Below Y.heap.size Y wx))
      case first =>
        have hra := HRA.out
        subst hra
        have bX : Below Y.heap.size Y Y.drew := (Below.refl _ _).drew
        refine wp_region_noPanic ?_
        refine wp_region_held_drew (S := (fun V => Below Y.heap.size Y V)) (by kernel_rfl) bX (fun _ => ?_)
        refine takeH 17 (i := 0) (v := ?_) rfl rfl (by kernel_rfl) (by kernel_rfl) (by kernel_rfl) (fun _ _ _ h => h) (Or.inl ⟨by kernel_rfl, ?_⟩) bX ?_
        rotate_left
        · intro w' hSw; have s1 := cell_later C1.out hSw; have s4 := cell_later C4.out hSw; go_simp; try with_reducible rfl
        try simp only [Act.put, List.setIfInBounds_toArray, List.set_cons_zero, List.set_cons_succ]
        refine takeH 18 (i := 1) (v := ?_) rfl rfl (by kernel_rfl) (by kernel_rfl) (by kernel_rfl) (fun _ _ _ h => h) (Or.inl ⟨by kernel_rfl, ?_⟩) bX ?_
        rotate_left
        · intro w' hSw; have s1 := cell_later C1.out hSw; have s4 := cell_later C4.out hSw; go_simp; try with_reducible rfl
        try simp only [Act.put, List.setIfInBounds_toArray, List.set_cons_zero, List.set_cons_succ]
        refine takeH 19 (i := 2) (v := ?_) rfl rfl (by kernel_rfl) (by kernel_rfl) (by kernel_rfl) (fun _ _ _ h => h) (Or.inl ⟨by kernel_rfl, ?_⟩) bX ?_
        rotate_left
        · intro w' hSw; have s1 := cell_later C1.out hSw; have s4 := cell_later C4.out hSw; go_simp; try with_reducible rfl
        try simp only [Act.put, List.setIfInBounds_toArray, List.set_cons_zero, List.set_cons_succ]
        refine takeH 20 (i := 3) (v := ?_) rfl rfl (by kernel_rfl) (by kernel_rfl) (by kernel_rfl) (fun _ _ _ h => h) (Or.inl ⟨by kernel_rfl, ?_⟩) bX ?_
        rotate_left
        · intro w' hSw; have s1 := cell_later C1.out hSw; have s4 := cell_later C4.out hSw; go_simp; try with_reducible rfl
        try simp only [Act.put, List.setIfInBounds_toArray, List.set_cons_zero, List.set_cons_succ]
        refine takeH 21 (i := 4) (v := .agg #[.bool cn, .slice co cl cc, .int .i64 ce]) rfl rfl (by kernel_rfl) (by kernel_rfl) (by kernel_rfl) (fun _ _ _ h => h) (yieldsIf_load_mid (by kernel_rfl) 50 _ rfl g1 (i * 3) (by kernel_rfl) #[.bool cn, .slice co cl cc, .int .i64 ce].toList _ (fun V' hS => (range_later R1.out hS : V'.rangeAt g1 (i * 3) [.bool cn, .slice co cl cc, .int .i64 ce])) Tryz.underlying50 rfl (by kernel_rfl)) bX ?_
        try simp only [Act.put, List.setIfInBounds_toArray, List.set_cons_zero, List.set_cons_succ]
        refine takeH 22 (i := 5) (v := ?_) rfl rfl (by kernel_rfl) (by kernel_rfl) (by kernel_rfl) (fun _ _ _ h => h) (Or.inl ⟨by kernel_rfl, ?_⟩) bX ?_
        rotate_left
        · intro w' hSw; have s1 := cell_later C1.out hSw; have s4 := cell_later C4.out hSw; go_simp; try with_reducible rfl
        try simp only [Act.put, List.setIfInBounds_toArray, List.set_cons_zero, List.set_cons_succ]
        refine takeH 23 (i := 6) (v := ?_) rfl rfl (by kernel_rfl) (by kernel_rfl) (by kernel_rfl) (fun _ _ _ h => h) (Or.inl ⟨by kernel_rfl, ?_⟩) bX ?_
        rotate_left
        · intro w' hSw; have s1 := cell_later C1.out hSw; have s4 := cell_later C4.out hSw; go_simp; try with_reducible rfl
        try simp only [Act.put, List.setIfInBounds_toArray, List.set_cons_zero, List.set_cons_succ]
        refine takeH 24 (i := 7) (v := ?_) rfl rfl (by kernel_rfl) (by kernel_rfl) (by kernel_rfl) (fun _ _ _ h => h) (Or.inl ⟨by kernel_rfl, ?_⟩) bX ?_
        rotate_left
        · intro w' hSw; have s1 := cell_later C1.out hSw; have s4 := cell_later C4.out hSw; go_simp; try with_reducible rfl
        try simp only [Act.put, List.setIfInBounds_toArray, List.set_cons_zero, List.set_cons_succ]
        refine takeH 25 (i := 8) (v := .agg #[.bool bn, .slice bo bl0 bc, .int .i64 be]) rfl rfl (by kernel_rfl) (by kernel_rfl) (by kernel_rfl) (fun _ _ _ h => h) (yieldsIf_load_mid (by kernel_rfl) 50 _ rfl gb (i * 3) (by kernel_rfl) #[.bool bn, .slice bo bl0 bc, .int .i64 be].toList _ (fun V' hS => (range_later R2.out hS : V'.rangeAt gb (i * 3) [.bool bn, .slice bo bl0 bc, .int .i64 be])) Tryz.underlying50 rfl (by kernel_rfl)) bX ?_
        try simp only [Act.put, List.setIfInBounds_toArray, List.set_cons_zero, List.set_cons_succ]
        refine takeH 26 (i := 9) (v := ?_) rfl rfl (by kernel_rfl) (by kernel_rfl) (by kernel_rfl) (fun _ _ _ h => h) (Or.inl ⟨by kernel_rfl, ?_⟩) bX ?_
        rotate_left
        · intro w' hSw; have s1 := cell_later C1.out hSw; have s4 := cell_later C4.out hSw; go_simp; try with_reducible rfl
        try simp only [Act.put, List.setIfInBounds_toArray, List.set_cons_zero, List.set_cons_succ]
        refine takeH 27 (i := 10) (v := ?_) rfl rfl (by kernel_rfl) (by kernel_rfl) (by kernel_rfl) (fun _ _ _ h => h) (Or.inl ⟨by kernel_rfl, ?_⟩) bX ?_
        rotate_left
        · intro w' hSw; have s1 := cell_later C1.out hSw; have s4 := cell_later C4.out hSw; go_simp; try with_reducible rfl
        try simp only [Act.put, List.setIfInBounds_toArray, List.set_cons_zero, List.set_cons_succ]
        refine takeH 28 (i := 11) (v := ?_) rfl rfl (by kernel_rfl) (by kernel_rfl) (by kernel_rfl) (fun _ _ _ h => h) (Or.inl ⟨by kernel_rfl, ?_⟩) bX ?_
        rotate_left
        · intro w' hSw; have s1 := cell_later C1.out hSw; have s4 := cell_later C4.out hSw; go_simp; try with_reducible rfl
        try simp only [Act.put, List.setIfInBounds_toArray, List.set_cons_zero, List.set_cons_succ]
        refine takeH 29 (i := 12) (v := ?_) rfl rfl (by kernel_rfl) (by kernel_rfl) (by kernel_rfl) (fun _ _ _ h => h) (Or.inl ⟨by kernel_rfl, ?_⟩) bX ?_
        rotate_left
        · intro w' hSw; have s1 := cell_later C1.out hSw; have s4 := cell_later C4.out hSw; go_simp; try with_reducible rfl
        try simp only [Act.put, List.setIfInBounds_toArray, List.set_cons_zero, List.set_cons_succ]
        refine takeH 30 (i := 13) (v := .agg #[.bool rn, .slice ro rl0 rc0, .int .i64 re]) rfl rfl (by kernel_rfl) (by kernel_rfl) (by kernel_rfl) (fun _ _ _ h => h) (yieldsIf_load_mid (by kernel_rfl) 50 _ rfl g4 (i * 3) (by kernel_rfl) #[.bool rn, .slice ro rl0 rc0, .int .i64 re].toList _ (fun V' hS => (range_later R4.out hS : V'.rangeAt g4 (i * 3) [.bool rn, .slice ro rl0 rc0, .int .i64 re])) Tryz.underlying50 rfl (by kernel_rfl)) bX ?_
        try simp only [Act.put, List.setIfInBounds_toArray, List.set_cons_zero, List.set_cons_succ]
        obtain ⟨V, hV⟩ : ∃ V, Y.drew = V := ⟨_, rfl⟩
        have bV : Below Y.heap.size Y V := hV ▸ bX
        rw [hV]
        clear hV bX
        refine wpAnyH_ready (rs := [14, 16]) (by kernel_rfl) (by simp) ?_
        refine consH _ rfl ?_ (consH _ rfl ?_ AllReadyH.nil)
        · refine hopCd 31 rfl (by kernel_rfl) rfl (by kernel_rfl) (Calls.mono (timesC_any _ _ E 1024 1024 _ _ _ (NumC.later Z2.out bV).toZ (NumC.later Z4.out bV).toZ (by rw [HE.out]; omega) (by omega) (by omega)) ?_)
          rintro e Va ⟨v1, rfl, hz1, hb⟩
          obtain ⟨n1, o1, t1, p1, x1, hv1⟩ := hz1.form
          subst hv1
          have bVa : Below Y.heap.size Y Va := bV.trans (hb.mono bV.size)
          have zaVa : NumC Va (.agg #[.bool n1, .slice o1 t1 p1, .int .i64 x1]) (E + E) (1024 + 1024) (bs[i]?.getD 0 * fval (rs[i]?.getD 0)) := hz1
          clear hb hz1
          refine ⟨_, rfl, bVa, ?_⟩
          try simp only [Act.put, List.setIfInBounds_toArray, List.set_cons_zero, List.set_cons_succ]
          refine wpAnyH_ready (rs := [15, 16]) (by kernel_rfl) (by simp) ?_
          refine consH _ rfl ?_ (consH _ rfl ?_ AllReadyH.nil)
          · refine hopCd 32 rfl (by kernel_rfl) rfl (by kernel_rfl) (Calls.mono (plusC_any _ _ (E + E) (1024 + 1024) _ _ _ (((NumC.later Z1.out bVa).moreJ E).mono (by omega)) zaVa (by rw [HE.out]; omega) (by omega)) ?_)
            rintro e Vb ⟨v2, rfl, hz2, hb⟩
            obtain ⟨n2, o2, t2, p2, x2, hv2⟩ := hz2.form
            subst hv2
            have bVb : Below Y.heap.size Y Vb := bVa.trans (hb.mono bVa.size)
            have zbVb : NumC Vb (.agg #[.bool n2, .slice o2 t2 p2, .int .i64 x2]) (E + E) (1024 + 1024 + 1) (fval (cs[i]?.getD 0) * ((2 ^ E : Nat) : Int) + (bs[i]?.getD 0 * fval (rs[i]?.getD 0))) := hz2
            clear hb hz2 zaVa
            refine ⟨_, rfl, bVb, ?_⟩
            try simp only [Act.put, List.setIfInBounds_toArray, List.set_cons_zero, List.set_cons_succ]
            refine wpAnyH_ready (rs := [16]) (by kernel_rfl) (by simp) ?_
            refine consH _ rfl ?_ AllReadyH.nil
            refine hopAJ 9 rfl rfl rfl 50 rfl #[.bool false, .slice none 0 0, .int .i64 0] allocNJ fun D Vc hDVc hDl hb => ?_
            have bVc : Below Y.heap.size Y Vc := bVb.trans (hb.mono bVb.size)
            have hDX : Y.heap.size ≤ D := Nat.le_trans bVb.size hDl
            have zbVc := NumC.later zbVb hb
            clear hb hDl
            refine ⟨bVc, ?_⟩
            try simp only [Act.put, List.setIfInBounds_toArray, List.set_cons_zero, List.set_cons_succ]
            refine wpAnyH_ready (rs := [17]) (by kernel_rfl) (by simp) ?_
            refine consH _ rfl (hopL rfl (wpList_store_row (by rfl) 50 _ _ (by rfl) Y Y.heap.size D #[.bool n2, .slice o2 t2 p2, .int .i64 x2] _ (by kernel_rfl) (by kernel_rfl) hDVc bVc hDX 3 Tryz.infoN3 (by rfl) (by rfl) (oneN _ _ _ _ _) fun W9 e9 b9 hs9 ho9 => ?_)) AllReadyH.nil
            refine (And.intro b9 ?_ : _ ∧ _)
            try simp only [Act.put, List.setIfInBounds_toArray, List.set_cons_zero, List.set_cons_succ]
            refine wpAnyH_done (by kernel_rfl) ?_ _
            refine NoPanic.normal ?_
            try simp only [Act.put, List.setIfInBounds_toArray, List.set_cons_zero, List.set_cons_succ]
            go_wp2_with fail
            go_meet
            exact ⟨D, n2, o2, t2, p2, x2, rfl, ⟨e9, HTI.out _ _ _ i 0 (Nat.zero_le _) (by have h9 := zbVc.cl (num_cl hDVc) (fun b hb _ => ho9 b hb); unfold ptK colV; rw [Int.add_zero]; exact h9)⟩, hDX, b9⟩
          · refine hopAJ 9 rfl rfl rfl 50 rfl #[.bool false, .slice none 0 0, .int .i64 0] allocNJ fun D Vd hDVd hDl hb => ?_
            have bVd : Below Y.heap.size Y Vd := bVa.trans (hb.mono bVa.size)
            have hDX : Y.heap.size ≤ D := Nat.le_trans bVa.size hDl
            have zaVd := NumC.later zaVa hb
            clear hb hDl
            refine ⟨bVd, ?_⟩
            try simp only [Act.put, List.setIfInBounds_toArray, List.set_cons_zero, List.set_cons_succ]
            refine wpAnyH_ready (rs := [15]) (by kernel_rfl) (by simp) ?_
            refine consH _ rfl ?_ AllReadyH.nil
            refine hopCd 32 rfl (by kernel_rfl) rfl (by kernel_rfl) (Calls.mono (plusC_any _ _ (E + E) (1024 + 1024) _ _ _ (((NumC.later Z1.out bVd).moreJ E).mono (by omega)) zaVd (by rw [HE.out]; omega) (by omega)) ?_)
            rintro e Ve ⟨v2, rfl, hz2, hb⟩
            obtain ⟨n2, o2, t2, p2, x2, hv2⟩ := hz2.form
            subst hv2
            have bVe : Below Y.heap.size Y Ve := bVd.trans (hb.mono bVd.size)
            have hDVe := kept hb hDVd
            have zbVe : NumC Ve (.agg #[.bool n2, .slice o2 t2 p2, .int .i64 x2]) (E + E) (1024 + 1024 + 1) (fval (cs[i]?.getD 0) * ((2 ^ E : Nat) : Int) + (bs[i]?.getD 0 * fval (rs[i]?.getD 0))) := hz2
            clear hb hz2 zaVd
            refine ⟨_, rfl, bVe, ?_⟩
            try simp only [Act.put, List.setIfInBounds_toArray, List.set_cons_zero, List.set_cons_succ]
            refine wpAnyH_ready (rs := [17]) (by kernel_rfl) (by simp) ?_
            refine consH _ rfl (hopL rfl (wpList_store_row (by rfl) 50 _ _ (by rfl) Y Y.heap.size D #[.bool n2, .slice o2 t2 p2, .int .i64 x2] _ (by kernel_rfl) (by kernel_rfl) hDVe bVe hDX 3 Tryz.infoN3 (by rfl) (by rfl) (oneN _ _ _ _ _) fun W9 e9 b9 hs9 ho9 => ?_)) AllReadyH.nil
            refine (And.intro b9 ?_ : _ ∧ _)
            try simp only [Act.put, List.setIfInBounds_toArray, List.set_cons_zero, List.set_cons_succ]
            refine wpAnyH_done (by kernel_rfl) ?_ _
            refine NoPanic.normal ?_
            try simp only [Act.put, List.setIfInBounds_toArray, List.set_cons_zero, List.set_cons_succ]
            go_wp2_with fail
            go_meet
            exact ⟨D, n2, o2, t2, p2, x2, rfl, ⟨e9, HTI.out _ _ _ i 0 (Nat.zero_le _) (by have h9 := zbVe.cl (num_cl hDVe) (fun b hb _ => ho9 b hb); unfold ptK colV; rw [Int.add_zero]; exact h9)⟩, hDX, b9⟩
        · refine hopAJ 9 rfl rfl rfl 50 rfl #[.bool false, .slice none 0 0, .int .i64 0] allocNJ fun D Vf hDVf hDl hb => ?_
          have bVf : Below Y.heap.size Y Vf := bV.trans (hb.mono bV.size)
          have hDX : Y.heap.size ≤ D := Nat.le_trans bV.size hDl
          clear hb hDl
          refine ⟨bVf, ?_⟩
          try simp only [Act.put, List.setIfInBounds_toArray, List.set_cons_zero, List.set_cons_succ]
          refine wpAnyH_ready (rs := [14]) (by kernel_rfl) (by simp) ?_
          refine consH _ rfl ?_ AllReadyH.nil
          refine hopCd 31 rfl (by kernel_rfl) rfl (by kernel_rfl) (Calls.mono (timesC_any _ _ E 1024 1024 _ _ _ (NumC.later Z2.out bVf).toZ (NumC.later Z4.out bVf).toZ (by rw [HE.out]; omega) (by omega) (by omega)) ?_)
          rintro e Vg ⟨v1, rfl, hz1, hb⟩
          obtain ⟨n1, o1, t1, p1, x1, hv1⟩ := hz1.form
          subst hv1
          have bVg : Below Y.heap.size Y Vg := bVf.trans (hb.mono bVf.size)
          have hDVg := kept hb hDVf
          have zaVg : NumC Vg (.agg #[.bool n1, .slice o1 t1 p1, .int .i64 x1]) (E + E) (1024 + 1024) (bs[i]?.getD 0 * fval (rs[i]?.getD 0)) := hz1
          clear hb hz1
          refine ⟨_, rfl, bVg, ?_⟩
          try simp only [Act.put, List.setIfInBounds_toArray, List.set_cons_zero, List.set_cons_succ]
          refine wpAnyH_ready (rs := [15]) (by kernel_rfl) (by simp) ?_
          refine consH _ rfl ?_ AllReadyH.nil
          refine hopCd 32 rfl (by kernel_rfl) rfl (by kernel_rfl) (Calls.mono (plusC_any _ _ (E + E) (1024 + 1024) _ _ _ (((NumC.later Z1.out bVg).moreJ E).mono (by omega)) zaVg (by rw [HE.out]; omega) (by omega)) ?_)
          rintro e Vh ⟨v2, rfl, hz2, hb⟩
          obtain ⟨n2, o2, t2, p2, x2, hv2⟩ := hz2.form
          subst hv2
          have bVh : Below Y.heap.size Y Vh := bVg.trans (hb.mono bVg.size)
          have hDVh := kept hb hDVg
          have zbVh : NumC Vh (.agg #[.bool n2, .slice o2 t2 p2, .int .i64 x2]) (E + E) (1024 + 1024 + 1) (fval (cs[i]?.getD 0) * ((2 ^ E : Nat) : Int) + (bs[i]?.getD 0 * fval (rs[i]?.getD 0))) := hz2
          clear hb hz2 zaVg
          refine ⟨_, rfl, bVh, ?_⟩
          try simp only [Act.put, List.setIfInBounds_toArray, List.set_cons_zero, List.set_cons_succ]
          refine wpAnyH_ready (rs := [17]) (by kernel_rfl) (by simp) ?_
          refine consH _ rfl (hopL rfl (wpList_store_row (by rfl) 50 _ _ (by rfl) Y Y.heap.size D #[.bool n2, .slice o2 t2 p2, .int .i64 x2] _ (by kernel_rfl) (by kernel_rfl) hDVh bVh hDX 3 Tryz.infoN3 (by rfl) (by rfl) (oneN _ _ _ _ _) fun W9 e9 b9 hs9 ho9 => ?_)) AllReadyH.nil
          refine (And.intro b9 ?_ : _ ∧ _)
          try simp only [Act.put, List.setIfInBounds_toArray, List.set_cons_zero, List.set_cons_succ]
          refine wpAnyH_done (by kernel_rfl) ?_ _
          refine NoPanic.normal ?_
          try simp only [Act.put, List.setIfInBounds_toArray, List.set_cons_zero, List.set_cons_succ]
          go_wp2_with fail
          go_meet
          exact ⟨D, n2, o2, t2, p2, x2, rfl, ⟨e9, HTI.out _ _ _ i 0 (Nat.zero_le _) (by have h9 := zbVh.cl (num_cl hDVh) (fun b hb _ => ho9 b hb); unfold ptK colV; rw [Int.add_zero]; exact h9)⟩, hDX, b9⟩
      case rest =>
        obtain ⟨D, n, o, l, c, e, rfl, HN, hDX, HBD⟩ := hcut
        have HDX : Hid _ := hDX
        have P0 : Hid (BxN wc D (E + E) 1060 (ptK (2 ^ E) cs rs gs es bs i 0) n o l c e ∧ Below Y.heap.size Y wc) := ⟨HN.out, HBD.out⟩
        clear hDX HN HBD C1 C4 R1 R2 R4 Z1 Z2 Z4 HRA
        go_wp2_with fail
        go_loopg [10] gs.length (fun q v10 wx => ∃ (k : Nat), v10 = .int .i64 k ∧ k + q = gs.length ∧ ∃ (n : Bool) (o : Option Addr) (l c : Nat) (e : Int), Hid (BxN wx D (E + E) 1060 (ptK (2 ^ E) cs rs gs es bs i k) n o l c e ∧ Below Y.heap.size Y wx))
        case atStart => exact ⟨0, rfl, by omega, n, o, l, c, e, P0⟩
        case round =>
          obtain ⟨k, rfl, hk, n, o, l, c, e, HI⟩ := hrel
          clear P0
          have k3 : wr.cell? ⟨w.heap.size, 3, none⟩ = some (.slice a3 gs.length c3) := cellAtJ (kept HI.out.2 HB.out.2) 3 _ rfl
          by_cases h1 : k < gs.length
          · have hd1 : decide ((k : Int) < (gs.length : Int)) = true := decide_eq_true (by omega)
            obtain ⟨q', rfl⟩ : ∃ q, gk = q + 1 := ⟨gk - 1, by omega⟩
            have HIK : Hid _ := hk
            clear hk
            go_upto_region 9 with fail
            obtain ⟨hRl, hRe, hRb⟩ := HR.out wr (to_call HB.out.1 HI.out.2)
            obtain ⟨g, b, cap, gn, go, gl0, gc, ge, hg3, hc1, hc2, hc3⟩ := RlS.elem hRl h1 (HL.out.2.2.2.2 k h1) hlt
            obtain ⟨ge0, qe, en, eo, el0, ec0, ee, ve', re', ze⟩ := RowZ.range hRe (k := k) (by rw [HL.out.1]; exact h1)
            rw [HL.out.1] at ve'
            have C3 : Hid (wr.cell? ⟨w.heap.size, 3, none⟩ = some (.slice (some ⟨g, 0, none⟩) gs.length c3)) := by rw [← hg3]; exact k3
            have C5 : Hid _ := hc1
            have R5 : Hid (wr.rangeAt ge0 (k * 3) [.bool en, .slice eo el0 ec0, .int .i64 ee]) := re'
            have R6 : Hid (wr.rangeAt b (i * 3) [.bool gn, .slice go gl0 gc, .int .i64 ge]) := hc2
            have Z5 : Hid _ := ze
            have Z6 : Hid _ := hc3
            have hea : ea = some ⟨ge0, 0, none⟩ := by injection ve'
            have hk0 : (k : Int) < (gs.length : Int) := by omega
            subst hea
            clear hc1 hc2 hc3 re' ze ve' hg3 hRl hRe hRb k3 hd1
            have SX : Below wr.heap.size wr wr.drew := (Below.refl _ _).drew
            refine wp_region_noPanic ?_
            refine wp_region_P (S := (fun V => Below wr.heap.size wr V)) (s := 15) (by kernel_rfl) ?_
            refine takeP 40 (i := 0) (v := .agg #[.bool n, .slice o l c, .int .i64 e]) rfl rfl (by kernel_rfl) (by kernel_rfl) (by kernel_rfl) (by kernel_rfl) rfl (by kernel_rfl) (fun _ _ _ h => h) (Or.inl ⟨by kernel_rfl, fun w' hSw => ex_loadRN _ 50 _ rfl D (by kernel_rfl) w' _ (kept hSw HI.out.1.row) _ Tryz.underlying50 rfl 3 Tryz.infoN3 rfl⟩) SX ?_
            try simp only [Act.put, List.setIfInBounds_toArray, List.set_cons_zero, List.set_cons_succ]
            refine takeP 41 (i := 1) (v := ?_) rfl rfl (by kernel_rfl) (by kernel_rfl) (by kernel_rfl) (by kernel_rfl) rfl (by kernel_rfl) (fun _ _ _ h => h) (Or.inl ⟨by kernel_rfl, ?_⟩) SX ?_
            rotate_left
            · intro w' hSw; have s3 := cell_later C3.out hSw; have s5 := cell_later C5.out hSw; go_simp; try with_reducible rfl
            try simp only [Act.put, List.setIfInBounds_toArray, List.set_cons_zero, List.set_cons_succ]
            refine takeP 42 (i := 2) (v := ?_) rfl rfl (by kernel_rfl) (by kernel_rfl) (by kernel_rfl) (by kernel_rfl) rfl (by kernel_rfl) (fun _ _ _ h => h) (Or.inl ⟨by kernel_rfl, ?_⟩) SX ?_
            rotate_left
            · intro w' hSw; have s3 := cell_later C3.out hSw; have s5 := cell_later C5.out hSw; go_simp; try with_reducible rfl
            try simp only [Act.put, List.setIfInBounds_toArray, List.set_cons_zero, List.set_cons_succ]
            refine takeP 43 (i := 3) (v := ?_) rfl rfl (by kernel_rfl) (by kernel_rfl) (by kernel_rfl) (by kernel_rfl) rfl (by kernel_rfl) (fun _ _ _ h => h) (Or.inl ⟨by kernel_rfl, ?_⟩) SX ?_
            rotate_left
            · intro w' hSw; have s3 := cell_later C3.out hSw; have s5 := cell_later C5.out hSw; go_simp; try with_reducible rfl
            try simp only [Act.put, List.setIfInBounds_toArray, List.set_cons_zero, List.set_cons_succ]
            refine takeP 44 (i := 4) (v := .agg #[.bool en, .slice eo el0 ec0, .int .i64 ee]) rfl rfl (by kernel_rfl) (by kernel_rfl) (by kernel_rfl) (by kernel_rfl) rfl (by kernel_rfl) (fun _ _ _ h => h) (yieldsIf_load_mid (by kernel_rfl) 50 _ rfl ge0 (k * 3) (by kernel_rfl) #[.bool en, .slice eo el0 ec0, .int .i64 ee].toList _ (fun V' hS => (range_later R5.out hS : V'.rangeAt ge0 (k * 3) [.bool en, .slice eo el0 ec0, .int .i64 ee])) Tryz.underlying50 rfl (by kernel_rfl)) SX ?_
            try simp only [Act.put, List.setIfInBounds_toArray, List.set_cons_zero, List.set_cons_succ]
            refine takeP 45 (i := 5) (v := ?_) rfl rfl (by kernel_rfl) (by kernel_rfl) (by kernel_rfl) (by kernel_rfl) rfl (by kernel_rfl) (fun _ _ _ h => h) (Or.inl ⟨by kernel_rfl, ?_⟩) SX ?_
            rotate_left
            · intro w' hSw; have s3 := cell_later C3.out hSw; have s5 := cell_later C5.out hSw; go_simp; try with_reducible rfl
            try simp only [Act.put, List.setIfInBounds_toArray, List.set_cons_zero, List.set_cons_succ]
            refine takeP 46 (i := 6) (v := ?_) rfl rfl (by kernel_rfl) (by kernel_rfl) (by kernel_rfl) (by kernel_rfl) rfl (by kernel_rfl) (fun _ _ _ h => h) (Or.inl ⟨by kernel_rfl, ?_⟩) SX ?_
            rotate_left
            · intro w' hSw; have s3 := cell_later C3.out hSw; have s5 := cell_later C5.out hSw; go_simp; try with_reducible rfl
            try simp only [Act.put, List.setIfInBounds_toArray, List.set_cons_zero, List.set_cons_succ]
            refine takeP 47 (i := 7) (v := ?_) rfl rfl (by kernel_rfl) (by kernel_rfl) (by kernel_rfl) (by kernel_rfl) rfl (by kernel_rfl) (fun _ _ _ h => h) (Or.inl ⟨by kernel_rfl, ?_⟩) SX ?_
            rotate_left
            · intro w' hSw; have s3 := cell_later C3.out hSw; have s5 := cell_later C5.out hSw; go_simp; try with_reducible rfl
            try simp only [Act.put, List.setIfInBounds_toArray, List.set_cons_zero, List.set_cons_succ]
            refine takeP 48 (i := 8) (v := ?_) rfl rfl (by kernel_rfl) (by kernel_rfl) (by kernel_rfl) (by kernel_rfl) rfl (by kernel_rfl) (fun _ _ _ h => h) (Or.inl ⟨by kernel_rfl, ?_⟩) SX ?_
            rotate_left
            · intro w' hSw; have s3 := cell_later C3.out hSw; have s5 := cell_later C5.out hSw; go_simp; try with_reducible rfl
            try simp only [Act.put, List.setIfInBounds_toArray, List.set_cons_zero, List.set_cons_succ]
            refine takeP 49 (i := 9) (v := ?_) rfl rfl (by kernel_rfl) (by kernel_rfl) (by kernel_rfl) (by kernel_rfl) rfl (by kernel_rfl) (fun _ _ _ h => h) (Or.inl ⟨by kernel_rfl, ?_⟩) SX ?_
            rotate_left
            · intro w' hSw; have s3 := cell_later C3.out hSw; have s5 := cell_later C5.out hSw; go_simp; try with_reducible rfl
            try simp only [Act.put, List.setIfInBounds_toArray, List.set_cons_zero, List.set_cons_succ]
            refine takeP 50 (i := 10) (v := ?_) rfl rfl (by kernel_rfl) (by kernel_rfl) (by kernel_rfl) (by kernel_rfl) rfl (by kernel_rfl) (fun _ _ _ h => h) (Or.inl ⟨by kernel_rfl, ?_⟩) SX ?_
            rotate_left
            · intro w' hSw; have s3 := cell_later C3.out hSw; have s5 := cell_later C5.out hSw; go_simp; try with_reducible rfl
            try simp only [Act.put, List.setIfInBounds_toArray, List.set_cons_zero, List.set_cons_succ]
            refine takeP 51 (i := 11) (v := ?_) rfl rfl (by kernel_rfl) (by kernel_rfl) (by kernel_rfl) (by kernel_rfl) rfl (by kernel_rfl) (fun _ _ _ h => h) (Or.inl ⟨by kernel_rfl, ?_⟩) SX ?_
            rotate_left
            · intro w' hSw; have s3 := cell_later C3.out hSw; have s5 := cell_later C5.out hSw; go_simp; try with_reducible rfl
            try simp only [Act.put, List.setIfInBounds_toArray, List.set_cons_zero, List.set_cons_succ]
            refine takeP 52 (i := 12) (v := .agg #[.bool gn, .slice go gl0 gc, .int .i64 ge]) rfl rfl (by kernel_rfl) (by kernel_rfl) (by kernel_rfl) (by kernel_rfl) rfl (by kernel_rfl) (fun _ _ _ h => h) (yieldsIf_load_mid (by kernel_rfl) 50 _ rfl b (i * 3) (by kernel_rfl) #[.bool gn, .slice go gl0 gc, .int .i64 ge].toList _ (fun V' hS => (range_later R6.out hS : V'.rangeAt b (i * 3) [.bool gn, .slice go gl0 gc, .int .i64 ge])) Tryz.underlying50 rfl (by kernel_rfl)) SX ?_
            try simp only [Act.put, List.setIfInBounds_toArray, List.set_cons_zero, List.set_cons_succ]
            refine wpAnyP_ready (rs := [13]) (by kernel_rfl) (by simp) ?_
            refine consP _ rfl (hopCd 53 rfl (by kernel_rfl) rfl (by kernel_rfl) (Calls.mono (timesC_any _ _ E 1024 1024 _ _ _ (NumC.later Z5.out SX).toZ (NumC.later Z6.out SX).toZ (by rw [HE.out]; omega) (by omega) (by omega)) ?_)) AllReadyP.nil
            rintro e V1 ⟨v1, rfl, hz1, b1⟩
            obtain ⟨n1, o1, t1, p1, x1, hv1⟩ := hz1.form
            subst hv1
            have SX : Below wr.heap.size wr V1 := to_call SX b1
            clear b1
            refine ⟨_, rfl, SX, ?_⟩
            try simp only [Act.put, List.setIfInBounds_toArray, List.set_cons_zero, List.set_cons_succ]
            refine wpAnyP_ready (rs := [14]) (by kernel_rfl) (by simp) ?_
            refine consP _ rfl (hopCd 54 rfl (by kernel_rfl) rfl (by kernel_rfl) (Calls.mono (plusC_any _ _ (E + E) (1024 + 1024) _ _ _ ((NumC.later HI.out.1.num SX).mono (by omega)) hz1 (by rw [HE.out]; omega) (by omega)) ?_)) AllReadyP.nil
            rintro e V2 ⟨v2, rfl, hz2, b2⟩
            obtain ⟨n2, o2, t2, p2, x2, hv2⟩ := hz2.form
            subst hv2
            have SX : Below wr.heap.size wr V2 := to_call SX b2
            clear b2 hz1
            refine ⟨_, rfl, SX, ?_⟩
            try simp only [Act.put, List.setIfInBounds_toArray, List.set_cons_zero, List.set_cons_succ]
            refine wpAnyP_ready (rs := [15]) (by kernel_rfl) (by simp) ?_
            refine consPs _ rfl (by kernel_rfl) (hopL rfl (wpList_store_row (by rfl) 50 _ _ (by rfl) Y Y.heap.size D #[.bool n2, .slice o2 t2 p2, .int .i64 x2] _ (by kernel_rfl) (by kernel_rfl) (kept SX HI.out.1.row) (to_call HI.out.2 SX) HDX.out 3 Tryz.infoN3 rfl rfl (oneN _ _ _ _ _) fun V3 e3 b3 s3 k3 => ?_)) AllReadyP.nil
            refine ⟨trivial, ?_⟩
            try simp only [Act.put, List.setIfInBounds_toArray, List.set_cons_zero, List.set_cons_succ]
            refine wpAnyP_done (by kernel_rfl) ?_ _
            refine NoPanic.normal ?_
            try simp only [Act.put, List.setIfInBounds_toArray, List.set_cons_zero, List.set_cons_succ]
            have HZ : Hid (BxN V3 D (E + E) 1060 (ptK (2 ^ E) cs rs gs es bs i (k + 1)) n2 o2 t2 p2 x2 ∧ Below Y.heap.size Y V3) := by
              have hz3 := hz2.cl (num_cl (kept SX HI.out.1.row)) (fun b hb _ => k3 b hb)
              have e9 : ptK (2 ^ E) cs rs gs es bs i k + (es[k]?.getD 0) * fval ((gs[k]?.getD [])[i]?.getD 0) = ptK (2 ^ E) cs rs gs es bs i (k + 1) := by unfold ptK; rw [Int.add_assoc]; rfl
              rw [e9] at hz3
              exact ⟨⟨e3, HTI.out _ _ _ i (k + 1) (by omega) hz3⟩, b3⟩
            clear hz2 SX k3 b3 e3 s3 C3 C5 R5 R6 Z5 Z6 HI
            go_wp2_with fail
            go_roundg q'
            case measure => omega
            case rel => exact ⟨k + 1, by go_num, by have := HIK.out; omega, n2, o2, t2, p2, x2, HZ⟩
          · have hd1 : decide ((k : Int) < (gs.length : Int)) = false := decide_eq_false (by omega)
            have hkg : k = gs.length := by omega
            subst hkg
            clear h1 hk
            obtain ⟨n1, o1, l1, c1', e1, hr1⟩ : ∃ (n1 : Bool) (o1 : Option Addr) (l1 c1' : Nat) (e1 : Int), n1 = n ∧ o1 = o ∧ l1 = l ∧ c1' = c ∧ e1 = e := ⟨_, _, _, _, _, rfl, rfl, rfl, rfl, rfl⟩
            obtain ⟨rfl, rfl, rfl, rfl, rfl⟩ := hr1
            obtain ⟨xs, hxo, hxj⟩ := (HO.out.later HI.out.2).own
            have HXJ : Hid _ := hxj
            rw [ptV_len] at hxo
            have HX2 : Hid _ := hxo
            have HC2 : Hid (∀ g, u7.ownBlock = some g → Cl noU (wr.alloc (.cells #[.bool n1, .slice o1 l1 c1', .int .i64 e1] 50)) g) := fun g hg => ((HO.out.cl g hg).later HI.out.2).later ((Below.refl _ wr).alloc (Nat.le_refl _) _)
            have hws : w.heap.size ≤ wr.heap.size := (to_call HB.out.1 HI.out.2).size
            clear hxo hxj
            go_wp2_with (first
              | (refine wpList_load_row (by rfl) 50 _ (by rfl) D _ (by rfl) HI.out.1.row _ Tryz.underlying50 rfl 3 Tryz.infoN3 (by rfl) ?_)
              | (at_builtin; refine append_clJ noU Tryz.underlying27 Tryz.infoNumJ rfl (by decide) (by decide) zero_noU _ (by rfl) _ _ (by rfl) w.heap.size _ i xs (by rfl) (World.ownsRow.alloc HX2.out _) HC2.out ⟨wr.heap.size, 0, none⟩ 1 1 [.bool n1, .slice o1 l1 c1', .int .i64 e1] (by rfl) (by decide) rfl (news_threeJ (heap_alloc_new wr _)) (three_one n1 o1 l1 c1' e1) (three_noU n1 o1 l1 c1' e1) (by omega) (by simp only [alloc_size]; omega) ?_; intro v5 w5 o5 g5 cl5))
            have A1 : Below wr.heap.size wr (wr.alloc (.cells #[.bool n1, .slice o1 l1 c1', .int .i64 e1] 50)) := (Below.refl _ wr).alloc (Nat.le_refl _) _
            have R5 : Hid (RowZ w5 w.heap.size v5 (E + E) 1060 (ptV (2 ^ E) cs rs gs es bs (i + 1))) := by
              unfold Hid
              rw [ptV_snoc]
              refine RowZ.push (xs := xs) (by rw [ptV_len]; exact World.ownsRow.alloc HX2.out _) (fun j hj => ?_) HC2.out (NumC.later HI.out.1.num A1) (by rw [ptV_len]; exact o5) g5 cl5
              obtain ⟨n2, o2, l2, c2, e2, a1, a2, a3, a4⟩ := HXJ.out j hj
              exact ⟨n2, o2, l2, c2, e2, a1, a2, a3, a4.later A1⟩
            have hbel := g5.below (fun k hk => (World.ownsRow.lt HX2.out k hk).1) (show w.heap.size ≤ (wr.alloc (.cells #[.bool n1, .slice o1 l1 c1', .int .i64 e1] 50)).heap.size by simp only [alloc_size]; omega)
            have B5 : Hid (Below w.heap.size w w5 ∧ w5.heap[w.heap.size]? = some (.cells #[.int .i64 (n0 : Int), .slice a1 n0 c1, .slice a2 l2 c2, .slice a3 gs.length c3, .slice a4 n0 c4] 30)) := ⟨(to_call (to_call HB.out.1 HI.out.2) A1).trans hbel, (grw_types (World.ownsRow.alloc HX2.out _) g5 _ _ _ (by decide) (kept A1 (kept HI.out.2 HB.out.2))).trans (kept A1 (kept HI.out.2 HB.out.2))⟩
            clear o5 g5 cl5 A1 HC2 HX2 HXJ hbel
            go_wp2_with fail
            go_roundg q
            case measure => omega
            case rel => exact ⟨i + 1, by go_num, by have := HIG.out; omega, R5, B5⟩
    · have hd : decide ((i : Int) < (n0 : Int)) = false := decide_eq_false (by omega)
      have hin : i = n0 := by omega
      subst hin
      clear hlt hk
      go_wp2_with fail
      go_ret
      exact ⟨_, rfl, HO.out, HB.out.1⟩
end Go.Proofs.YtfepcpkfbnpbjaaGreat
