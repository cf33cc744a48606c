import Derived.Test.YtoehhnildocihaaSCe
namespace Go.Proofs.Ytoehhnildocihaa
open Go.RowKit Go.Shelf
set_option linter.unusedVariables false
set_option linter.unusedSimpArgs false
theorem put_noneP {P : Program} {md : Region.Mode} {ops : Array Oper} {Q : Exit → Act → World → Prop} {S : World → Prop} {s fuel : Nat} {l : Array Bool} {a : Act} {dst : Option Tmp} {v : Value} {w : World} (hd : dst = none) (h : wpAnyP P md ops Q S s fuel l a w) : wpAnyP P md ops Q S s fuel l (a.put dst v) w := by subst hd; exact h
theorem Try.szPA : (Try.prog.info? 73).map (·.size) = some 1 := by kernel_rfl
theorem fval_oneM {E : Nat} (hE : E = 1074) : fval 4607182418800017408 = ((2 ^ E : Nat) : Int) := by
  subst hE
  exact of_decide_eq_true (by kernel_rfl)
/-- The sum of the sizes. -/
def saK (us : List Nat) : Nat → Nat
  | 0 => 0
  | k + 1 => saK us k + rmag (frung (us[k]?.getD 0))
theorem fin_frung {u : Nat} : Fin (frung u) ↔ Fin u := by unfold Fin; rw [show frung (frung u) = frung u by unfold frung; omega]
theorem fval_frungC (u : Nat) : fval (frung u) = (rmag (frung u) : Int) := by
  unfold fval
  rw [show fneg (frung u) = false by unfold fneg frung; simp, show frung (frung u) = frung u by unfold frung; omega]
  rfl
theorem lnK_none (us : List Nat) (l : Int) : ∀ k, (∃ j, j < k ∧ ¬ Fin (us[j]?.getD 0)) → lnK us l k = none
  | 0, h => by obtain ⟨j, hj, _⟩ := h; omega
  | k + 1, h => by
    obtain ⟨j, hj, hn⟩ := h
    unfold lnK
    by_cases e : j = k
    · subst e; exact prodO_bad (fun h => hn (fin_frung.1 h))
    · rw [lnK_none us l k ⟨j, by omega, hn⟩]; rfl
theorem saK_le {us : List Nat} {F : Nat} (hF : F = 2098) (hd : ∀ j : Nat, Fin (us[j]?.getD 0)) : ∀ k, saK us k ≤ k * 2 ^ F
  | 0 => by unfold saK; omega
  | k + 1 => by
    have h1 := saK_le hF hd k
    have h2 := fval_ltJ (hd k) hF
    unfold saK
    rw [Nat.add_mul]
    omega
theorem lnK_is {us : List Nat} {L a F G : Nat} (hL : L ≤ 8) (ha : a = 1166 - L) (hF : F = 2098) (hG : G = 2140) (hd : ∀ j : Nat, Fin (us[j]?.getD 0)) (hn : us.length ≤ 1050000) : ∀ k, k ≤ us.length → lnK us (L : Int) k = some ((saK us k : Int) * ((2 ^ a : Nat) : Int))
  | 0, _ => by simp [lnK, saK]
  | k + 1, h => by
    obtain ⟨E, hE⟩ : ∃ E : Nat, E = 1074 := ⟨_, rfl⟩
    have ih := lnK_is hL ha hF hG hd hn k (by omega)
    have hb := saK_le hF hd (k + 1)
    have hk : (k + 1) * 2 ^ F ≤ 1050000 * 2 ^ F := Nat.mul_le_mul_right _ (by omega)
    have hm : 1050000 * 2 ^ F < 2 ^ G := by
      rw [show G = F + 42 by omega, Nat.pow_add, Nat.mul_comm]
      exact Nat.mul_lt_mul_of_pos_left (by decide) (Nat.two_pow_pos F)
    unfold lnK
    rw [ih]
    unfold prodO
    simp only [Option.bind_some]
    rw [if_pos ⟨fin_frung.2 (hd k), fin_oneC, by omega, by omega⟩]
    have e1 : prodZ (frung (us[k]?.getD 0)) 4607182418800017408 (-(L : Int)) = (rmag (frung (us[k]?.getD 0)) : Int) * ((2 ^ a : Nat) : Int) := by
      unfold prodZ
      rw [fval_frungC, fval_oneM hE, Int.mul_assoc]
      congr 1
      rw [← Int.natCast_mul, ← Nat.pow_add]
      congr 2
      omega
    rw [e1, ← Int.add_mul]
    have e2 : (saK us k : Int) + (rmag (frung (us[k]?.getD 0)) : Int) = ((saK us (k + 1) : Nat) : Int) := by
      show _ = ((saK us k + rmag (frung (us[k]?.getD 0)) : Nat) : Int)
      omega
    rw [e2]
    exact hold_g (E := G) (by omega) (by rw [Int.natAbs_natCast]; omega)
/-- How far a column goes within its part, in parts of 2^8. -/
def colD (gs : List (List Nat)) (zs : List (Int × Int)) (s : Nat) : Int := (saK (gs[s]?.getD []) (gs[s]?.getD []).length : Int) * ((2 ^ (8 - (zs[s]?.getD (0, 0)).1.toNat) : Nat) : Int)
def blV (gs : List (List Nat)) (zs : List (Int × Int)) (n : Nat) : Int := if (List.range n).all (fun s => numsB (gs[s]?.getD [])) = true then (grK (colD gs zs) n).1 else -1
theorem fins_num {us : List Nat} (h : numsB us = true) : ∀ j : Nat, Fin (us[j]?.getD 0) := finsC fun u hu => of_decide_eq_true (List.all_eq_true.1 h u hu)
theorem ln_num {us : List Nat} {L H : Nat} (hH : H = 1158) (hL : L ≤ 8) (hn : us.length ≤ 1050000) : ((lnK us (L : Int) us.length).isNone = !numsB us) ∧ (numsB us = true → lnK us (L : Int) us.length = some (((saK us us.length : Int) * ((2 ^ (8 - L) : Nat) : Int)) * ((2 ^ H : Nat) : Int))) := by
  by_cases h : numsB us = true
  · have e := lnK_is (a := 1166 - L) hL rfl rfl rfl (fins_num h) hn us.length (Nat.le_refl _)
    refine ⟨by rw [e, h]; rfl, fun _ => ?_⟩
    have e3 : ((2 ^ (8 - L) : Nat) : Int) * ((2 ^ H : Nat) : Int) = ((2 ^ (1166 - L) : Nat) : Int) := by
      rw [← Int.natCast_mul, ← Nat.pow_add]
      congr 2
      omega
    rw [e, Int.mul_assoc, e3]
  · have e1 : numsB us = false := by simpa using h
    have : ∃ j, j < us.length ∧ ¬ Fin (us[j]?.getD 0) := by
      by_cases c : ∃ j, j < us.length ∧ ¬ Fin (us[j]?.getD 0)
      · exact c
      · exfalso
        apply h
        unfold numsB
        rw [List.all_eq_true]
        intro u hu
        obtain ⟨j, hj, e⟩ := List.mem_iff_getElem.1 hu
        have h1 : us[j]?.getD 0 = u := by rw [List.getElem?_eq_getElem hj]; exact e
        exact decide_eq_true (Decidable.by_contra fun hf => c ⟨j, hj, by rw [h1]; exact hf⟩)
    exact ⟨by rw [lnK_none us _ _ this, e1]; rfl, fun c => absurd c h⟩
/-- The pointers while they are made. -/
structure LnS (W : World) (LB n k : Nat) (p : Nat → Nat) (v : Nat → Int) : Prop where
  r : ∃ cur, W.heap[LB]? = some (.cells cur 73) ∧ cur.size = n ∧ ∀ j, j < k → cur[j]? = some (.pointer (some ⟨p j, 0, none⟩))
  a : ∀ j, j < k → AccO W (p j) (some (v j)) ∧ p j ≠ LB
theorem LnS.later {W W' : World} {LB n k : Nat} {p : Nat → Nat} {v : Nat → Int} (h : LnS W LB n k p v) (hb : Below W.heap.size W W') : LnS W' LB n k p v := by
  obtain ⟨cur, h1, h2, h3⟩ := h.r
  exact ⟨⟨cur, kept hb h1, h2, h3⟩, fun j hj => ⟨(h.a j hj).1.below hb (h.a j hj).1.block, (h.a j hj).2⟩⟩
theorem LnS.acl {W : World} {LB n : Nat} {p : Nat → Nat} {v : Nat → Int} (h : LnS W LB n n p v) (hm : n ≤ maxLen) : AcL W (some ⟨LB, 0, none⟩) n p v := by
  obtain ⟨cur, h1, h2, h3⟩ := h.r
  exact ⟨hm, .inr ⟨LB, 0, rfl, fun j hj => by rw [Nat.zero_add]; exact cellAtJ h1 j _ (h3 j hj)⟩, fun j hj => (h.a j hj).1⟩
theorem makePA (n : Nat) (hn : n ≤ 4000000) (w : World) :
    ∃ C : Array Value, C.size = n ∧ (Instr.makeSlice 72 (.int .i64 (n : Int)) (.int .i64 (n : Int))).run Try.prog w = .ok (.slice (some ⟨w.heap.size, 0, none⟩) n n) (w.alloc (.cells C 73)) := by
  obtain ⟨i0, hi, hz0, hz1, hz2⟩ := info3J Try.infoPA
  have h := run_makeSlice (P := Try.prog) w 72 73 i0 (.pointer none) Try.underlying72 hi hz0 .i64 .i64 (n : Int) (n : Int) (by omega) (by omega) (by rw [hz1, Int.toNat_natCast]; omega) (by rw [hz2]; omega) (by omega)
  rw [Int.toNat_natCast, hz1, Nat.mul_one] at h
  refine ⟨_, ?_, h⟩
  unfold madeCells
  simp [Value.cells]
theorem one_ptr (a : Option Addr) : ∀ u ∈ (Value.pointer a).cells.toList, u.oneCell' = true := by
  intro u hu
  have : u = .pointer a := by simpa [Value.cells] using hu
  rw [this]; rfl
set_option maxRecDepth 100000 in
set_option maxHeartbeats 4000000 in
theorem byLength_any (go : Option Addr) (n gc PB : Nat) (gv : Nat → Option Addr × Nat × Nat) (gs : List (List Nat)) (zs : List (Int × Int)) (w : World) (hn : n ≤ 256) (hzl : zs.length = n) (hlv : ∀ j, j < n → 0 ≤ (zs[j]?.getD (0, 0)).1 ∧ (zs[j]?.getD (0, 0)).1 ≤ 8) (hg : RdGs w go n gc gv gs) (hgl : ∀ j, j < n → (gs[j]?.getD []).length ≤ 1050000) (hp : w.heap[PB]? = some (.cells (ptC zs) 69)) :
    Calls Try.prog 14 #[.slice go n gc, .slice (some ⟨PB, 0, none⟩) n n] w fun e w' => e = .returned (.int .i64 (blV gs zs n)) ∧ Below w.heap.size w w' := by
  have HG : Hid (∀ W', Below w.heap.size w W' → RdGs W' go n gc gv gs) := fun W' hb => hg.later hb
  have HVP : Hid (w.heap[PB]? = some (.cells (ptC zs) 69)) := hp
  have HZL : Hid (zs.length = n) := hzl
  have HLV : Hid (∀ j, j < n → 0 ≤ (zs[j]?.getD (0, 0)).1 ∧ (zs[j]?.getD (0, 0)).1 ≤ 8) := hlv
  have HGL : Hid (∀ j, j < n → (gs[j]?.getD []).length ≤ 1050000) := hgl
  obtain ⟨H, hH⟩ : ∃ H : Nat, H = 1158 := ⟨_, rfl⟩
  have HH : Hid (H = 1158) := hH
  obtain ⟨V, hV⟩ : ∃ V : Nat → Int, (fun j => colD gs zs j * ((2 ^ H : Nat) : Int)) = V := ⟨_, rfl⟩
  have HVJ : Hid (∀ j, V j = colD gs zs j * ((2 ^ H : Nat) : Int)) := fun j => by rw [← hV]
  have HVG : Hid (gaK V n = (grK (colD gs zs) n).1) := by
    unfold Hid
    rw [gaK_is V n (by intro j _; rw [← hV]; exact Int.mul_nonneg (Int.mul_nonneg (Int.natCast_nonneg _) (Int.natCast_nonneg _)) (Int.natCast_nonneg _)), ← hV, grK_scale (Int.natCast_pos.2 (Nat.two_pow_pos H))]
  obtain ⟨C, hCs, hmk⟩ := makePA n (by omega) w
  obtain ⟨R, hR⟩ : ∃ R : Int, blV gs zs n = R := ⟨_, rfl⟩
  have HRES : Hid (blV gs zs n = R) := hR
  rw [hR]
  clear hg hp hzl hlv hgl hH hV hR
  go_enter Try.func14, Try.ntmps14
  go_upto_region 2 with fail
  obtain ⟨W1, hW1⟩ : ∃ W1, (w.alloc (.cells C 73)) = W1 := ⟨_, rfl⟩
  obtain ⟨LB, hLB⟩ : ∃ b, w.heap.size = b := ⟨_, rfl⟩
  have A1 : Below w.heap.size w W1 := by rw [← hW1]; exact (Below.refl _ w).alloc (Nat.le_refl _) _
  have Y1 : W1.heap[LB]? = some (.cells C 73) := by rw [← hW1, ← hLB]; exact heap_alloc_new w _
  rw [hW1, hLB]
  have HLB0 : Hid (w.heap.size = LB) := hLB
  have T0 : Hid (Below w.heap.size w W1 ∧ W1.heap[PB]? = some (.cells (ptC zs) 69) ∧ ∃ p, LnS W1 LB n 0 p V) := ⟨A1, kept A1 HVP.out, fun _ => 0, ⟨C, Y1, hCs, fun j hj => absurd hj (by omega)⟩, fun j hj => absurd hj (by omega)⟩
  clear hW1 hLB A1 Y1 hCs hmk
  go_wp2_with fail
  go_loopg [13] n (fun g iv wx => ∃ j : Nat, iv = .int .i64 j ∧ j + g = n ∧ Hid ((List.range j).all (fun s => numsB (gs[s]?.getD [])) = true) ∧ Hid (Below w.heap.size w wx ∧ wx.heap[PB]? = some (.cells (ptC zs) 69) ∧ ∃ p, LnS wx LB n j p V))
  case atStart => exact ⟨0, rfl, by omega, rfl, T0⟩
  case round =>
    clear T0
    obtain ⟨j, rfl, hj, HAL, TT⟩ := hrel
    obtain ⟨bW, hPB, p, L0⟩ := TT.out
    have P2 : Hid (Below w.heap.size w wr ∧ wr.heap[PB]? = some (.cells (ptC zs) 69) ∧ LnS wr LB n j p V) := ⟨bW, hPB, L0⟩
    clear TT bW hPB L0
    by_cases hlt : j < n
    · have e1 : decide ((j : Int) < (n : Int)) = true := decide_eq_true (by omega)
      obtain ⟨q, rfl⟩ : ∃ q, gk = q + 1 := ⟨gk - 1, by omega⟩
      have HIG : Hid (j + (q + 1) = n) := hj
      have hlt' : (j : Int) < (n : Int) := by omega
      have hlvj := HLV.out j hlt
      obtain ⟨⟨lv, av⟩, hz9⟩ : ∃ x, zs[j]?.getD (0, 0) = x := ⟨_, rfl⟩
      have hzj : zs[j]? = some (lv, av) := by rw [← hz9, List.getElem?_eq_getElem (by rw [HZL.out]; exact hlt)]; rfl
      rw [hz9] at hlvj
      obtain ⟨hl0, hl8⟩ := hlvj
      dsimp only at hl0 hl8
      have hz := ptC_at hzj
      have g0 := cellAtJ P2.out.2.1 _ _ hz.1
      have g1 := cellAtJ P2.out.2.1 _ _ hz.2
      have HZ9 : Hid (zs[j]?.getD (0, 0) = (lv, av)) := hz9
      clear hz hzj hz9 hj
      go_upto_region 5 with fail
      obtain ⟨B5, h5⟩ : ∃ B5, wr.heap.size = B5 := ⟨_, rfl⟩
      obtain ⟨W4, h4⟩ : ∃ W4, wr.alloc (.cells #[.int .i64 lv, .int .i64 av] 69) = W4 := ⟨_, rfl⟩
      have A4 : Below wr.heap.size wr W4 := by rw [← h4]; exact (Below.refl _ wr).alloc (Nat.le_refl _) _
      have HB5 : W4.heap[B5]? = some (.cells #[.int .i64 lv, .int .i64 av] 69) := by rw [← h4, ← h5]; exact heap_alloc_new wr _
      have L4 := P2.out.2.2.later A4
      obtain ⟨cur, hc1, hc2, hc3⟩ := L4.r
      have P4 : Hid (Below w.heap.size w W4 ∧ W4.heap[PB]? = some (.cells (ptC zs) 69) ∧ LnS W4 LB n j p V) := ⟨to_call P2.out.1 A4, kept A4 P2.out.2.1, L4⟩
      have HC4 : Hid (W4.heap[LB]? = some (.cells cur 73) ∧ cur.size = n ∧ ∀ i, i < j → cur[i]? = some (.pointer (some ⟨p i, 0, none⟩))) := ⟨hc1, hc2, hc3⟩
      rw [h4, h5]
      have gg := (HG.out _ P4.out.1)
      rcases gg.cells with h0 | ⟨gb, goff, rfl, hcg⟩
      · omega
      have gc9 := hcg j hlt
      have rg := gg.each j hlt
      obtain ⟨x1, ex1⟩ : ∃ t, (gv j).1 = t := ⟨_, rfl⟩
      obtain ⟨x2, ex2⟩ : ∃ t, (gv j).2.1 = t := ⟨_, rfl⟩
      obtain ⟨x3, ex3⟩ : ∃ t, (gv j).2.2 = t := ⟨_, rfl⟩
      rw [ex1, ex2, ex3] at rg gc9
      have RG : Hid (RdF W4 x1 x2 x3 (gs[j]?.getD [])) := rg
      have hx2 : (gs[j]?.getD []).length = x2 := rg.length
      have K0 : Hid (W4.cell? ⟨gb, goff + j, none⟩ = some (.slice x1 x2 x3)) := gc9
      have K1 : Hid (W4.cell? ⟨B5, 0, none⟩ = some (.int .i64 lv)) := cellAtJ HB5 0 _ rfl
      obtain ⟨dd, hd1, hd2, hd3, hd4⟩ := setP_cells (c := cur) (k := j) (v := .pointer (some ⟨W4.drew.heap.size, 0, none⟩)) (by rw [hc2]; exact hlt) rfl
      have hdd : Hid ((cur.toList.take j ++ (Value.pointer (some ⟨W4.drew.heap.size, 0, none⟩)).cells.toList ++ cur.toList.drop (j + 1)).toArray = dd) := hd1
      have HD9 : Hid (dd.size = cur.size ∧ dd[j]? = some (.pointer (some ⟨W4.drew.heap.size, 0, none⟩)) ∧ ∀ i, i ≠ j → dd[i]? = cur[i]?) := ⟨hd2, hd3, hd4⟩
      have HLB : Hid (w.heap.size ≤ LB) := by have := HLB0.out; unfold Hid; omega
      obtain ⟨L, rfl⟩ : ∃ L : Nat, lv = L := ⟨lv.toNat, by omega⟩
      have hln := ln_num (us := gs[j]?.getD []) (L := L) HH.out (by omega) (HGL.out j hlt)
      rw [hx2] at hln
      have HLN : Hid _ := hln
      have HCD : Hid (colD gs zs j = (saK (gs[j]?.getD []) x2 : Int) * ((2 ^ (8 - L) : Nat) : Int)) := by unfold Hid colD; rw [HZ9.out, hx2]; rfl
      clear h4 h5 A4 P2 g0 g1 HB5 L4 hc1 hc2 hc3 gg hcg gc9 rg ex1 ex2 ex3 hd1 hd2 hd3 hd4 hln hx2 HZ9
      refine wp_region_noPanic ?_
      refine wp_region_P (S := (fun V => Below W4.heap.size W4 V)) (s := 10) (by kernel_rfl) ?_
      have SX : Below W4.heap.size W4 W4.drew := (Below.refl _ _).drew
      refine takeP 18 (i := 0) (v := ?_) rfl rfl (by kernel_rfl) (by kernel_rfl) (by kernel_rfl) (by kernel_rfl) rfl (by kernel_rfl) (fun _ _ _ h => h) (Or.inl ⟨by kernel_rfl, ?_⟩) SX ?_
      rotate_left
      · intro w' hSw; skip; go_simp; try with_reducible rfl
      try simp only [Act.put, List.setIfInBounds_toArray, List.set_cons_zero, List.set_cons_succ]
      refine takeP 19 (i := 1) (v := ?_) rfl rfl (by kernel_rfl) (by kernel_rfl) (by kernel_rfl) (by kernel_rfl) rfl (by kernel_rfl) (fun _ _ _ h => h) (Or.inl ⟨by kernel_rfl, ?_⟩) SX ?_
      rotate_left
      · intro w' hSw; skip; go_simp; try with_reducible rfl
      try simp only [Act.put, List.setIfInBounds_toArray, List.set_cons_zero, List.set_cons_succ]
      refine takeP 20 (i := 2) (v := ?_) rfl rfl (by kernel_rfl) (by kernel_rfl) (by kernel_rfl) (by kernel_rfl) rfl (by kernel_rfl) (fun _ _ _ h => h) (Or.inl ⟨by kernel_rfl, ?_⟩) SX ?_
      rotate_left
      · intro w' hSw; skip; go_simp; try with_reducible rfl
      try simp only [Act.put, List.setIfInBounds_toArray, List.set_cons_zero, List.set_cons_succ]
      refine takeP 21 (i := 3) (v := ?_) rfl rfl (by kernel_rfl) (by kernel_rfl) (by kernel_rfl) (by kernel_rfl) rfl (by kernel_rfl) (fun _ _ _ h => h) (Or.inl ⟨by kernel_rfl, ?_⟩) SX ?_
      rotate_left
      · intro w' hSw; skip; go_simp; try with_reducible rfl
      try simp only [Act.put, List.setIfInBounds_toArray, List.set_cons_zero, List.set_cons_succ]
      refine takeP 22 (i := 4) (v := ?_) rfl rfl (by kernel_rfl) (by kernel_rfl) (by kernel_rfl) (by kernel_rfl) rfl (by kernel_rfl) (fun _ _ _ h => h) (Or.inl ⟨by kernel_rfl, ?_⟩) SX ?_
      rotate_left
      · intro w' hSw; skip; go_simp; try with_reducible rfl
      try simp only [Act.put, List.setIfInBounds_toArray, List.set_cons_zero, List.set_cons_succ]
      refine takeP 23 (i := 5) (v := ?_) rfl rfl (by kernel_rfl) (by kernel_rfl) (by kernel_rfl) (by kernel_rfl) rfl (by kernel_rfl) (fun _ _ _ h => h) (Or.inl ⟨by kernel_rfl, ?_⟩) SX ?_
      rotate_left
      · intro w' hSw; have t0 := cell_later K0.out hSw; have t1 := cell_later K1.out hSw; go_simp; try with_reducible rfl
      try simp only [Act.put, List.setIfInBounds_toArray, List.set_cons_zero, List.set_cons_succ]
      refine takeP 24 (i := 6) (v := ?_) rfl rfl (by kernel_rfl) (by kernel_rfl) (by kernel_rfl) (by kernel_rfl) rfl (by kernel_rfl) (fun _ _ _ h => h) (Or.inl ⟨by kernel_rfl, ?_⟩) SX ?_
      rotate_left
      · intro w' hSw; skip; go_simp; try with_reducible rfl
      try simp only [Act.put, List.setIfInBounds_toArray, List.set_cons_zero, List.set_cons_succ]
      refine takeP 25 (i := 7) (v := ?_) rfl rfl (by kernel_rfl) (by kernel_rfl) (by kernel_rfl) (by kernel_rfl) rfl (by kernel_rfl) (fun _ _ _ h => h) (Or.inl ⟨by kernel_rfl, ?_⟩) SX ?_
      rotate_left
      · intro w' hSw; have t0 := cell_later K0.out hSw; have t1 := cell_later K1.out hSw; go_simp; try with_reducible rfl
      try simp only [Act.put, List.setIfInBounds_toArray, List.set_cons_zero, List.set_cons_succ]
      refine wpAnyP_ready (rs := [8]) (by kernel_rfl) (by simp) ?_
      refine consP _ rfl (hopCd 26 rfl (by kernel_rfl) rfl (by kernel_rfl) (Calls.mono (length_any x1 x2 x3 (gs[j]?.getD []) (L : Int) hl0 hl8 _ (RG.out.later SX)) ?_)) AllReadyP.nil
      rintro e V8 ⟨rfl, a8, b8, s8⟩
      have hAB : W4.heap.size ≤ W4.drew.heap.size := SX.size
      have SX2 : Below W4.heap.size W4 V8 := to_call SX b8
      refine ⟨_, rfl, SX2, ?_⟩
      try simp only [Act.put, List.setIfInBounds_toArray, List.set_cons_zero, List.set_cons_succ]
      refine takeP 27 (i := 9) (v := ?_) rfl rfl (by kernel_rfl) (by kernel_rfl) (by kernel_rfl) (by kernel_rfl) rfl (by kernel_rfl) (fun _ _ _ h => h) (Or.inl ⟨by kernel_rfl, ?_⟩) SX2 ?_
      rotate_left
      · intro w' hSw; skip; go_simp; try with_reducible rfl
      try simp only [Act.put, List.setIfInBounds_toArray, List.set_cons_zero, List.set_cons_succ]
      refine wpAnyP_ready (rs := [10]) (by kernel_rfl) (by simp) ?_
      refine consPs _ rfl (by kernel_rfl) (hopL rfl (wpList_store_at (by rfl) 73 _ _ (by rfl) w w.heap.size LB j (.pointer (some ⟨W4.drew.heap.size, 0, none⟩)) cur dd 73 (by kernel_rfl) (by kernel_rfl) (kept SX2 HC4.out.1) (to_call P4.out.1 SX2) HLB.out 1 Try.szPA rfl (by rw [HC4.out.2.1]; omega) (one_ptr _) hdd.out ?_)) AllReadyP.nil
      intro W9 e9 b9 s9 o9
      refine ⟨trivial, ?_⟩
      refine put_noneP rfl ?_
      refine wpAnyP_done (by kernel_rfl) ?_ _
      refine NoPanic.normal ?_
      try simp only [Act.put, List.setIfInBounds_toArray, List.set_cons_zero, List.set_cons_succ]
      have hL4 := blk_lt HC4.out.1
      have hWs : W4.heap.size ≤ W4.drew.heap.size := SX.size
      have hblk : W4.drew.heap.size ≠ LB := by omega
      have hacc : AccO W9 W4.drew.heap.size (lnK (gs[j]?.getD []) (L : Int) x2) := a8.heap (o9 _ hblk)
      have P9 : Hid (Below w.heap.size w W9 ∧ W9.heap[PB]? = some (.cells (ptC zs) 69) ∧ W9.heap[LB]? = some (.cells dd 73) ∧ AccO W9 W4.drew.heap.size (lnK (gs[j]?.getD []) (L : Int) x2) ∧ (∀ i, i < j → AccO W9 (p i) (some (V i)) ∧ p i ≠ LB)) := by
        refine ⟨b9, (o9 PB ?_).trans (kept SX2 P4.out.2.1), e9, hacc, fun i hi => ⟨?_, (P4.out.2.2.a i hi).2⟩⟩
        · intro hc
          subst hc
          have h1 := P4.out.2.1
          rw [HC4.out.1] at h1
          injection h1 with h1
          injection h1 with _ h1
          exact absurd h1 (by decide)
        · have h1 := (P4.out.2.2.a i hi).1
          exact (h1.below SX2 h1.block).heap (o9 _ (P4.out.2.2.a i hi).2)
      obtain ⟨B8, hB8⟩ : ∃ b, W4.drew.heap.size = b := ⟨_, rfl⟩
      rw [hB8] at P9 HD9 hblk
      have kk : W9.cell? ⟨LB, j, none⟩ = some (.pointer (some ⟨B8, 0, none⟩)) := cellAtJ P9.out.2.2.1 j _ HD9.out.2.1
      have HBD : Hid (Calls Try.prog 32 #[.pointer (some ⟨B8, 0, none⟩)] W9 fun e w' => e = .returned (.bool (!numsB (gs[j]?.getD []))) ∧ w' = W9) := by
        have h := bad_any B8 _ W9 P9.out.2.2.2.1
        rw [HLN.out.1] at h
        exact h
      obtain ⟨nb, hnb⟩ : ∃ nb, numsB (gs[j]?.getD []) = nb := ⟨_, rfl⟩
      have HNB : Hid (numsB (gs[j]?.getD []) = nb) := hnb
      rw [hnb] at HBD
      clear a8 b8 s8 SX SX2 hAB e9 b9 s9 o9 hacc hL4 hWs hnb P4 K0 K1 RG
      go_wp2_with fail
      refine Calls.mono HBD.out ?_
      rintro e w7 ⟨rfl, rfl⟩
      cases nb with
      | false =>
        have HQ : Hid (R = -1) := by
          unfold Hid
          rw [← HRES.out]
          unfold blV
          rw [if_neg]
          intro hc
          have := List.all_eq_true.1 hc j (List.mem_range.2 hlt)
          rw [HNB.out] at this
          cases this
        go_wp2_with fail
        go_ret
        exact ⟨by rw [HQ.out]; rfl, P9.out.1⟩
      | true =>
        have HAL2 : Hid ((List.range (j + 1)).all (fun s => numsB (gs[s]?.getD [])) = true) := by
          unfold Hid
          rw [List.range_succ, List.all_append, HAL.out]
          simp [HNB.out]
        have T2 : Hid (Below w.heap.size w w7 ∧ w7.heap[PB]? = some (.cells (ptC zs) 69) ∧ ∃ p, LnS w7 LB n (j + 1) p V) := by
          refine ⟨P9.out.1, P9.out.2.1, fun i => if i = j then B8 else p i, ⟨dd, P9.out.2.2.1, by rw [HD9.out.1]; exact HC4.out.2.1, fun i hi => ?_⟩, fun i hi => ?_⟩
          · by_cases e : i = j
            · subst e; simp only [if_pos]; exact HD9.out.2.1
            · simp only [if_neg e]; rw [HD9.out.2.2 i e]; exact HC4.out.2.2 i (by omega)
          · by_cases e : i = j
            · subst e
              simp only [if_pos]
              refine ⟨?_, hblk⟩
              have h := P9.out.2.2.2.1
              rw [HLN.out.2 HNB.out, ← HCD.out, ← HVJ.out] at h
              exact h
            · simp only [if_neg e]; exact P9.out.2.2.2.2 i (by omega)
        clear P9 kk HBD HAL
        go_wp2_with fail
        go_roundg q
        case measure => omega
        case rel => exact ⟨j + 1, by go_num, by have := HIG.out; omega, HAL2, T2⟩
    · have e1 : decide ((j : Int) < (n : Int)) = false := decide_eq_false (by omega)
      have e2 : decide (j < n) = false := decide_eq_false hlt
      have ej : j = n := by omega
      rw [ej] at P2 HAL
      have HQ : Hid (gaK V n = R) := by unfold Hid; rw [HVG.out, ← HRES.out]; unfold blV; rw [if_pos HAL.out]
      have HAB : Hid (Calls Try.prog 30 #[.slice (some ⟨LB, 0, none⟩) n n] wr fun e w' => e = .returned (.int .i64 R) ∧ Below wr.heap.size wr w') := HQ.out ▸ above_any _ n n p V wr (P2.out.2.2.acl (Nat.le_trans hn (by decide)))
      clear hj ej
      go_wp2_with fail
      refine Calls.mono HAB.out ?_
      rintro e w7 ⟨rfl, b7⟩
      go_wp2_with fail
      go_ret
      exact ⟨rfl, to_call P2.out.1 b7⟩
end Go.Proofs.Ytoehhnildocihaa
