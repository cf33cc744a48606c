import Derived.Test.YtnjjichanfpbhaaGreatRT
namespace Go.Proofs.YtnjjichanfpbhaaGreat
open Go.RowKit
set_option linter.unusedVariables false

/-- THE LIST OF Nums AT ⟨b, off⟩ HOLDS THE REALS Z. -/
def RdM (w : World) (b off len s : Nat) (T : Int) (Z : Nat → Int) : Prop := ∀ j, j < len → ∃ n o l c e, (w.cell? ⟨b, off + j * 3, none⟩ = some (.bool n) ∧ w.cell? ⟨b, off + j * 3 + 1, none⟩ = some (.slice o l c) ∧ w.cell? ⟨b, off + j * 3 + 2, none⟩ = some (.int .i64 e)) ∧ NumZ w (.agg #[.bool n, .slice o l c, .int .i64 e]) s T (Z j)
theorem RdM.later {w w' : World} {b off len s : Nat} {T : Int} {Z : Nat → Int} (h : RdM w b off len s T Z) (hb : Below w.heap.size w w') : RdM w' b off len s T Z := by
  intro j hj
  obtain ⟨n, o, l, c, e, ⟨h1, h2, h3⟩, h4⟩ := h j hj
  have hl := World.block_lt_of_cell? w _ h1
  exact ⟨n, o, l, c, e, ⟨by rw [hb.cell (p := ⟨b, off + j * 3, none⟩) hl]; exact h1, by rw [hb.cell (p := ⟨b, off + j * 3 + 1, none⟩) hl]; exact h2, by rw [hb.cell (p := ⟨b, off + j * 3 + 2, none⟩) hl]; exact h3⟩, h4.later hb⟩
def minZ (Z : Nat → Int) : Nat → Int
  | 0 => Z 0
  | n + 1 => min (minZ Z n) (Z n)
def maxZ (Z : Nat → Int) : Nat → Int
  | 0 => Z 0
  | n + 1 => max (maxZ Z n) (Z n)
theorem cell_hp {w w' : World} {b f : Nat} (h : w'.heap[b]? = w.heap[b]?) : w'.cell? ⟨b, f, none⟩ = w.cell? ⟨b, f, none⟩ := by
  unfold World.cell?
  simp only [h]
theorem to_b {V W W' : World} (h : Below V.heap.size V W) (g : Below W.heap.size W W') : Below V.heap.size V W' := h.trans (g.mono h.size)
set_option maxRecDepth 100000 in
theorem ex_loadA {ρ : Operand → Value} (o : Oper) (p : Operand) (ho : o.op = .load 61 p) (B f : Nat) (hp : ρ p = .pointer (some ⟨B, f, none⟩)) (w : World) (n : Bool) (so : Option Addr) (l c : Nat) (e : Int) (h : w.cell? ⟨B, f, none⟩ = some (.bool n) ∧ w.cell? ⟨B, f + 1, none⟩ = some (.slice so l c) ∧ w.cell? ⟨B, f + 2, none⟩ = some (.int .i64 e)) : (execOp ρ o).run Tryz.prog w = .ok (.value (.agg #[.bool n, .slice so l c, .int .i64 e])) w := by
  obtain ⟨x0, x1, x2⟩ := h
  simp only [execOp, ho, hp]
  simp [go_sem, x0, x1, x2, Result.andThen]
/-- What the loop of hull keeps. -/
structure HuS (w wr : World) (b off len s Pp Pq : Nat) (T : Int) (Z : Nat → Int) (k : Nat) (ZU : Obj) : Prop where
  bel : Below w.heap.size w wr
  rd : RdM wr b off len s T Z
  rs : wr.heap[w.heap.size]? = some ZU
  pp : ∃ n o l c e, wr.heap[Pp]? = some (Obj.cells #[Value.bool n, Value.slice o l c, Value.int IntKind.i64 e] 61) ∧ NumZ wr (.agg #[.bool n, .slice o l c, .int .i64 e]) s T (minZ Z k)
  pq : ∃ n o l c e, wr.heap[Pq]? = some (Obj.cells #[Value.bool n, Value.slice o l c, Value.int IntKind.i64 e] 61) ∧ NumZ wr (.agg #[.bool n, .slice o l c, .int .i64 e]) s T (maxZ Z k)
theorem hopVd {P : Program} {ops : Array Oper} {Q : Exit → Act → World → Prop} {i : Nat} {o : Oper} {K : Act → World → Prop} {a : Act} {w w' : World} {v : Value} (d : Nat) (ho : ops[i]? = some o) (hw : Region.wanted o (yielded ops a.tmps) = true) (hd : o.dst = some d) (hr : (execOp a.eval o).run P w = .ok (.value v) w') (h : K (a.put (some d) v) w') : wpOp P ops Q i K a w :=
  wpOp_step ho fun K' hK => by
    rw [if_pos hw]
    unfold Oper.wp
    rw [hr, Oper.upon_value, hd]
    exact hK _ _ h
theorem HuS.set {w wr W9 m0 : World} {b off len s Pp Pq X : Nat} {T : Int} {Z : Nat → Int} {k : Nat} {ZU : Obj} (h : HuS w wr b off len s Pp Pq T Z k ZU) (h0 : Below wr.heap.size wr m0) (t9 : ∀ B, B ≠ X → W9.heap[B]? = m0.heap[B]?) (z9 : ∀ u s T z, NumZ m0 u s T z → NumZ W9 u s T z) (b9 : ∀ m w0, Below m w0 m0 → m ≤ X → Below m w0 W9) (hX : w.heap.size < X) (hb : b ≠ X) : Below w.heap.size w W9 ∧ RdM W9 b off len s T Z ∧ W9.heap[w.heap.size]? = some ZU := by
  refine ⟨b9 _ _ (h.bel.trans (h0.mono h.bel.size)) (by omega), ?_, (t9 _ (by omega)).trans (keep0 h.rs h0)⟩
  intro j hj
  obtain ⟨n, o, l, c, e, ⟨h1, h2, h3⟩, h4⟩ := RdM.later h.rd h0 j hj
  exact ⟨n, o, l, c, e, ⟨by rw [cell_hp (t9 b hb)]; exact h1, by rw [cell_hp (t9 b hb)]; exact h2, by rw [cell_hp (t9 b hb)]; exact h3⟩, z9 _ _ _ _ h4⟩
set_option maxRecDepth 100000 in
set_option maxHeartbeats 8000000 in
theorem hull_any (b off len cap : Nat) (s k0 : Nat) (T : Int) (Z : Nat → Int) (w : World) (hR : RdM w b off len s T Z) (h1 : 1 ≤ len) (hl : len ≤ cap) (h9 : len ≤ 1000) (E : Nat) (hE : E = 1074) (hs : s = E + k0) (hs2 : s ≤ 4000) (hT : 0 ≤ T ∧ T ≤ 4000) :
    Calls Tryz.prog 52 #[.slice (some ⟨b, off, none⟩) len cap] w fun e w' => RefAns w (SpR (minZ Z len) (maxZ Z len) (2 ^ k0)) e w' := by
  obtain ⟨nj, oj, lj, cj, ej, hcj, hzj⟩ := hR 0 (by omega)
  have hbw : b < w.heap.size := World.block_lt_of_cell? w _ hcj.1
  have CJ : Hid _ := hcj
  have RM : Hid (RdM w b off len s T Z) := hR
  obtain ⟨g0, gb⟩ := alloc1_facts w (Obj.cells #[Value.int .u64 0, .int .u64 0, .bool false] 36)
  have GR : Hid _ := g0
  have GB : Hid _ := gb
  have ZJ : Hid _ := hzj.later gb
  clear g0 gb hcj hzj hR
  have i0 : (0 : Int) < (len : Int) := by omega
  go_enter Tryz.func52, Tryz.ntmps52
  go_upto_region 1 with fail
  have C0 : Hid ((w.alloc (Obj.cells #[Value.int .u64 0, .int .u64 0, .bool false] 36)).cell? ⟨b, off, none⟩ = some (.bool nj) ∧ (w.alloc (Obj.cells #[Value.int .u64 0, .int .u64 0, .bool false] 36)).cell? ⟨b, off + 1, none⟩ = some (.slice oj lj cj) ∧ (w.alloc (Obj.cells #[Value.int .u64 0, .int .u64 0, .bool false] 36)).cell? ⟨b, off + 2, none⟩ = some (.int .i64 ej)) := by
    have q := CJ.out
    simp only [Nat.zero_mul, Nat.add_zero] at q
    exact ⟨by rw [GB.out.cell (p := ⟨b, off, none⟩) hbw]; exact q.1, by rw [GB.out.cell (p := ⟨b, off + 1, none⟩) hbw]; exact q.2.1, by rw [GB.out.cell (p := ⟨b, off + 2, none⟩) hbw]; exact q.2.2⟩
  have RM0 : Hid _ := RdM.later RM.out GB.out
  clear CJ RM
  generalize w.alloc (Obj.cells #[Value.int .u64 0, .int .u64 0, .bool false] 36) = W0 at GR GB ZJ C0 RM0 ⊢
  obtain ⟨x0, x1, x2⟩ := C0.out
  have bJ : Below W0.heap.size W0 (W0.alloc (Obj.cells #[Value.bool nj, Value.slice oj lj cj, Value.int IntKind.i64 ej] 61)) := (Below.refl _ W0).alloc (Nat.le_refl _) _
  have hblt : b < W0.heap.size := World.block_lt_of_cell? W0 _ x0
  have hrlt : w.heap.size < W0.heap.size := blk_lt GR.out
  obtain ⟨y0, y1, y2⟩ : (W0.alloc (Obj.cells #[Value.bool nj, Value.slice oj lj cj, Value.int IntKind.i64 ej] 61)).cell? ⟨b, off, none⟩ = some (.bool nj) ∧ (W0.alloc (Obj.cells #[Value.bool nj, Value.slice oj lj cj, Value.int IntKind.i64 ej] 61)).cell? ⟨b, off + 1, none⟩ = some (.slice oj lj cj) ∧ (W0.alloc (Obj.cells #[Value.bool nj, Value.slice oj lj cj, Value.int IntKind.i64 ej] 61)).cell? ⟨b, off + 2, none⟩ = some (.int .i64 ej) := ⟨by rw [bJ.cell (p := ⟨b, off, none⟩) hblt]; exact x0, by rw [bJ.cell (p := ⟨b, off + 1, none⟩) hblt]; exact x1, by rw [bJ.cell (p := ⟨b, off + 2, none⟩) hblt]; exact x2⟩
  obtain ⟨k0', k1', kz', kb⟩ := alloc2_facts W0 (Obj.cells #[Value.bool nj, Value.slice oj lj cj, Value.int IntKind.i64 ej] 61) (Obj.cells #[Value.bool nj, Value.slice oj lj cj, Value.int IntKind.i64 ej] 61)
  have H1 : Hid (HuS w ((W0.alloc (Obj.cells #[Value.bool nj, Value.slice oj lj cj, Value.int IntKind.i64 ej] 61)).alloc (Obj.cells #[Value.bool nj, Value.slice oj lj cj, Value.int IntKind.i64 ej] 61)) b off len s W0.heap.size (W0.heap.size + 1) T Z 1 (Obj.cells #[Value.int .u64 0, .int .u64 0, .bool false] 36)) :=
    ⟨GB.out.trans (kb.mono GB.out.size), RdM.later RM0.out kb, keep0 GR.out kb, ⟨nj, oj, lj, cj, ej, k0', by have q := NumZ.later ZJ.out kb; rw [show minZ Z 1 = Z 0 by unfold minZ minZ; omega]; exact q⟩, ⟨nj, oj, lj, cj, ej, k1', by have q := NumZ.later ZJ.out kb; rw [show maxZ Z 1 = Z 0 by unfold maxZ maxZ; omega]; exact q⟩⟩
  clear k0' k1' kz' kb bJ
  go_upto_region 3 with fail
  clear x0 x1 x2 y0 y1 y2 C0 RM0 ZJ GR
  generalize ((W0.alloc (Obj.cells #[Value.bool nj, Value.slice oj lj cj, Value.int IntKind.i64 ej] 61)).alloc (Obj.cells #[Value.bool nj, Value.slice oj lj cj, Value.int IntKind.i64 ej] 61)) = W1 at H1 ⊢
  obtain ⟨Pp, hPp⟩ : ∃ P, W0.heap.size = P := ⟨_, rfl⟩
  rw [hPp] at H1 hblt hrlt ⊢
  clear hPp GB
  go_wp2_with fail
  go_loopw [5] (fun iv wr => ∃ k : Nat, 1 ≤ k ∧ k ≤ len ∧ iv = .int .i64 k ∧ Hid (HuS w wr b off len s Pp (Pp + 1) T Z k (Obj.cells #[Value.int .u64 0, .int .u64 0, .bool false] 36))) (fun iv _ => len - (intOf iv).toNat)
  case atStart => exact ⟨1, by omega, by omega, rfl, H1⟩
  case round =>
    obtain ⟨k, hk1, hk, rfl, K⟩ := hrel
    by_cases hlt : k < len
    · have hd : decide ((k : Int) < (len : Int)) = true := decide_eq_true (by omega)
      have i1 : (0 : Int) ≤ (k : Int) := by omega
      have i2 : (k : Int) < (len : Int) := by omega
      obtain ⟨nj, oj, lj, cj, ej, hcj, hzj⟩ := K.out.rd k hlt
      have CJ : Hid _ := hcj
      have ZJ : Hid _ := hzj
      have hbl := World.block_lt_of_cell? wr _ hcj.1
      obtain ⟨nx, ox, lx, cx, ex, hpx, hzx⟩ := K.out.pp
      have PX : Hid _ := hpx
      have ZX : Hid _ := hzx
      clear hcj hzj hpx hzx
      go_upto_region 6 with fail
      have hS : ∀ W, Below wr.heap.size wr W → (W.cell? ⟨b, off + k * 3, none⟩ = some (.bool nj) ∧ W.cell? ⟨b, off + k * 3 + 1, none⟩ = some (.slice oj lj cj) ∧ W.cell? ⟨b, off + k * 3 + 2, none⟩ = some (.int .i64 ej)) := fun W h => ⟨by rw [h.cell (p := ⟨b, off + k * 3, none⟩) hbl]; exact CJ.out.1, by rw [h.cell (p := ⟨b, off + k * 3 + 1, none⟩) hbl]; exact CJ.out.2.1, by rw [h.cell (p := ⟨b, off + k * 3 + 2, none⟩) hbl]; exact CJ.out.2.2⟩
      refine wp_region_noPanic ?_
      refine wp_region_held_drew (S := fun W => W.cell? ⟨b, off + k * 3, none⟩ = some (.bool nj) ∧ W.cell? ⟨b, off + k * 3 + 1, none⟩ = some (.slice oj lj cj) ∧ W.cell? ⟨b, off + k * 3 + 2, none⟩ = some (.int .i64 ej)) (by kernel_rfl) (hS _ (Below.refl _ _).drew) (fun _ => ?_)
      refine takeH 19 (i := 1) (v := .slice (some ⟨b, off, none⟩) len cap) rfl rfl (by kernel_rfl) (by kernel_rfl) (by kernel_rfl) (fun _ _ _ h => h) (Or.inl ⟨(by kernel_rfl), fun w' _ => by kernel_rfl⟩) (hS _ (Below.refl _ _).drew) ?_
      refine takeH 20 (i := 2) (v := .int .i64 (k : Int)) rfl rfl (by kernel_rfl) (by kernel_rfl) (by kernel_rfl) (fun _ _ _ h => h) (Or.inl ⟨(by kernel_rfl), fun w' _ => by kernel_rfl⟩) (hS _ (Below.refl _ _).drew) ?_
      try (simp only [Act.put, List.setIfInBounds_toArray, List.set_cons_zero, List.set_cons_succ])
      refine takeH 21 (i := 3) (v := .pointer (some ⟨b, off + k * 3, none⟩)) rfl rfl (by kernel_rfl) (by kernel_rfl) (by kernel_rfl) (fun _ _ _ h => h) (Or.inl ⟨(by kernel_rfl), by intro w' _; go_simp⟩) (hS _ (Below.refl _ _).drew) ?_
      refine takeH 22 (i := 4) (v := (Value.agg #[Value.bool nj, Value.slice oj lj cj, Value.int IntKind.i64 ej])) rfl rfl (by kernel_rfl) (by kernel_rfl) (by kernel_rfl) (fun _ _ _ h => h) (Or.inl ⟨(by kernel_rfl), fun w' hq => ex_loadA _ _ rfl b (off + k * 3) (by kernel_rfl) w' nj oj lj cj ej hq⟩) (hS _ (Below.refl _ _).drew) ?_
      try (simp only [Act.put, List.setIfInBounds_toArray, List.set_cons_zero, List.set_cons_succ])
      refine wpAnyH_ready (rs := [0]) (by kernel_rfl) (by simp) ?_
      refine consH _ rfl ?_ AllReadyH.nil
      refine hopVd 18 rfl (by kernel_rfl) rfl (ex_load3 _ _ rfl Pp (by kernel_rfl) _ nx ox lx cx ex (three_cells (show wr.drew.heap[Pp]? = _ from PX.out))) ⟨hS _ (Below.refl _ _).drew, ?_⟩
      try (simp only [Act.put, List.setIfInBounds_toArray, List.set_cons_zero, List.set_cons_succ])
      refine wpAnyH_ready (rs := [5]) (by kernel_rfl) (by simp) ?_
      refine consH _ rfl ?_ AllReadyH.nil
      refine hopCd 23 rfl (by kernel_rfl) rfl (by kernel_rfl) (Calls.mono (leastZ_any _ _ s T (minZ Z k) (Z k) _ (NumZ.later ZX.out (Below.refl _ _).drew) (NumZ.later ZJ.out (Below.refl _ _).drew) (by omega) (by omega)) ?_)
      rintro e m0 ⟨v0, rfl, z0, g0⟩
      have h0 : Below wr.heap.size wr m0 := to_b (Below.refl _ _).drew g0
      refine ⟨_, rfl, hS _ h0, ?_⟩
      try (simp only [Act.put, List.setIfInBounds_toArray, List.set_cons_zero, List.set_cons_succ])
      refine wpAnyH_ready (rs := [6]) (by kernel_rfl) (by simp) ?_
      refine consH _ rfl ?_ AllReadyH.nil
      have Z0 := z0
      obtain ⟨ny, my, ey, ⟨oy, ly, cy, xy, rfl, -⟩, -⟩ := z0
      refine hopS rfl rfl rfl _ _ rfl Pp (by kernel_rfl) ny oy ly cy ey (by kernel_rfl) nx ox lx cx ex (keep0 PX.out h0) ?_
      intro W9 a9 t9 z9 b9
      have hS9 : (W9.cell? ⟨b, off + k * 3, none⟩ = some (.bool nj) ∧ W9.cell? ⟨b, off + k * 3 + 1, none⟩ = some (.slice oj lj cj) ∧ W9.cell? ⟨b, off + k * 3 + 2, none⟩ = some (.int .i64 ej)) := ⟨by rw [cell_hp (t9 b (by omega))]; exact (hS _ h0).1, by rw [cell_hp (t9 b (by omega))]; exact (hS _ h0).2.1, by rw [cell_hp (t9 b (by omega))]; exact (hS _ h0).2.2⟩
      refine ⟨hS9, ?_⟩
      refine wpAnyH_done (by kernel_rfl) ?_ _
      refine NoPanic.normal ?_
      try (simp only [Act.put, List.setIfInBounds_toArray, List.set_cons_zero, List.set_cons_succ])
      obtain ⟨B1, R1, G1⟩ := HuS.set K.out h0 t9 z9 b9 (X := Pp) (by omega) (by omega)
      have QQ : Hid (∃ n o l c e, W9.heap[Pp + 1]? = some (Obj.cells #[Value.bool n, Value.slice o l c, Value.int IntKind.i64 e] 61) ∧ NumZ W9 (.agg #[.bool n, .slice o l c, .int .i64 e]) s T (maxZ Z k)) := by
        obtain ⟨n, o, l, c, e, q1, q2⟩ := K.out.pq
        exact ⟨n, o, l, c, e, (t9 _ (by omega)).trans (keep0 q1 h0), z9 _ _ _ _ (q2.later h0)⟩
      have KW : Hid (HuS w W9 b off len s Pp (Pp + 1) T Z k (Obj.cells #[Value.int .u64 0, .int .u64 0, .bool false] 36) ∨ True) := Or.inr trivial
      have A9 : Hid _ := a9
      have Y9 : Hid _ := z9 _ _ _ _ Z0
      have HB1 : Hid _ := B1
      have HR1 : Hid _ := R1
      have HG1 : Hid _ := G1
      clear B1 R1 G1 KW hS hS9 t9 z9 b9 h0 g0 Z0 a9 CJ ZJ PX ZX K hbl
      obtain ⟨nj, oj, lj, cj, ej, hcj, hzj⟩ := HR1.out k hlt
      have CJ : Hid _ := hcj
      have ZJ : Hid _ := hzj
      have hbl := World.block_lt_of_cell? W9 _ hcj.1
      obtain ⟨nx, ox, lx, cx, ex, hpx, hzx⟩ := QQ.out
      have PX : Hid _ := hpx
      have ZX : Hid _ := hzx
      obtain ⟨wq, hwq⟩ : ∃ wq, W9 = wq := ⟨_, rfl⟩
      subst hwq
      obtain ⟨na, oa, la, ca, ea, hna⟩ : ∃ na oa la ca ea, (⟨ny, oy, ly, cy, ey⟩ : Bool × Option Addr × Nat × Nat × Int) = ⟨na, oa, la, ca, ea⟩ := ⟨_, _, _, _, _, rfl⟩
      simp only [Prod.mk.injEq] at hna
      obtain ⟨rfl, rfl, rfl, rfl, rfl⟩ := hna
      clear hcj hzj hpx hzx QQ
      go_upto_region 7 with fail
      have hS : ∀ W, Below W9.heap.size W9 W → (W.cell? ⟨b, off + k * 3, none⟩ = some (.bool nj) ∧ W.cell? ⟨b, off + k * 3 + 1, none⟩ = some (.slice oj lj cj) ∧ W.cell? ⟨b, off + k * 3 + 2, none⟩ = some (.int .i64 ej)) := fun W h => ⟨by rw [h.cell (p := ⟨b, off + k * 3, none⟩) hbl]; exact CJ.out.1, by rw [h.cell (p := ⟨b, off + k * 3 + 1, none⟩) hbl]; exact CJ.out.2.1, by rw [h.cell (p := ⟨b, off + k * 3 + 2, none⟩) hbl]; exact CJ.out.2.2⟩
      refine wp_region_noPanic ?_
      refine wp_region_held_drew (S := fun W => W.cell? ⟨b, off + k * 3, none⟩ = some (.bool nj) ∧ W.cell? ⟨b, off + k * 3 + 1, none⟩ = some (.slice oj lj cj) ∧ W.cell? ⟨b, off + k * 3 + 2, none⟩ = some (.int .i64 ej)) (by kernel_rfl) (hS _ (Below.refl _ _).drew) (fun _ => ?_)
      refine takeH 25 (i := 1) (v := .slice (some ⟨b, off, none⟩) len cap) rfl rfl (by kernel_rfl) (by kernel_rfl) (by kernel_rfl) (fun _ _ _ h => h) (Or.inl ⟨(by kernel_rfl), fun w' _ => by kernel_rfl⟩) (hS _ (Below.refl _ _).drew) ?_
      refine takeH 26 (i := 2) (v := .int .i64 (k : Int)) rfl rfl (by kernel_rfl) (by kernel_rfl) (by kernel_rfl) (fun _ _ _ h => h) (Or.inl ⟨(by kernel_rfl), fun w' _ => by kernel_rfl⟩) (hS _ (Below.refl _ _).drew) ?_
      try (simp only [Act.put, List.setIfInBounds_toArray, List.set_cons_zero, List.set_cons_succ])
      refine takeH 27 (i := 3) (v := .pointer (some ⟨b, off + k * 3, none⟩)) rfl rfl (by kernel_rfl) (by kernel_rfl) (by kernel_rfl) (fun _ _ _ h => h) (Or.inl ⟨(by kernel_rfl), by intro w' _; go_simp⟩) (hS _ (Below.refl _ _).drew) ?_
      refine takeH 28 (i := 4) (v := (Value.agg #[Value.bool nj, Value.slice oj lj cj, Value.int IntKind.i64 ej])) rfl rfl (by kernel_rfl) (by kernel_rfl) (by kernel_rfl) (fun _ _ _ h => h) (Or.inl ⟨(by kernel_rfl), fun w' hq => ex_loadA _ _ rfl b (off + k * 3) (by kernel_rfl) w' nj oj lj cj ej hq⟩) (hS _ (Below.refl _ _).drew) ?_
      try (simp only [Act.put, List.setIfInBounds_toArray, List.set_cons_zero, List.set_cons_succ])
      refine wpAnyH_ready (rs := [0]) (by kernel_rfl) (by simp) ?_
      refine consH _ rfl ?_ AllReadyH.nil
      refine hopVd 24 rfl (by kernel_rfl) rfl (ex_load3 _ _ rfl (Pp + 1) (by kernel_rfl) _ nx ox lx cx ex (three_cells (show W9.drew.heap[(Pp + 1)]? = _ from PX.out))) ⟨hS _ (Below.refl _ _).drew, ?_⟩
      try (simp only [Act.put, List.setIfInBounds_toArray, List.set_cons_zero, List.set_cons_succ])
      refine wpAnyH_ready (rs := [5]) (by kernel_rfl) (by simp) ?_
      refine consH _ rfl ?_ AllReadyH.nil
      refine hopCd 29 rfl (by kernel_rfl) rfl (by kernel_rfl) (Calls.mono (mostZ_any _ _ s T (maxZ Z k) (Z k) _ (NumZ.later ZX.out (Below.refl _ _).drew) (NumZ.later ZJ.out (Below.refl _ _).drew) (by omega) (by omega)) ?_)
      rintro e m0 ⟨v0, rfl, z0, g0⟩
      have h0 : Below W9.heap.size W9 m0 := to_b (Below.refl _ _).drew g0
      refine ⟨_, rfl, hS _ h0, ?_⟩
      try (simp only [Act.put, List.setIfInBounds_toArray, List.set_cons_zero, List.set_cons_succ])
      refine wpAnyH_ready (rs := [6]) (by kernel_rfl) (by simp) ?_
      refine consH _ rfl ?_ AllReadyH.nil
      have Z0 := z0
      obtain ⟨nb, mb, eb, ⟨ob, lb, cb, xb, rfl, -⟩, -⟩ := z0
      refine hopS rfl rfl rfl _ _ rfl (Pp + 1) (by kernel_rfl) nb ob lb cb eb (by kernel_rfl) nx ox lx cx ex (keep0 PX.out h0) ?_
      intro W8 a8 t8 z8 b8
      have hS9 : (W8.cell? ⟨b, off + k * 3, none⟩ = some (.bool nj) ∧ W8.cell? ⟨b, off + k * 3 + 1, none⟩ = some (.slice oj lj cj) ∧ W8.cell? ⟨b, off + k * 3 + 2, none⟩ = some (.int .i64 ej)) := ⟨by rw [cell_hp (t8 b (by omega))]; exact (hS _ h0).1, by rw [cell_hp (t8 b (by omega))]; exact (hS _ h0).2.1, by rw [cell_hp (t8 b (by omega))]; exact (hS _ h0).2.2⟩
      refine ⟨hS9, ?_⟩
      refine wpAnyH_done (by kernel_rfl) ?_ _
      refine NoPanic.normal ?_
      try (simp only [Act.put, List.setIfInBounds_toArray, List.set_cons_zero, List.set_cons_succ])
      have B9 : Below w.heap.size w W8 := b8 _ _ (HB1.out.trans (h0.mono HB1.out.size)) (by omega)
      have QR : RdM W8 b off len s T Z := by
        intro j hj
        obtain ⟨n, o, l, c, e, ⟨q1, q2, q3⟩, q4⟩ := RdM.later HR1.out h0 j hj
        exact ⟨n, o, l, c, e, ⟨by rw [cell_hp (t8 b (by omega))]; exact q1, by rw [cell_hp (t8 b (by omega))]; exact q2, by rw [cell_hp (t8 b (by omega))]; exact q3⟩, z8 _ _ _ _ q4⟩
      have QA : Hid (HuS w W8 b off len s Pp (Pp + 1) T Z (k + 1) (Obj.cells #[Value.int .u64 0, .int .u64 0, .bool false] 36)) :=
        ⟨B9, QR, (t8 _ (by omega)).trans (keep0 HG1.out h0), ⟨ny, oy, ly, cy, ey, (t8 _ (by omega)).trans (keep0 A9.out h0), z8 _ _ _ _ (NumZ.later Y9.out h0)⟩, ⟨nb, ob, lb, cb, eb, a8, z8 _ _ _ _ Z0⟩⟩
      clear B9 QR hS hS9 t8 z8 b8 h0 g0 Z0 a8 CJ ZJ PX ZX A9 Y9 HB1 HR1 HG1 hbl
      go_wp2_with fail
      go_roundw
      case rel => exact ⟨k + 1, by omega, by omega, by go_num, QA⟩
      case measure => simp [intOf]; omega
    · have hd : decide ((k : Int) < (len : Int)) = false := decide_eq_false (by omega)
      obtain rfl : k = len := by omega
      obtain ⟨nx, ox, lx, cx, ex, hpx, hzx⟩ := K.out.pp
      obtain ⟨ny, oy, ly, cy, ey, hpy, hzy⟩ := K.out.pq
      have ZX : Hid _ := hzx
      have ZY : Hid _ := hzy
      obtain ⟨x0, x1, x2⟩ := three_cells hpx
      obtain ⟨y0, y1, y2⟩ := three_cells hpy
      clear hpx hpy hzx hzy
      go_wp2_with fail
      refine Calls.mono (refOf_any _ _ s k0 T T _ _ _ ZX.out ZY.out E hE hs hs2 hT hT) ?_
      rintro e w4 ⟨r, rfl, hr, bw⟩
      have HR : Hid _ := hr
      have R4 : Hid _ := (bw.block _ (blk_lt K.out.rs)).trans K.out.rs
      have C4 : Hid (Below w.heap.size w w4) := K.out.bel.trans (bw.mono K.out.bel.size)
      clear bw hr x0 x1 x2 y0 y1 y2
      obtain ⟨r0, r1, r2⟩ := cells3 R4.out
      have fz := fun j => frozen_of_row _ _ j _ _ R4.out
      go_wp2_with fail
      refine bodyPost_ret (v := .agg #[.int .u64 (r.1 : Int), .int .u64 (r.2.1 : Int), .bool r.2.2]) (res_su _ 2 (by kernel_rfl) _ _ w.heap.size _ _ _ ?_ (setsp_heap _ _ _ R4.out)) rfl ?_
      · rfl
      · exact ⟨r, rfl, HR.out, below_setsp _ _ _ C4.out (by omega)⟩
end Go.Proofs.YtnjjichanfpbhaaGreat
