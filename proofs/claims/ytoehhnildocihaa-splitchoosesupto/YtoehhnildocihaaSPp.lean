import Derived.Test.YtoehhnildocihaaSPo
namespace Go.Proofs.Ytoehhnildocihaa
open Go.RowKit
set_option linter.unusedVariables false
set_option linter.unusedSimpArgs false
theorem ex_alloc {P : Program} {ρ : Operand → Value} (o : Oper) (t : TypeId) (ho : o.op = .alloc t) (v : Value) (w w' : World) (h : (Instr.alloc t true (.tuple #[])).run P w = .ok v w') : (execOp ρ o).run P w = .ok (.value v) w' := by
  unfold execOp
  simp only [ho, h, Sem.run_bind, Sem.run_pure, Result.andThen_ok]
theorem hopAJ {P : Program} {ops : Array Oper} {Q : Exit → Act → World → Prop} {i : Nat} {o : Oper} {K : Act → World → Prop} {a : Act} {w : World} (d : Nat) (ho : ops[i]? = some o) (hg : o.guard = none) (hd : o.dst = some d) (t : TypeId) (hop : o.op = .alloc t) (z : Array Value)
    (hz : ∀ w, (Instr.alloc t true (.tuple #[])).run P w = .ok (.pointer (some ⟨w.heap.size, 0, none⟩)) (w.alloc (.cells z t)))
    (h : ∀ D W', W'.heap[D]? = some (.cells z t) → w.heap.size ≤ D → Below w.heap.size w W' → K (a.put (some d) (.pointer (some ⟨D, 0, none⟩))) W') : wpOp P ops Q i K a w :=
  hopV d ho hg hd (ex_alloc _ t hop _ _ _ (hz w)) (h _ _ (heap_alloc_new w _) (Nat.le_refl _) ((Below.refl _ w).alloc (Nat.le_refl _) _))
theorem allocRT (w : World) : (Instr.alloc 30 true (.tuple #[])).run Try.prog w = .ok (.pointer (some ⟨w.heap.size, 0, none⟩)) (w.alloc (.cells #[.slice none 0 0, .slice none 0 0] 30)) := by kernel_rfl
theorem regB_iff (ls bs : List Int) (k : Int) : regB ls bs k = true ↔ k ≤ 256 ∧ (ls.length : Int) = k ∧ (bs.length : Int) = k ∧ ∀ j, j < ls.length → okP (ls[j]?.getD 0) (bs[j]?.getD 0) = true := by
  refine ⟨fun h => ⟨(regB_len h).1, (regB_len h).2.1, (regB_len h).2.2, fun j hj => regB_at h j hj⟩, fun ⟨h1, h2, h3, h4⟩ => ?_⟩
  unfold regB
  rw [decide_eq_true h1, decide_eq_true h2, decide_eq_true h3]
  simp only [Bool.true_and, List.all_eq_true]
  intro p hp
  obtain ⟨j, hj, rfl⟩ := List.mem_iff_getElem.1 hp
  rw [List.length_zip] at hj
  have := h4 j (by omega)
  rw [List.getElem?_eq_getElem (by omega), List.getElem?_eq_getElem (by omega)] at this
  rw [List.getElem_zip]
  exact this
theorem set_getD (ls : List Int) (s j : Nat) (x : Int) (hs : s < ls.length) : (ls.set s x)[j]?.getD 0 = if s = j then x else ls[j]?.getD 0 := by
  rw [List.getElem?_set]
  by_cases h : s = j
  · subst h; rw [if_pos rfl, if_pos rfl, if_pos hs]; rfl
  · rw [if_neg h, if_neg h]
theorem regB_half {ls bs : List Int} {k : Int} (h : regB ls bs k = true) {s : Nat} (hs : s < ls.length) (h8 : ls[s]?.getD 0 ≠ 8) (t : Int) (ht : t = 0 ∨ t = 1) : regB (ls.set s (ls[s]?.getD 0 + 1)) (bs.set s (2 * bs[s]?.getD 0 + t)) k = true := by
  obtain ⟨h1, h2, h3, h4⟩ := (regB_iff _ _ _).1 h
  refine (regB_iff _ _ _).2 ⟨h1, by rw [List.length_set]; exact h2, by rw [List.length_set]; exact h3, fun j hj => ?_⟩
  rw [List.length_set] at hj
  rw [set_getD _ _ _ _ hs, set_getD _ _ _ _ (by omega)]
  by_cases e : s = j
  · subst e
    rw [if_pos rfl, if_pos rfl]
    have h5 := (okP_iff _ _).1 (h4 s hs)
    refine (okP_iff _ _).2 ⟨by omega, by omega, by omega, ?_⟩
    have h6 : (ls[s]?.getD 0 + 1).toNat = (ls[s]?.getD 0).toNat + 1 := by omega
    rw [h6, Int.pow_succ]
    omega
  · rw [if_neg e, if_neg e]
    exact h4 j hj
theorem HvE_zero {ls bs : List Int} {n : Nat} {s : Int} (h : HvE ls bs n s = 0) : regB ls bs n = true ∧ 0 ≤ s ∧ s < n ∧ ls[s.toNat]?.getD 0 ≠ 8 := by
  unfold HvE at h
  by_cases hr : regB ls bs n = true
  · rw [if_pos hr] at h
    by_cases hc : s < 0 ∨ (n : Int) ≤ s ∨ ls[s.toNat]?.getD 0 = 8
    · rw [if_pos hc] at h; omega
    · exact ⟨hr, by omega, by omega, fun e => hc (.inr (.inr e))⟩
  · rw [if_neg hr] at h; omega
/-- What Halve tells, in one shape. -/
structure HvX (W : World) (base n : Nat) (ls bs : List Int) (s : Int) (a1 a2 a3 a4 : Option Addr) (N : Nat) : Prop where
  ok : HvE ls bs n s = 0 → N = n ∧ ∃ B1 B2 C1 C2, a1 = some ⟨B1, 0, none⟩ ∧ a2 = some ⟨B2, 0, none⟩ ∧ a3 = some ⟨C1, 0, none⟩ ∧ a4 = some ⟨C2, 0, none⟩ ∧
    RgO W base B1 B2 (ls.set s.toNat (ls[s.toNat]?.getD 0 + 1)) (bs.set s.toNat (2 * bs[s.toNat]?.getD 0)) ∧ RgO W base C1 C2 (ls.set s.toNat (ls[s.toNat]?.getD 0 + 1)) (bs.set s.toNat (2 * bs[s.toNat]?.getD 0 + 1)) ∧ B1 < C1 ∧ B1 < C2 ∧ B2 < C1 ∧ B2 < C2
  bad : HvE ls bs n s ≠ 0 → N = 0 ∧ a1 = none ∧ a2 = none ∧ a3 = none ∧ a4 = none
theorem HvX.later {W W' : World} {base n : Nat} {ls bs : List Int} {s : Int} {a1 a2 a3 a4 : Option Addr} {N : Nat} (h : HvX W base n ls bs s a1 a2 a3 a4 N) (hb : Below W.heap.size W W') : HvX W' base n ls bs s a1 a2 a3 a4 N := by
  refine ⟨fun h0 => ?_, h.bad⟩
  obtain ⟨e, B1, B2, C1, C2, e1, e2, e3, e4, r1, r2, o⟩ := h.ok h0
  exact ⟨e, B1, B2, C1, C2, e1, e2, e3, e4, r1.later hb, r2.later hb, o⟩
theorem RgO.stored {W W' : World} {base B1 B2 b : Nat} {ls bs : List Int} {c : Array Value} (h : RgO W base B1 B2 ls bs) (hb : W.heap[b]? = some (.cells c 30)) (ho : ∀ k, k ≠ b → W'.heap[k]? = W.heap[k]?) : RgO W' base B1 B2 ls bs := by
  have n1 : B1 ≠ b := by rintro rfl; rw [h.l] at hb; injection hb with hb; injection hb with _ hb; exact absurd hb (by decide)
  have n2 : B2 ≠ b := by rintro rfl; rw [h.a] at hb; injection hb with hb; injection hb with _ hb; exact absurd hb (by decide)
  exact ⟨h.b1, h.b2, h.ne, (ho _ n1).trans h.l, (ho _ n2).trans h.a⟩
theorem HvX.stored {W W' : World} {base n b : Nat} {ls bs : List Int} {s : Int} {a1 a2 a3 a4 : Option Addr} {N : Nat} {c : Array Value} (h : HvX W base n ls bs s a1 a2 a3 a4 N) (hb : W.heap[b]? = some (.cells c 30)) (ho : ∀ k, k ≠ b → W'.heap[k]? = W.heap[k]?) : HvX W' base n ls bs s a1 a2 a3 a4 N := by
  refine ⟨fun h0 => ?_, h.bad⟩
  obtain ⟨e, B1, B2, C1, C2, e1, e2, e3, e4, r1, r2, o⟩ := h.ok h0
  exact ⟨e, B1, B2, C1, C2, e1, e2, e3, e4, r1.stored hb ho, r2.stored hb ho, o⟩
theorem halveU (la ba : Option Addr) (n m c d : Nat) (ls bs : List Int) (s : Int) (w : World) (hl : RdIs w la n c ls) (ha : RdIs w ba m d bs) :
    Calls Try.prog 20 #[.agg #[.slice la n c, .slice ba m d], .int .i64 s] w fun e w' => (∃ a1 a2 a3 a4 N, e = .returned (.tuple #[.agg #[.slice a1 N N, .slice a2 N N], .agg #[.slice a3 N N, .slice a4 N N], .int .i64 (HvE ls bs n s)]) ∧ HvX w' w.heap.size n ls bs s a1 a2 a3 a4 N) ∧ Below w.heap.size w w' := by
  refine (halve_any la ba n m c d ls bs s w hl ha).mono ?_
  rintro e w' ⟨⟨v1, v2, he, h1, h2⟩, hb⟩
  refine ⟨?_, hb⟩
  by_cases h0 : HvE ls bs n s = 0
  · obtain ⟨⟨B1, B2, C1, C2, rfl, rfl, r1, r2, o⟩⟩ := h1 h0
    exact ⟨_, _, _, _, n, he, fun _ => ⟨rfl, B1, B2, C1, C2, rfl, rfl, rfl, rfl, r1, r2, o⟩, fun h => absurd h0 h⟩
  · obtain ⟨rfl, rfl⟩ := h2 h0
    exact ⟨none, none, none, none, 0, he, fun h => absurd h h0, fun _ => ⟨rfl, rfl, rfl, rfl, rfl⟩⟩
/-- The turns of a script that came in. -/
structure RdTu (w : World) (ao : Option Addr) (len cap : Nat) (F : Nat → Int × Bool) : Prop where
  max : len ≤ maxLen
  cells : len = 0 ∨ ∃ b off, ao = some ⟨b, off, none⟩ ∧ ∀ j, j < len → w.cell? ⟨b, off + j * 2, none⟩ = some (.int .i64 (F j).1) ∧ w.cell? ⟨b, off + j * 2 + 1, none⟩ = some (.bool (F j).2)
theorem RdTu.later {w w' : World} {ao : Option Addr} {len cap : Nat} {F : Nat → Int × Bool} (h : RdTu w ao len cap F) (hb : Below w.heap.size w w') : RdTu w' ao len cap F := by
  refine ⟨h.max, ?_⟩
  rcases h.cells with h0 | ⟨b, off, ha, hc⟩
  · exact .inl h0
  · exact .inr ⟨b, off, ha, fun j hj => ⟨cell_later (hc j hj).1 hb, cell_later (hc j hj).2 hb⟩⟩
/-- A variable that holds a region of n symbols. -/
structure RgV (W : World) (base P n B1 B2 : Nat) (ls bs : List Int) : Prop where
  v : W.heap[P]? = some (.cells #[.slice (some ⟨B1, 0, none⟩) n n, .slice (some ⟨B2, 0, none⟩) n n] 30)
  r : RgO W base B1 B2 ls bs
  g : regB ls bs n = true
theorem RgV.later {W W' : World} {base P n B1 B2 : Nat} {ls bs : List Int} (h : RgV W base P n B1 B2 ls bs) (hb : Below W.heap.size W W') : RgV W' base P n B1 B2 ls bs := ⟨kept hb h.v, h.r.later hb, h.g⟩
theorem RgV.len {W : World} {base P n B1 B2 : Nat} {ls bs : List Int} (h : RgV W base P n B1 B2 ls bs) : ls.length = n ∧ bs.length = n ∧ n ≤ 256 := by have := regB_len h.g; omega
theorem RgV.rl {W : World} {base P n B1 B2 : Nat} {ls bs : List Int} (h : RgV W base P n B1 B2 ls bs) : RdIs W (some ⟨B1, 0, none⟩) n n ls := h.r.rl h.len.1 (by have := h.len.2.2; omega)
theorem RgV.ra {W : World} {base P n B1 B2 : Nat} {ls bs : List Int} (h : RgV W base P n B1 B2 ls bs) : RdIs W (some ⟨B2, 0, none⟩) n n bs := h.r.ra h.len.2.1 (by have := h.len.2.2; omega)
/-- The point that Ends tells lies within. -/
theorem inP_end (l D : Nat) (a s : Int) (hl : l ≤ D) (h1 : -1 ≤ s) (h2 : s ≤ 1) : inP l a (-2 ^ D + (2 * a + 1 + s) * 2 ^ (D - l)) D = true := by
  have e1 : (2 : Int) ^ D = 2 ^ (D - l) * 2 ^ l := by rw [← Int.pow_add]; congr 1; omega
  have e2 : (-2 ^ D + (2 * a + 1 + s) * 2 ^ (D - l)) * 2 ^ l = (2 * a + 1 + s - 2 ^ l) * 2 ^ D := by
    rw [Int.add_mul, Int.mul_assoc, ← e1, Int.neg_mul, Int.mul_comm (2 ^ D) (2 ^ l), ← Int.neg_mul, ← Int.add_mul]
    congr 1
    omega
  unfold inP
  rw [e2]
  have hD := pow_pos2 D
  simp only [Bool.and_eq_true, decide_eq_true_eq]
  exact ⟨Int.mul_le_mul_of_nonneg_right (by omega) (by omega), Int.mul_le_mul_of_nonneg_right (by omega) (by omega)⟩
theorem enV_deep (p : Int × Int) (s : Int) (D : Nat) (hl : p.1.toNat ≤ D) (hD : D ≤ 8) : enV p s D * 2 ^ (8 - D) = enV p s 8 := by
  unfold enV
  rw [Int.add_mul, Int.mul_assoc, ← Int.pow_add, Int.neg_mul, ← Int.pow_add, show D + (8 - D) = 8 by omega, show D - p.1.toNat + (8 - D) = 8 - p.1.toNat by omega]
theorem wiB_ends {zs : List (Int × Int)} {ss : List Int} {D : Nat} (h : mayB zs ss D = true) (h0 : ∀ i, i < zs.length → 0 ≤ (zs[i]?.getD (0, 0)).1) : wiB zs (enL zs ss D) D = true := by
  obtain ⟨-, -, h3⟩ := mayB_at h
  unfold wiB
  rw [List.all_eq_true]
  intro i hi
  have hi := List.mem_range.1 hi
  rw [enL_at _ _ _ _ hi]
  have := h3 i hi
  have := h0 i hi
  show inP _ _ (enV _ _ _) _ = true
  unfold enV
  exact inP_end _ _ _ _ (by omega) (by omega) (by omega)
theorem mayB_deep {zs : List (Int × Int)} {ss : List Int} {D : Int} (h : mayB zs ss D = true) : mayB zs ss 8 = true := by
  obtain ⟨h1, h2, h3⟩ := mayB_at h
  unfold mayB
  simp only [Bool.and_eq_true, decide_eq_true_eq, List.all_eq_true, List.mem_range]
  exact ⟨⟨by decide, by decide⟩, fun i hi => ⟨⟨(h3 i hi).1, (h3 i hi).2.1⟩, by have := (h3 i hi).2.2; omega⟩⟩
theorem EnE_zero {ls bs ss : List Int} {n sn : Nat} {D : Int} (h : EnE ls bs ss n sn D = 0) : regB ls bs n = true ∧ sn = n ∧ mayB (ls.zip bs) ss D = true := by
  unfold EnE at h
  by_cases h1 : regB ls bs n = true
  · rw [if_pos h1] at h
    by_cases h2 : sn = n
    · rw [if_pos h2] at h
      by_cases h3 : mayB (ls.zip bs) ss D = true
      · exact ⟨h1, h2, h3⟩
      · rw [if_neg h3] at h; omega
    · rw [if_neg h2] at h; omega
  · rw [if_neg h1] at h; omega
theorem EnE_ok {ls bs ss : List Int} {n sn : Nat} {D : Int} (h1 : regB ls bs n = true) (h2 : sn = n) (h3 : mayB (ls.zip bs) ss D = true) : EnE ls bs ss n sn D = 0 := by
  unfold EnE; rw [if_pos h1, if_pos h2, if_pos h3]
theorem zip_low {ls bs : List Int} {n : Nat} (h : regB ls bs n = true) : (ls.zip bs).length = n ∧ ∀ i, i < (ls.zip bs).length → 0 ≤ ((ls.zip bs)[i]?.getD (0, 0)).1 ∧ ((ls.zip bs)[i]?.getD (0, 0)).1 ≤ 8 ∧ 0 ≤ ((ls.zip bs)[i]?.getD (0, 0)).2 ∧ ((ls.zip bs)[i]?.getD (0, 0)).2 ≤ 256 := by
  obtain ⟨h1, h2, h3⟩ := regB_len h
  have hl : (ls.zip bs).length = n := by rw [List.length_zip]; omega
  refine ⟨hl, fun i hi => ?_⟩
  rw [zip_at (n := n) (by omega) (by omega) (by omega)]
  have := regB_level h i (by omega)
  have h5 := pow8 (n := (ls[i]?.getD 0).toNat) (by omega)
  exact ⟨this.1, this.2.1, this.2.2.1, by show bs[i]?.getD 0 ≤ 256; omega⟩
end Go.Proofs.Ytoehhnildocihaa
