import Derived.Test.YtaadhjdbieoieaaSPZ
namespace Go.Proofs.Ytaadhjdbieoieaa
open Go.RowKit
set_option linter.unusedVariables false
set_option linter.unusedSimpArgs false
theorem two_not_int (o1 : Option Addr) (l1 k1 : Nat) (o2 : Option Addr) (l2 k2 : Nat) (i : Nat) (x : Int) : (#[.slice o1 l1 k1, .slice o2 l2 k2] : Array Value)[i]? ≠ some (.int .i64 x) := by
  intro h
  match i with
  | 0 => simp at h
  | 1 => simp at h
  | i + 2 => simp at h
theorem RdIs.stored {W W' : World} {b : Nat} {o1 : Option Addr} {l1 k1 : Nat} {o2 : Option Addr} {l2 k2 : Nat} {a : Option Addr} {n c : Nat} {is : List Int} (h : RdIs W a n c is) (hb : W.heap[b]? = some (.cells #[.slice o1 l1 k1, .slice o2 l2 k2] 24)) (ho : ∀ k, k ≠ b → W'.heap[k]? = W.heap[k]?) : RdIs W' a n c is := by
  refine ⟨h.length, h.max, ?_⟩
  rcases h.cells with h0 | ⟨b', off, ha, hc⟩
  · exact .inl h0
  · refine .inr ⟨b', off, ha, fun j hj => ?_⟩
    have hne : b' ≠ b := by
      rintro rfl
      have h1 := hc j hj
      have h2 := cell_of_row _ _ (off + j) _ _ _ hb
      rw [h2] at h1
      exact two_not_int _ _ _ _ _ _ _ _ h1
    rw [World.cell?_of_block (w := W) (w' := W') (a := ⟨b', off + j, none⟩) (ho b' hne)]
    exact hc j hj
/-- A variable that holds the document's region. -/
structure SgV (W : World) (Q n : Nat) (u1 u2 : Option Addr) (k1 k2 : Nat) (ls bs : List Int) : Prop where
  v : W.heap[Q]? = some (.cells #[.slice u1 n k1, .slice u2 n k2] 24)
  rl : RdIs W u1 n k1 ls
  ra : RdIs W u2 n k2 bs
theorem SgV.later {W W' : World} {Q n : Nat} {u1 u2 : Option Addr} {k1 k2 : Nat} {ls bs : List Int} (h : SgV W Q n u1 u2 k1 k2 ls bs) (hb : Below W.heap.size W W') : SgV W' Q n u1 u2 k1 k2 ls bs := ⟨kept hb h.v, h.rl.later hb, h.ra.later hb⟩
/-- What the document's Halve tells, in one shape. -/
structure HvY (W : World) (n : Nat) (ls bs : List Int) (s : Int) (e1 : Option Addr) (f1 : Nat) (e2 : Option Addr) (f2 : Nat) (e3 : Option Addr) (f3 : Nat) (e4 : Option Addr) (f4 : Nat) (M : Nat) : Prop where
  ok : HvE ls bs n s = 0 → M = n ∧ RdIs W e1 M f1 (ls.set s.toNat (ls[s.toNat]?.getD 0 + 1)) ∧ RdIs W e2 M f2 (bs.set s.toNat (2 * bs[s.toNat]?.getD 0)) ∧ RdIs W e3 M f3 (ls.set s.toNat (ls[s.toNat]?.getD 0 + 1)) ∧ RdIs W e4 M f4 (bs.set s.toNat (2 * bs[s.toNat]?.getD 0 + 1))
  bad : HvE ls bs n s ≠ 0 → (e1, f1, e2, f2, e3, f3, e4, f4, M) = (none, 0, none, 0, none, 0, none, 0, 0)
theorem HvY.later {W W' : World} {n : Nat} {ls bs : List Int} {s : Int} {e1 : Option Addr} {f1 : Nat} {e2 : Option Addr} {f2 : Nat} {e3 : Option Addr} {f3 : Nat} {e4 : Option Addr} {f4 : Nat} {M : Nat} (h : HvY W n ls bs s e1 f1 e2 f2 e3 f3 e4 f4 M) (hb : Below W.heap.size W W') : HvY W' n ls bs s e1 f1 e2 f2 e3 f3 e4 f4 M := ⟨fun h0 => ⟨(h.ok h0).1, (h.ok h0).2.1.later hb, (h.ok h0).2.2.1.later hb, (h.ok h0).2.2.2.1.later hb, (h.ok h0).2.2.2.2.later hb⟩, h.bad⟩
theorem HvY.stored {W W' : World} {b : Nat} {o1 : Option Addr} {l1 k1 : Nat} {o2 : Option Addr} {l2 k2 : Nat} {n : Nat} {ls bs : List Int} {s : Int} {e1 : Option Addr} {f1 : Nat} {e2 : Option Addr} {f2 : Nat} {e3 : Option Addr} {f3 : Nat} {e4 : Option Addr} {f4 : Nat} {M : Nat} (h : HvY W n ls bs s e1 f1 e2 f2 e3 f3 e4 f4 M) (hb : W.heap[b]? = some (.cells #[.slice o1 l1 k1, .slice o2 l2 k2] 24)) (ho : ∀ k, k ≠ b → W'.heap[k]? = W.heap[k]?) : HvY W' n ls bs s e1 f1 e2 f2 e3 f3 e4 f4 M := ⟨fun h0 => ⟨(h.ok h0).1, (h.ok h0).2.1.stored hb ho, (h.ok h0).2.2.1.stored hb ho, (h.ok h0).2.2.2.1.stored hb ho, (h.ok h0).2.2.2.2.stored hb ho⟩, h.bad⟩
theorem refHalveY (la ba : Option Addr) (n m c d : Nat) (ls bs : List Int) (s : Int) (w : World) (hl : RdIs w la n c ls) (ha : RdIs w ba m d bs) :
    Calls Try.prog 14 #[.agg #[.slice la n c, .slice ba m d], .int .i64 s] w fun e w' => (∃ e1 f1 e2 f2 e3 f3 e4 f4 M, e = .returned (.tuple #[.agg #[.slice e1 M f1, .slice e2 M f2], .agg #[.slice e3 M f3, .slice e4 M f4], .int .i64 (HvE ls bs n s)]) ∧ HvY w' n ls bs s e1 f1 e2 f2 e3 f3 e4 f4 M) ∧ Below w.heap.size w w' :=
  (refHalve_any la ba n m c d ls bs s w hl ha).mono fun e w' ⟨⟨a1, c1, a2, c2, a3, c3, a4, c4, N, he, h1, h2⟩, hb⟩ => ⟨⟨a1, c1, a2, c2, a3, c3, a4, c4, N, he, ⟨h1, h2⟩⟩, hb⟩
theorem by_keyY {F G : Nat → Nat → Option Addr → Nat → Option Addr → Nat → Option Addr → Nat → Option Addr → Nat → Nat → World → Prop} {goal : Prop} (main : (∀ b c e1 f1 e2 f2 e3 f3 e4 f4 M W, F b c e1 f1 e2 f2 e3 f3 e4 f4 M W → G b c e1 f1 e2 f2 e3 f3 e4 f4 M W) → goal) (pf : ∀ b c e1 f1 e2 f2 e3 f3 e4 f4 M W, F b c e1 f1 e2 f2 e3 f3 e4 f4 M W → G b c e1 f1 e2 f2 e3 f3 e4 f4 M W) : goal := main pf
/-- Both halves are the same. -/
theorem pairs_xy {W : World} {base n : Nat} {ls bs : List Int} {s : Int} {a1 a2 a3 a4 : Option Addr} {N : Nat} {e1 : Option Addr} {f1 : Nat} {e2 : Option Addr} {f2 : Nat} {e3 : Option Addr} {f3 : Nat} {e4 : Option Addr} {f4 : Nat} {M : Nat} (HX : HvX W base n ls bs s a1 a2 a3 a4 N) (HY : HvY W n ls bs s e1 f1 e2 f2 e3 f3 e4 f4 M) :
    ∃ X1 X2 X3 X4, (RdIs W a1 N N X1 ∧ RdIs W a2 N N X2 ∧ RdIs W a3 N N X3 ∧ RdIs W a4 N N X4) ∧ RdIs W e1 M f1 X1 ∧ RdIs W e2 M f2 X2 ∧ RdIs W e3 M f3 X3 ∧ RdIs W e4 M f4 X4 := by
  by_cases h0 : HvE ls bs n s = 0
  · obtain ⟨hN, B1, B2, C1, C2, rfl, rfl, rfl, rfl, r1, r2, -⟩ := HX.ok h0
    obtain ⟨hM, y1, y2, y3, y4⟩ := HY.ok h0
    obtain ⟨g1, -, -, -⟩ := HvE_zero h0
    have gl := regB_len g1
    exact ⟨_, _, _, _, ⟨r1.rl (by rw [List.length_set]; omega) (by omega), r1.ra (by rw [List.length_set]; omega) (by omega), r2.rl (by rw [List.length_set]; omega) (by omega), r2.ra (by rw [List.length_set]; omega) (by omega)⟩, y1, y2, y3, y4⟩
  · obtain ⟨rfl, rfl, rfl, rfl, rfl⟩ := HX.bad h0
    have h9 := HY.bad h0
    simp only [Prod.mk.injEq] at h9
    obtain ⟨rfl, rfl, rfl, rfl, rfl, rfl, rfl, rfl, rfl⟩ := h9
    exact ⟨[], [], [], [], ⟨⟨rfl, Nat.zero_le _, .inl rfl⟩, ⟨rfl, Nat.zero_le _, .inl rfl⟩, ⟨rfl, Nat.zero_le _, .inl rfl⟩, ⟨rfl, Nat.zero_le _, .inl rfl⟩⟩, ⟨rfl, Nat.zero_le _, .inl rfl⟩, ⟨rfl, Nat.zero_le _, .inl rfl⟩, ⟨rfl, Nat.zero_le _, .inl rfl⟩, ⟨rfl, Nat.zero_le _, .inl rfl⟩⟩
theorem same_xy {W : World} {base n : Nat} {ls bs : List Int} {s : Int} {a1 a2 a3 a4 : Option Addr} {N : Nat} {e1 : Option Addr} {f1 : Nat} {e2 : Option Addr} {f2 : Nat} {e3 : Option Addr} {f3 : Nat} {e4 : Option Addr} {f4 : Nat} {M : Nat} (HX : HvX W base n ls bs s a1 a2 a3 a4 N) (HY : HvY W n ls bs s e1 f1 e2 f2 e3 f3 e4 f4 M) :
    (∀ V, Below W.heap.size W V → Calls Try.prog 11 #[.agg #[.slice a1 N N, .slice a2 N N], .agg #[.slice e1 M f1, .slice e2 M f2]] V fun e w' => e = .returned (.bool true) ∧ Below V.heap.size V w') ∧ (∀ V, Below W.heap.size W V → Calls Try.prog 11 #[.agg #[.slice a3 N N, .slice a4 N N], .agg #[.slice e3 M f3, .slice e4 M f4]] V fun e w' => e = .returned (.bool true) ∧ Below V.heap.size V w') := by
  obtain ⟨X1, X2, X3, X4, ⟨x1, x2, x3, x4⟩, y1, y2, y3, y4⟩ := pairs_xy HX HY
  constructor
  · intro V hb
    have h := same_any a1 a2 e1 e2 N N N N M f1 M f2 X1 X2 X1 X2 V (x1.later hb) (x2.later hb) (y1.later hb) (y2.later hb)
    rw [decide_eq_true ⟨rfl, rfl⟩] at h
    exact h
  · intro V hb
    have h := same_any a3 a4 e3 e4 N N N N M f3 M f4 X3 X4 X3 X4 V (x3.later hb) (x4.later hb) (y3.later hb) (y4.later hb)
    rw [decide_eq_true ⟨rfl, rfl⟩] at h
    exact h
/-- Two variables, and four that are not written. -/
structure BoxS (W : World) (P Q p3 p4 p5 p6 : Nat) (x1 x2 x3 x4 x5 x6 : Array Value) : Prop where
  h1 : W.heap[P]? = some (.cells x1 24)
  h2 : W.heap[Q]? = some (.cells x2 24)
  h3 : W.heap[p3]? = some (.cells x3 24)
  h4 : W.heap[p4]? = some (.cells x4 24)
  h5 : W.heap[p5]? = some (.cells x5 24)
  h6 : W.heap[p6]? = some (.cells x6 24)
  n1 : P ≠ Q
  n2 : ∀ k, k = p3 ∨ k = p4 ∨ k = p5 ∨ k = p6 → k ≠ P ∧ k ≠ Q
theorem BoxS.later {W W' : World} {P Q p3 p4 p5 p6 : Nat} {x1 x2 x3 x4 x5 x6 : Array Value} (h : BoxS W P Q p3 p4 p5 p6 x1 x2 x3 x4 x5 x6) (hb : Below W.heap.size W W') : BoxS W' P Q p3 p4 p5 p6 x1 x2 x3 x4 x5 x6 := ⟨kept hb h.h1, kept hb h.h2, kept hb h.h3, kept hb h.h4, kept hb h.h5, kept hb h.h6, h.n1, h.n2⟩
theorem BoxS.setP {W W' : World} {P Q p3 p4 p5 p6 : Nat} {x1 x2 x3 x4 x5 x6 y : Array Value} (h : BoxS W P Q p3 p4 p5 p6 x1 x2 x3 x4 x5 x6) (he : W'.heap[P]? = some (.cells y 24)) (ho : ∀ k, k ≠ P → W'.heap[k]? = W.heap[k]?) : BoxS W' P Q p3 p4 p5 p6 y x2 x3 x4 x5 x6 :=
  ⟨he, (ho _ (Ne.symm h.n1)).trans h.h2, (ho _ (h.n2 _ (.inl rfl)).1).trans h.h3, (ho _ (h.n2 _ (.inr (.inl rfl))).1).trans h.h4, (ho _ (h.n2 _ (.inr (.inr (.inl rfl)))).1).trans h.h5, (ho _ (h.n2 _ (.inr (.inr (.inr rfl)))).1).trans h.h6, h.n1, h.n2⟩
theorem BoxS.setQ {W W' : World} {P Q p3 p4 p5 p6 : Nat} {x1 x2 x3 x4 x5 x6 y : Array Value} (h : BoxS W P Q p3 p4 p5 p6 x1 x2 x3 x4 x5 x6) (he : W'.heap[Q]? = some (.cells y 24)) (ho : ∀ k, k ≠ Q → W'.heap[k]? = W.heap[k]?) : BoxS W' P Q p3 p4 p5 p6 x1 y x3 x4 x5 x6 :=
  ⟨(ho _ h.n1).trans h.h1, he, (ho _ (h.n2 _ (.inl rfl)).2).trans h.h3, (ho _ (h.n2 _ (.inr (.inl rfl))).2).trans h.h4, (ho _ (h.n2 _ (.inr (.inr (.inl rfl)))).2).trans h.h5, (ho _ (h.n2 _ (.inr (.inr (.inr rfl)))).2).trans h.h6, h.n1, h.n2⟩
/-- The lists of both halves, the program's and the document's. -/
structure TwoL (W : World) (base n : Nat) (l b0 b1 : List Int) (D1 D2 C1 C2 : Nat) (e1 : Option Addr) (f1 : Nat) (e2 : Option Addr) (f2 : Nat) (e3 : Option Addr) (f3 : Nat) (e4 : Option Addr) (f4 : Nat) : Prop where
  lo : RgO W base D1 D2 l b0
  up : RgO W base C1 C2 l b1
  r1 : RdIs W e1 n f1 l
  r2 : RdIs W e2 n f2 b0
  r3 : RdIs W e3 n f3 l
  r4 : RdIs W e4 n f4 b1
  g0 : regB l b0 n = true
  g1 : regB l b1 n = true
theorem TwoL.stored {W W' : World} {b : Nat} {o1 : Option Addr} {l1 k1 : Nat} {o2 : Option Addr} {l2 k2 : Nat} {base n : Nat} {l b0 b1 : List Int} {D1 D2 C1 C2 : Nat} {e1 : Option Addr} {f1 : Nat} {e2 : Option Addr} {f2 : Nat} {e3 : Option Addr} {f3 : Nat} {e4 : Option Addr} {f4 : Nat} (h : TwoL W base n l b0 b1 D1 D2 C1 C2 e1 f1 e2 f2 e3 f3 e4 f4) (hb : W.heap[b]? = some (.cells #[.slice o1 l1 k1, .slice o2 l2 k2] 24)) (ho : ∀ k, k ≠ b → W'.heap[k]? = W.heap[k]?) : TwoL W' base n l b0 b1 D1 D2 C1 C2 e1 f1 e2 f2 e3 f3 e4 f4 :=
  ⟨h.lo.stored hb ho, h.up.stored hb ho, h.r1.stored hb ho, h.r2.stored hb ho, h.r3.stored hb ho, h.r4.stored hb ho, h.g0, h.g1⟩
theorem two_of {W : World} {base n : Nat} {ls bs : List Int} {s : Int} {a1 a2 a3 a4 : Option Addr} {N : Nat} {e1 : Option Addr} {f1 : Nat} {e2 : Option Addr} {f2 : Nat} {e3 : Option Addr} {f3 : Nat} {e4 : Option Addr} {f4 : Nat} {M : Nat} (HX : HvX W base n ls bs s a1 a2 a3 a4 N) (HY : HvY W n ls bs s e1 f1 e2 f2 e3 f3 e4 f4 M) (h0 : HvE ls bs n s = 0) :
    n = N ∧ n = M ∧ ∃ D1 D2 C1 C2, a1 = some ⟨D1, 0, none⟩ ∧ a2 = some ⟨D2, 0, none⟩ ∧ a3 = some ⟨C1, 0, none⟩ ∧ a4 = some ⟨C2, 0, none⟩ ∧ TwoL W base n (ls.set s.toNat (ls[s.toNat]?.getD 0 + 1)) (bs.set s.toNat (2 * bs[s.toNat]?.getD 0)) (bs.set s.toNat (2 * bs[s.toNat]?.getD 0 + 1)) D1 D2 C1 C2 e1 f1 e2 f2 e3 f3 e4 f4 := by
  obtain ⟨hN, D1, D2, C1, C2, h1, h2, h3, h4, r1, r2, -⟩ := HX.ok h0
  obtain ⟨hM, y1, y2, y3, y4⟩ := HY.ok h0
  obtain ⟨hrg, s0, sN, s8⟩ := HvE_zero h0
  have hlen := regB_len hrg
  subst hM
  have k1 := regB_half hrg (s := s.toNat) (by omega) s8 0 (.inl rfl)
  have k2 := regB_half hrg (s := s.toNat) (by omega) s8 1 (.inr rfl)
  rw [Int.add_zero] at k1
  exact ⟨hN.symm, rfl, D1, D2, C1, C2, h1, h2, h3, h4, r1, r2, y1, y2, y3, y4, k1, k2⟩
theorem wyE_ok {ls bs : List Int} {n : Nat} (h : regB ls bs n = true) : WyE ls bs n = 0 := by unfold WyE; rw [if_pos h]
/-- The loop's state: the program's region and the document's are the same. -/
structure PlS (w W : World) (P Q n : Nat) (ls bs : List Int) (B1 B2 : Nat) (u1 u2 : Option Addr) (k1 k2 : Nat) : Prop where
  b : Below w.heap.size w W
  r : RgV W w.heap.size P n B1 B2 ls bs
  s : SgV W Q n u1 u2 k1 k2 ls bs
theorem PlS.later {w W W' : World} {P Q n : Nat} {ls bs : List Int} {B1 B2 : Nat} {u1 u2 : Option Addr} {k1 k2 : Nat} (h : PlS w W P Q n ls bs B1 B2 u1 u2 k1 k2) (hb : Below W.heap.size W W') : PlS w W' P Q n ls bs B1 B2 u1 u2 k1 k2 := ⟨to_call h.b hb, h.r.later hb, h.s.later hb⟩
theorem refWholeP (n : Nat) (hn : n ≤ 256) (w : World) : Calls Try.prog 10 #[.int .i64 (n : Int)] w fun e w' => (∃ u1 k1 u2 k2, e = .returned (.tuple #[.agg #[.slice u1 n k1, .slice u2 n k2], .int .i64 0]) ∧ RdIs w' u1 n k1 (List.replicate n 0) ∧ RdIs w' u2 n k2 (List.replicate n 0)) ∧ Below w.heap.size w w' := by
  refine (refWhole_any n w).mono ?_
  rintro e w' ⟨⟨h, -⟩, hb⟩
  obtain ⟨v1, v2, rfl, o1, o2⟩ := h ⟨by omega, by omega⟩
  rw [Int.toNat_natCast] at o1 o2
  obtain ⟨u1, k1, rfl, r1⟩ := o1.rd
  obtain ⟨u2, k2, rfl, r2⟩ := o2.rd
  rw [List.length_replicate] at r1 r2
  exact ⟨⟨u1, k1, u2, k2, by rw [List.length_replicate], r1, r2⟩, hb⟩
end Go.Proofs.Ytaadhjdbieoieaa
