import Derived.Test.YtpinpcefgbhdmaaDoorOwnL
import Derived.Test.YtpinpcefgbhdmaaDoorBkA
import Derived.Deep.DeepCutAuto
import Derived.Deep.RegionHeld3
import Derived.Laws.OwnMore
namespace Go.Proofs.YtpinpcefgbhdmaaDoor
open Go.RowKit
set_option linter.unusedVariables false
set_option linter.unusedSimpArgs false

/-- The mark of the next list of a book with n entries. -/
def markOf (n : Nat) : Nat := n / 3 % 200 + 20
theorem mark_lt (n : Nat) : markOf n ≤ 219 := by unfold markOf; omega
abbrev MrB (w : World) (base : Nat) (v : Value) (n : Nat) (m : Nat) : Prop := Mr w 5 base v n (.int .u8 (m : Int))
theorem own_ne {w : World} {E E' : TypeId} {base base' size size' n n' : Nat} {v v' : Value} {xs xs' : List Value} (h : w.ownsRow base E size v n xs) (h' : w.ownsRow base' E' size' v' n' xs') (hE : E ≠ E') : ∀ k, v.ownBlock = some k → v'.ownBlock ≠ some k := by
  intro k hk hk'
  obtain ⟨c, hc⟩ := owns_type h hk
  obtain ⟨c', hc'⟩ := owns_type h' hk'
  rw [hc] at hc'
  simp only [Option.some.injEq, Obj.cells.injEq] at hc'
  exact hE hc'.2.1
theorem own_neB {w : World} {E E' : TypeId} {base size n B : Nat} {v : Value} {xs : List Value} {cur : Array Value} (h : w.ownsRow base E size v n xs) (h' : w.heap[B]? = some (.cells cur E')) (hE : E ≠ E') : v.ownBlock ≠ some B := by
  intro hk
  obtain ⟨c, hc⟩ := owns_type h hk
  rw [hc] at h'
  simp only [Option.some.injEq, Obj.cells.injEq] at h'
  exact hE h'.2.1
/-- While a row is written full. -/
def Half (w : World) (base : Nat) (v : Value) (ys : List Int) (i : Nat) (m : Nat) : Prop := Own w base v (List.replicate i (m : Int) ++ ys.drop i)
theorem half_step {w : World} {base : Nat} {l : Value} {ys : List Int} {k m : Nat} {la : Option Addr} {lc : Nat} (h : Half w base l ys k m) (hk : k < ys.length) (hm : m ≤ 255) (hv : l = .slice la ys.length lc) :
    ∃ g, la = some ⟨g, 0, none⟩ ∧ w.frozen? ⟨g, k, none⟩ = false ∧ (∃ v, w.cell? ⟨g, k, none⟩ = some v) ∧ Half (w.setCell ⟨g, k, none⟩ (.int .u8 (m : Int))) base l ys (k + 1) m ∧ Grw w (w.setCell ⟨g, k, none⟩ (.int .u8 (m : Int))) l.ownBlock l.ownBlock := by
  have hlen : (List.replicate k (m : Int) ++ ys.drop k).length = ys.length := by simp; omega
  rcases h.2 with ⟨h1, h2⟩ | ⟨g, cap, cur, h1, hg, hh, r1, r2, r3, r4⟩
  · rw [hlen] at h2; omega
  · rw [hlen] at h1 r1 r4
    have h0 := h
    unfold Half Own at h0
    rw [h1, hlen] at h0
    have e := h1
    rw [hv] at e
    simp only [Value.slice.injEq] at e
    obtain ⟨rfl, -, rfl⟩ := e
    refine ⟨g, rfl, World.ownsRow.frozenAt h0 k, ?_, ?_, ?_⟩
    · have := World.ownsRow.cellAt h0 k (by omega)
      rw [this]
      exact ⟨_, List.getElem?_eq_getElem (by simp; omega)⟩
    · have h3 := (World.ownsRow.stored h0 k (.int .u8 (m : Int))).1
      have e2 : ((List.replicate k (m : Int) ++ ys.drop k).map (Value.int .u8)).set k (.int .u8 (m : Int)) = (List.replicate (k + 1) (m : Int) ++ ys.drop (k + 1)).map (Value.int .u8) := by
        rw [List.drop_eq_getElem_cons hk, List.map_append, List.set_append_right (h := by simp), List.replicate_succ']
        simp
        rw [List.drop_eq_getElem_cons (by simpa using hk)]
        rfl
      rw [e2] at h3
      have e3 : (List.replicate (k + 1) (m : Int) ++ ys.drop (k + 1)).length = ys.length := by simp; omega
      unfold Half Own
      rw [e3, h1]
      exact h3
    · rw [h1]
      exact ⟨(World.ownsRow.stored h0 k (.int .u8 (m : Int))).2, .inl rfl⟩
theorem half_end {w : World} {base : Nat} {l : Value} {ys : List Int} {m : Nat} (h : Half w base l ys ys.length m) : MrB w base l ys.length m := by
  unfold Half Own at h
  rw [List.drop_length, List.append_nil] at h
  unfold MrB Mr
  simpa using h
theorem wpl_value_d {P : Program} {ops : Array Oper} {Q : Exit → Act → World → Prop} {rest : List Oper} {o : Oper} {a : Act} {w w' : World} {v : Value} (d : Nat) (hg : o.guard = none) (hd : o.dst = some d) (hr : (execOp a.eval o).run P w = .ok (.value v) w') (h : wpList P ops Q rest (a.put (some d) v) w') : wpList P ops Q (o :: rest) a w := wpl_value hg hr (by rw [hd]; exact h)
theorem put_d {P : Program} {ops : Array Oper} {Q : Exit → Act → World → Prop} {rest : List Oper} {o : Oper} {a : Act} {w : World} {v : Value} (d : Nat) (hd : o.dst = some d) (h : wpList P ops Q rest (a.put (some d) v) w) : wpList P ops Q rest (a.put o.dst v) w := by rw [hd]; exact h
theorem put_n {P : Program} {ops : Array Oper} {Q : Exit → Act → World → Prop} {rest : List Oper} {o : Oper} {a : Act} {w : World} {v : Value} (hd : o.dst = none) (h : wpList P ops Q rest a w) : wpList P ops Q rest (a.put o.dst v) w := by rw [hd]; exact h
theorem al_keep {w : World} {B : Nat} {o : Obj} (h : w.heap[B]? = some o) (o' : Obj) : (w.alloc o').heap[B]? = some o := by rw [Below.heap_alloc w o' B (Array.getElem?_eq_some_iff.1 h).1]; exact h
theorem bk_keep1 {w W : World} {B base : Nat} {Lv Mv l : Value} {ys : List Int} {r' : Option Nat} (hB : w.heap[B]? = some (.cells #[Lv, Mv] 44)) (hl : Own w base l ys) (hc : Grw w W l.ownBlock r') : W.heap[B]? = some (.cells #[Lv, Mv] 44) := by
  rw [hc.by'.block B (Array.getElem?_eq_some_iff.1 hB).1 (fun c => own_neB hl hB (by decide) c.symm)]
  exact hB
theorem bk_keep2 {w W W' : World} {B base : Nat} {Lv Mv l : Value} {ys : List Int} {r' r'' : Option Nat} (hB : w.heap[B]? = some (.cells #[Lv, Mv] 44)) (hl : Own w base l ys) (hc : Grw w W l.ownBlock r') (hc' : Grw W W' l.ownBlock r'') : W'.heap[B]? = some (.cells #[Lv, Mv] 44) := by
  have hb := (Array.getElem?_eq_some_iff.1 hB).1
  have := hc.by'.size
  rw [hc'.by'.block B (by omega) (fun c => own_neB hl hB (by decide) c.symm), hc.by'.block B hb (fun c => own_neB hl hB (by decide) c.symm)]
  exact hB
set_option maxRecDepth 100000 in
theorem ldL {W : World} {B : Nat} {Lv Mv : Value} {la : Option Addr} {n c : Nat} (h : W.heap[B]? = some (.cells #[Lv, Mv] 44)) (hv : Lv = .slice la n c) : (loadVar 27 ⟨B, 0, none⟩).run Tryd.prog W = .ok Lv W := by
  have c0 : W.cell? ⟨B, 0, none⟩ = some (.slice la n c) := by rw [cell_of_row _ B _ _ _ _ h, ← hv]; rfl
  rw [hv]
  simp [go_sem, c0, Result.andThen]
theorem ex_bs1 {ρ : Operand → Value} (o : Oper) (x : Operand) (ho : o.op = .buildSlice 23 1 #[(0, x)]) (m : Int) (hx : ρ x = .int .u8 m) (w : World) : (execOp ρ o).run Tryd.prog w = .ok (.value (.slice (some ⟨w.heap.size, 0, none⟩) 1 1)) (w.alloc (.cells #[.int .u8 m] 5)) := by
  have : (Instr.buildSlice 23 1 #[(0, .int .u8 m)]).run Tryd.prog w = .ok (.slice (some ⟨w.heap.size, 0, none⟩) 1 1) (w.alloc (.cells #[.int .u8 m] 5)) := by kernel_rfl
  unfold execOp
  simp only [ho, List.map_toArray, List.map_cons, List.map_nil, hx, this, Sem.run_bind, Sem.run_pure, Result.andThen_ok]
theorem ex_bs3 {ρ : Operand → Value} (o : Oper) (x y z : Operand) (ho : o.op = .buildSlice 27 3 #[(0, x), (1, y), (2, z)]) (a b c : Value) (hx : ρ x = a ∧ ρ y = b ∧ ρ z = c) (ha : ∃ p q r, a = .slice p q r) (hb : ∃ p q r, b = .slice p q r) (hc : ∃ p q r, c = .slice p q r) (w : World) : (execOp ρ o).run Tryd.prog w = .ok (.value (.slice (some ⟨w.heap.size, 0, none⟩) 3 3)) (w.alloc (.cells #[a, b, c] 23)) := by
  obtain ⟨p, q, r, rfl⟩ := ha
  obtain ⟨p', q', r', rfl⟩ := hb
  obtain ⟨p'', q'', r'', rfl⟩ := hc
  have : (Instr.buildSlice 27 3 #[(0, .slice p q r), (1, .slice p' q' r'), (2, .slice p'' q'' r'')]).run Tryd.prog w = .ok (.slice (some ⟨w.heap.size, 0, none⟩) 3 3) (w.alloc (.cells #[.slice p q r, .slice p' q' r', .slice p'' q'' r''] 23)) := by kernel_rfl
  unfold execOp
  simp only [ho, List.map_toArray, List.map_cons, List.map_nil, hx, this, Sem.run_bind, Sem.run_pure, Result.andThen_ok]
theorem mr_slice {w : World} {E : TypeId} {base : Nat} {v : Value} {n : Nat} {mv : Value} (h : Mr w E base v n mv) : ∃ p q r, v = .slice p q r := by
  rcases h.2 with ⟨rfl, _⟩ | ⟨g, cap, cur, rfl, _⟩
  · exact ⟨_, _, _, rfl⟩
  · exact ⟨_, _, _, rfl⟩
theorem Tryd.infoBSS : (Tryd.prog.info? 27).map (·.size) = some 1 := by kernel_rfl
theorem own_cells {w : World} {E : TypeId} {base size n : Nat} {v : Value} {xs : List Value} (h : w.ownsRow base E size v n xs) : v.cells = #[v] := by
  rcases h.2 with ⟨rfl, _⟩ | ⟨g, cap, cur, rfl, _⟩ <;> simp [Value.cells]
theorem own_one {w : World} {E : TypeId} {base size n : Nat} {v : Value} {xs : List Value} (h : w.ownsRow base E size v n xs) : ∀ u ∈ v.cells.toList, u.oneCell' = true := by
  rcases h.2 with ⟨rfl, _⟩ | ⟨g, cap, cur, rfl, _⟩ <;> (intro u hu; simp [Value.cells] at hu; subst hu; rfl)
theorem cells_new3 (w : World) {a b c : Value} {t : TypeId} : ∀ j u, [a, b, c][j]? = some u → (w.alloc (.cells #[a, b, c] t)).cell? ((⟨w.heap.size, 0, none⟩ : Addr).add j) = some u := by
  intro j u hu
  rw [Addr.add_lit, cell_of_row _ w.heap.size _ _ _ _ (heap_alloc_new w _), Nat.zero_add]
  simpa using hu
theorem one_new3 {a b c : Value} (ha : ∃ p q r, a = .slice p q r) (hb : ∃ p q r, b = .slice p q r) (hc : ∃ p q r, c = .slice p q r) : ∀ u ∈ [a, b, c], u.oneCell' = true := by
  obtain ⟨_, _, _, rfl⟩ := ha
  obtain ⟨_, _, _, rfl⟩ := hb
  obtain ⟨_, _, _, rfl⟩ := hc
  intro u hu
  simp at hu
  rcases hu with rfl | rfl | rfl <;> rfl
/-- Behind b.L = append(b.L, l, append(l, m), g). -/
structure R10 (w wx : World) (base B : Nat) (Lv Mv l u6 v2 Lv' : Value) (vs : List Value) (n m : Nat) : Prop where
  a : MrB wx base l n m
  b : MrB wx base v2 (n + 1) m
  c : MrB wx base u6 (n + 1 + 100) m
  L : OwnV wx base Lv' (vs ++ [l, v2, u6])
  blk : wx.heap[B]? = some (.cells #[Lv', Mv] 44)
  below : Below base w wx
  keep : ∀ k, k < w.heap.size → k ≠ B → l.ownBlock ≠ some k → Lv.ownBlock ≠ some k → wx.heap[k]? = w.heap[k]?
  at2 : v2.ownBlock = l.ownBlock ∨ ∀ k, v2.ownBlock = some k → w.heap.size ≤ k
  at3 : u6.ownBlock = l.ownBlock ∨ ∀ k, u6.ownBlock = some k → w.heap.size ≤ k
  atL : Lv'.ownBlock = Lv.ownBlock ∨ ∀ k, Lv'.ownBlock = some k → w.heap.size ≤ k
theorem grw_back {w W : World} {r r' r'' : Option Nat} (h : Grw w W r r') {W' : World} (k : Grw W W' r r'') : Grw w W' r r'' := by
  have hs := h.by'.size
  refine ⟨⟨k.by'.os.trans h.by'.os, k.by'.tape.trans h.by'.tape, k.by'.output.trans h.by'.output, Nat.le_trans hs k.by'.size, fun j hj hne => ?_⟩, ?_⟩
  · rw [k.by'.block j (by omega) hne, h.by'.block j hj hne]
  · rcases k.new with k1 | k1
    · exact .inl k1
    · exact .inr fun j hj => Nat.le_trans hs (k1 j hj)
theorem own_at {w W : World} {E E' : TypeId} {base base' n n' : Nat} {v v' : Value} {xs xs' : List Value} {r' : Option Nat} (h : w.ownsRow base E 1 v n xs) (h' : w.ownsRow base' E' 1 v' n' xs') (hE : E ≠ E') (hc : Grw w W v'.ownBlock r') : W.ownsRow base E 1 v n xs :=
  owns_keep h fun k hk => hc.by'.block k (World.ownsRow.lt h k hk).2 (fun c => own_ne h h' hE k hk c.symm)
/-- Ahead of the append to b.L: what is known of it. -/
theorem pre12 {w Wd w2 : World} {base : Nat} {Lv l u6 v2 : Value} {vs : List Value} {ys : List Int} (hL : OwnV w base Lv vs) (hl : Own w base l ys) (FC : Grw w Wd l.ownBlock u6.ownBlock) (C2 : Grw Wd w2 l.ownBlock v2.ownBlock) (o : Obj) :
    (w2.alloc o).ownsRow base 23 1 Lv vs.length vs :=
  World.ownsRow.alloc (own_at hL hl (by decide) (grw_back FC C2)) o
theorem below12 {w Wd w2 w3 : World} {base : Nat} {l Lv u6 v2 Lv' : Value} {vs : List Value} {ys : List Int} {o : Obj} (hbase : base ≤ w.heap.size) (hL : OwnV w base Lv vs) (hl : Own w base l ys) (FC : Grw w Wd l.ownBlock u6.ownBlock) (C2 : Grw Wd w2 l.ownBlock v2.ownBlock) (C3 : Grw (w2.alloc o) w3 Lv.ownBlock Lv'.ownBlock) : Below base w w3 := by
  have h1 := grw_back FC C2
  have b1 := h1.below (fun k hk => (World.ownsRow.lt hl k hk).1) hbase
  have hs := h1.by'.size
  have b2 : Below base w2 (w2.alloc o) := (Below.refl _ w2).alloc (by omega) o
  have b3 := C3.below (base := base) (fun k hk => (World.ownsRow.lt hL k hk).1) (by simp; omega)
  exact b1.trans (b2.trans b3)
theorem blk12 {w Wd w2 w3 : World} {base B : Nat} {l Lv Mv u6 v2 Lv' : Value} {vs : List Value} {ys : List Int} {o : Obj} (hB : w.heap[B]? = some (.cells #[Lv, Mv] 44)) (hL : OwnV w base Lv vs) (hl : Own w base l ys) (FC : Grw w Wd l.ownBlock u6.ownBlock) (C2 : Grw Wd w2 l.ownBlock v2.ownBlock) (C3 : Grw (w2.alloc o) w3 Lv.ownBlock Lv'.ownBlock) : w3.heap[B]? = some (.cells #[Lv, Mv] 44) := by
  have h2 := bk_keep2 hB hl FC C2
  have hb := (Array.getElem?_eq_some_iff.1 h2).1
  rw [C3.by'.block B (by simp; omega) (fun c => own_neB hL hB (by decide) c.symm)]
  exact al_keep h2 o
theorem r10_of {w Wd w2 w3 W5 : World} {base B : Nat} {l Lv Mv u6 v2 Lv' : Value} {vs : List Value} {ys : List Int} {n m : Nat} {o : Obj} (hB : w.heap[B]? = some (.cells #[Lv, Mv] 44)) (hL : OwnV w base Lv vs) (hl : Own w base l ys) (FC : Grw w Wd l.ownBlock u6.ownBlock) (C2 : Grw Wd w2 l.ownBlock v2.ownBlock)
    (A2 : MrB w2 base v2 (n + 1) m) (B2 : MrB w2 base l n m) (G2 : MrB w2 base u6 (n + 1 + 100) m) (C3 : Grw (w2.alloc o) w3 Lv.ownBlock Lv'.ownBlock) (O3 : w3.ownsRow base 23 1 Lv' (vs ++ [l, v2, u6]).length (vs ++ [l, v2, u6])) (h5 : W5.heap[B]? = some (.cells #[Lv', Mv] 44)) (b5 : Below base w W5) (t5 : ∀ k, k ≠ B → W5.heap[k]? = w3.heap[k]?) : R10 w W5 base B Lv Mv l u6 v2 Lv' vs n m := by
  have h1 := grw_back FC C2
  have hs := h1.by'.size
  have hLo : OwnV w2 base Lv vs := own_at hL hl (by decide) h1
  have hB2 := bk_keep2 hB hl FC C2
  have hB3 := blk12 hB hL hl FC C2 C3
  have mk : ∀ (v : Value) (k : Nat), MrB w2 base v k m → MrB W5 base v k m := by
    intro v k h
    have h3 : MrB w3 base v k m := own_at (World.ownsRow.alloc h o) (World.ownsRow.alloc hLo o) (by decide) C3
    exact owns_keep h3 fun j hj => t5 j fun e => by subst e; exact own_neB h3 hB3 (by decide) hj
  refine ⟨mk _ _ B2, mk _ _ A2, mk _ _ G2, ?_, h5, b5, ?_, ?_, ?_, ?_⟩
  · exact owns_keep O3 fun j hj => t5 j fun e => by subst e; exact own_neB O3 hB3 (by decide) hj
  · intro k hk hkB hkl hkL
    rw [t5 k hkB, C3.by'.block k (by simp; omega) (fun c => hkL c.symm), Below.heap_alloc w2 o k (by omega), h1.by'.block k hk (fun c => hkl c.symm)]
  · exact h1.new
  · exact FC.new
  · rcases C3.new with c | c
    · exact .inl c
    · exact .inr fun k hk => by have := c k hk; simp at this; omega
theorem Tryd.infoBS1 : (Tryd.prog.info? 23).map (·.size) = some 1 := by kernel_rfl
theorem r10_m {w wx : World} {base B : Nat} {Lv Mv l u6 v2 Lv' : Value} {vs : List Value} {ms : List Int} {n m : Nat} (hB : w.heap[B]? = some (.cells #[Lv, Mv] 44)) (hL : OwnV w base Lv vs) (hM : Own w base Mv ms) (hd : ∀ k, l.ownBlock = some k → Mv.ownBlock ≠ some k) (hR : R10 w wx base B Lv Mv l u6 v2 Lv' vs n m) : Own wx base Mv ms :=
  owns_keep hM fun k hk => hR.keep k (World.ownsRow.lt hM k hk).2 (fun e => by subst e; exact own_neB hM hB (by decide) hk) (fun c => hd k c hk) (fun c => own_ne hM hL (by decide) k hk c)
theorem blk_m {wc w4 : World} {base B : Nat} {Lv' Mv Mv' : Value} {ms : List Int} {o : Obj} (h : wc.heap[B]? = some (.cells #[Lv', Mv] 44)) (hM : Own wc base Mv ms) (c4 : Grw (wc.alloc o) w4 Mv.ownBlock Mv'.ownBlock) : w4.heap[B]? = some (.cells #[Lv', Mv] 44) := by
  have hb := (Array.getElem?_eq_some_iff.1 h).1
  rw [c4.by'.block B (by simp; omega) (fun c => own_neB hM h (by decide) c.symm)]
  exact al_keep h o
theorem below_m {w wc w4 : World} {base : Nat} {Mv Mv' : Value} {ms : List Int} {o : Obj} (hbase : base ≤ w.heap.size) (hb : Below base w wc) (hM : Own wc base Mv ms) (c4 : Grw (wc.alloc o) w4 Mv.ownBlock Mv'.ownBlock) : Below base w w4 := by
  have hs := hb.size
  have b2 : Below base wc (wc.alloc o) := (Below.refl _ wc).alloc (by omega) o
  exact hb.trans (b2.trans (c4.below (base := base) (fun k hk => (World.ownsRow.lt hM k hk).1) (by simp; omega)))
/-- What Take leaves. -/
structure Taken (w w' : World) (base B : Nat) (Lv Mv l Lv' Mv' v2 v3 : Value) (vs : List Value) (ms : List Int) (n m : Nat) : Prop where
  blk : w'.heap[B]? = some (.cells #[Lv', Mv'] 44)
  L : OwnV w' base Lv' (vs ++ [l, v2, v3])
  M : Own w' base Mv' (ms ++ [(m : Int), (m : Int), (m : Int)])
  a : MrB w' base l n m
  b : MrB w' base v2 (n + 1) m
  c : MrB w' base v3 (n + 1 + 100) m
  below : Below base w w'
  keep : ∀ k, k < w.heap.size → k ≠ B → l.ownBlock ≠ some k → Lv.ownBlock ≠ some k → Mv.ownBlock ≠ some k → w'.heap[k]? = w.heap[k]?
  at2 : v2.ownBlock = l.ownBlock ∨ ∀ k, v2.ownBlock = some k → w.heap.size ≤ k
  at3 : v3.ownBlock = l.ownBlock ∨ ∀ k, v3.ownBlock = some k → w.heap.size ≤ k
  atL : Lv'.ownBlock = Lv.ownBlock ∨ ∀ k, Lv'.ownBlock = some k → w.heap.size ≤ k
  atM : Mv'.ownBlock = Mv.ownBlock ∨ ∀ k, Mv'.ownBlock = some k → w.heap.size ≤ k
  ap1 : ∀ k, l.ownBlock = some k → Mv'.ownBlock ≠ some k
  ap2 : ∀ k, v2.ownBlock = some k → Mv'.ownBlock ≠ some k
  ap3 : ∀ k, v3.ownBlock = some k → Mv'.ownBlock ≠ some k
theorem taken_of {w wc w4 W6 : World} {base B : Nat} {Lv Mv l u6 v2 Lv' Mv' : Value} {vs : List Value} {ms : List Int} {n m : Nat} {o : Obj} (hB : w.heap[B]? = some (.cells #[Lv, Mv] 44)) (hL : OwnV w base Lv vs) (hM : Own w base Mv ms) (hd : ∀ k, l.ownBlock = some k → Mv.ownBlock ≠ some k) (hR : R10 w wc base B Lv Mv l u6 v2 Lv' vs n m)
    (o4 : w4.ownsRow base 5 1 Mv' (ms.map (Value.int .u8) ++ [Value.int .u8 (m : Int), Value.int .u8 (m : Int), Value.int .u8 (m : Int)]).length (ms.map (Value.int .u8) ++ [Value.int .u8 (m : Int), Value.int .u8 (m : Int), Value.int .u8 (m : Int)])) (c4 : Grw (wc.alloc o) w4 Mv.ownBlock Mv'.ownBlock) (h6 : W6.heap[B]? = some (.cells #[Lv', Mv'] 44)) (b6 : Below base w W6) (t6 : ∀ k, k ≠ B → W6.heap[k]? = w4.heap[k]?) : Taken w W6 base B Lv Mv l Lv' Mv' v2 u6 vs ms n m := by
  have hMc := r10_m hB hL hM hd hR
  have hB4 := blk_m hR.blk hMc c4
  have hs := hR.below.size
  have hMlt := fun k hk => (World.ownsRow.lt hM k hk).2
  have ne2 : ∀ v : Value, (v.ownBlock = l.ownBlock ∨ ∀ k, v.ownBlock = some k → w.heap.size ≤ k) → ∀ k, v.ownBlock = some k → Mv.ownBlock ≠ some k := by
    intro v hv k hk hk'
    rcases hv with e | e
    · exact hd k (e ▸ hk) hk'
    · have := e k hk
      have := hMlt k hk'
      omega
  have ap : ∀ v : Value, (v.ownBlock = l.ownBlock ∨ ∀ k, v.ownBlock = some k → w.heap.size ≤ k) → (∀ k, v.ownBlock = some k → k < wc.heap.size) → ∀ k, v.ownBlock = some k → Mv'.ownBlock ≠ some k := by
    intro v hv hlt k hk hk'
    rcases c4.new with e | e
    · exact ne2 v hv k hk (e ▸ hk')
    · have := e k hk'
      have := hlt k hk
      simp at *
      omega
  have mk : ∀ (v : Value) (k : Nat), MrB wc base v k m → (∀ j, v.ownBlock = some j → Mv.ownBlock ≠ some j) → MrB W6 base v k m := by
    intro v k h hne
    have h4 : MrB w4 base v k m := owns_keep (World.ownsRow.alloc h o) fun j hj => c4.by'.block j (by have := (World.ownsRow.lt h j hj).2; simp; omega) (fun c => hne j hj c.symm)
    exact owns_keep h4 fun j hj => t6 j fun e => by subst e; exact own_neB h4 hB4 (by decide) hj
  refine ⟨h6, ?_, ?_, mk _ _ hR.a (ne2 l (.inl rfl)), mk _ _ hR.b (ne2 v2 hR.at2), mk _ _ hR.c (ne2 u6 hR.at3), b6, ?_, hR.at2, hR.at3, hR.atL, ?_, ?_, ?_, ?_⟩
  · have h4 : OwnV w4 base Lv' (vs ++ [l, v2, u6]) := own_at (World.ownsRow.alloc hR.L o) (World.ownsRow.alloc hMc o) (by decide) c4
    exact owns_keep h4 fun j hj => t6 j fun e => by subst e; exact own_neB h4 hB4 (by decide) hj
  · have h5 : W6.ownsRow base 5 1 Mv' _ _ := owns_keep o4 fun j hj => t6 j fun e => by subst e; exact own_neB o4 hB4 (by decide) hj
    unfold Own
    simpa using h5
  · intro k hk hkB hkl hkL hkM
    rw [t6 k hkB, c4.by'.block k (by simp; omega) (fun c => hkM c.symm), Below.heap_alloc wc o k (by omega), hR.keep k hk hkB hkl hkL]
  · rcases c4.new with e | e
    · exact .inl e
    · exact .inr fun k hk => by have := e k hk; simp at this; omega
  · exact ap l (.inl rfl) fun k hk => (World.ownsRow.lt hR.a k hk).2
  · exact ap v2 hR.at2 fun k hk => (World.ownsRow.lt hR.b k hk).2
  · exact ap u6 hR.at3 fun k hk => (World.ownsRow.lt hR.c k hk).2
set_option maxRecDepth 100000 in
set_option maxHeartbeats 4000000 in
theorem take_any (base B : Nat) (Lv Mv l : Value) (vs : List Value) (ms : List Int) (ys : List Int) (w : World)
    (hB : w.heap[B]? = some (.cells #[Lv, Mv] 44)) (hbB : base ≤ B) (hL : OwnV w base Lv vs) (hM : Own w base Mv ms) (hl : Own w base l ys) (hd : ∀ k, l.ownBlock = some k → Mv.ownBlock ≠ some k)
    (hvl : vs.length ≤ 1000) (hml : ms.length ≤ 1000) (hyl : ys.length ≤ 10000) (hbase : base ≤ w.heap.size) :
    Calls Tryd.prog 16 #[.pointer (some ⟨B, 0, none⟩), l] w fun e w' => e = .returned (.tuple #[]) ∧ ∃ Lv' Mv' v2 v3, Taken w w' base B Lv Mv l Lv' Mv' v2 v3 vs ms ys.length (markOf vs.length) := by
  obtain ⟨ll, lc, hlv⟩ : ∃ la lc, l = .slice la ys.length lc := by
    rcases hl.2 with ⟨h1, h2⟩ | ⟨g, cap, cur, hv, -⟩
    · exact ⟨none, 0, by rw [h1, h2]⟩
    · exact ⟨_, cap, hv⟩
  obtain ⟨La, Lc, hLv⟩ : ∃ la lc, Lv = .slice la vs.length lc := by
    rcases hL.2 with ⟨h1, h2⟩ | ⟨g, cap, cur, hv, -⟩
    · exact ⟨none, 0, by rw [h1, h2]⟩
    · exact ⟨_, cap, hv⟩
  obtain ⟨Ma, Mc, hMv⟩ : ∃ la lc, Mv = .slice la ms.length lc := by
    rcases hM.2 with ⟨h1, h2⟩ | ⟨g, cap, cur, hv, -⟩
    · exact ⟨none, 0, by rw [h1, h2]⟩
    · exact ⟨_, cap, hv⟩
  subst hlv
  have HB : Hid _ := hB
  have HL : Hid (OwnV w base Lv vs) := hL
  have HM : Hid (Own w base Mv ms) := hM
  have HO : Hid (Own w base (.slice ll ys.length lc) ys) := hl
  have HD : Hid _ := hd
  have c0 : w.cell? ⟨B, 0, none⟩ = some (.slice La vs.length Lc) := by rw [cell_of_row _ B _ _ _ _ hB, ← hLv]; rfl
  have HLv : Hid (Lv = .slice La vs.length Lc) := hLv
  have HMv : Hid (Mv = .slice Ma ms.length Mc) := hMv
  clear hB hL hM hl hd hLv hMv
  have hmk := mark_lt vs.length
  go_enter Tryd.func16, Tryd.ntmps16
  go_upto_region 1 with fail
  rw [show ((vs.length : Int) / 3 % 200 + 20) = ((markOf vs.length : Nat) : Int) by unfold markOf; omega]
  obtain ⟨m, HMK⟩ : ∃ m, Hid (m = markOf vs.length) := ⟨_, rfl⟩
  rw [← HMK.out] at hmk ⊢
  clear c0
  go_wp2_with fail
  go_loopg [5] ys.length (fun g iv wr => ∃ (k : Nat), k + g = ys.length ∧ iv = .int .i64 k ∧ Hid (Half wr base (.slice ll ys.length lc) ys k m) ∧ Hid (Grw w wr (Value.slice ll ys.length lc).ownBlock (Value.slice ll ys.length lc).ownBlock))
  case atStart => exact ⟨0, by omega, rfl, HO, Grw.refl _ _⟩
  case round =>
    obtain ⟨k, hk, rfl, KH, KG⟩ := hrel
    by_cases hlt : k < ys.length
    · have hd1 : decide ((k : Int) < (ys.length : Int)) = true := decide_eq_true (by omega)
      obtain ⟨g, rfl⟩ : ∃ g, gk = g + 1 := ⟨gk - 1, by omega⟩
      obtain ⟨gb, rfl, s1, ⟨s2v, s2⟩, s3, s4⟩ := half_step KH.out hlt (by omega) rfl
      have S3 : Hid _ := s3
      have S4 : Hid _ := s4
      clear s3 s4
      go_wp2_with fail
      go_roundg g
      case measure => omega
      case rel => exact ⟨k + 1, by omega, by go_num, S3, KG.out.trans S4.out⟩
    · have hd1 : decide ((k : Int) < (ys.length : Int)) = false := decide_eq_false (by omega)
      obtain rfl : k = ys.length := by omega
      have G0 : Hid (MrB wr base (.slice ll ys.length lc) ys.length m) := half_end KH.out
      clear KH
      go_upto_region 5 with fail
      go_wp2_with (first
        | (refine append_m Tryd.underlying23 Tryd.infoByte rfl (by decide) _ (by rfl) _ _ (by rfl) base _ ys.length (.int .u8 (m : Int)) rfl (by rfl) G0.out 5 (by rfl) (by omega) (by have := KG.out.by'.size; omega) ?_; intro v1 w1 a1 b1 c1; have A1 : Hid _ := a1; have A0 : Hid (MrB w1 base (Value.slice ll ys.length lc) ys.length m) := b1 _ _ G0.out; have C1 : Hid _ := KG.out.trans c1; clear a1 b1 c1 G0 KG))
      go_loopg [6, 7] 100 (fun g gv iv wx => ∃ (k : Nat), k + g = 100 ∧ iv = .int .i64 k ∧ Hid (MrB wx base gv (ys.length + 1 + k) m) ∧ Hid (MrB wx base (Value.slice ll ys.length lc) ys.length m) ∧ Hid (Grw w wx (Value.slice ll ys.length lc).ownBlock gv.ownBlock))
      case atStart => exact ⟨0, by omega, rfl, A1, A0, C1⟩
      case round =>
        clear A1 A0 C1
        obtain ⟨k, hk, rfl, A1, A0, C1⟩ := hrel
        by_cases hlt : k < 100
        · have hd1 : decide ((k : Int) < 100) = true := decide_eq_true (by omega)
          obtain ⟨g, rfl⟩ : ∃ g, gk = g + 1 := ⟨gk - 1, by omega⟩
          go_wp2_with (first
            | (refine append_m Tryd.underlying23 Tryd.infoByte rfl (by decide) _ (by rfl) _ _ (by rfl) base _ (ys.length + 1 + k) (.int .u8 (m : Int)) rfl (by rfl) A1.out 5 (by rfl) (by omega) (by have := C1.out.by'.size; omega) ?_; intro v2 w2 a1 b1 c1; have A2 : Hid _ := a1; have B2 : Hid _ := b1 _ _ A0.out; have C2 : Hid _ := C1.out.trans c1; clear a1 b1 c1 A1 A0 C1))
          go_roundg g
          case measure => omega
          case rel => exact ⟨k + 1, by omega, by go_num, A2, B2, C2⟩
        · have hd1 : decide ((k : Int) < 100) = false := decide_eq_false (by omega)
          obtain rfl : k = 100 := by omega
          go_upto_region 10 with fail
          go_cut [] (fun wx => ∃ v2 Lv', R10 w wx base B Lv Mv (Value.slice ll ys.length lc) u6 v2 Lv' vs ys.length m)
          case rest =>
            obtain ⟨v2, Lv', hR⟩ := hcut
            have HR : Hid _ := hR
            clear hR A0 A1 C1
            have c0 : wc.cell? ⟨B, 1, none⟩ = some (.slice Ma ms.length Mc) := by rw [cell_of_row _ B _ _ _ _ HR.out.blk, ← HMv.out]; rfl
            have HM1 : Hid (Own wc base Mv ms) := r10_m HB.out HL.out HM.out HD.out HR.out
            have HM2 : Hid (wc.ownsRow base 5 1 (.slice Ma ms.length Mc) (ms.map (Value.int .u8)).length (ms.map (Value.int .u8))) := by rw [← HMv.out, List.length_map]; exact HM1.out
            have hws := HR.out.below.size
            go_wp2_with (first
              | (refine append_gr Tryd.underlying23 Tryd.infoByte rfl (by decide) _ (by rfl) _ _ (by rfl) base _ (ms.map (Value.int .u8)) (by rfl) (World.ownsRow.alloc HM2.out _) ⟨wc.heap.size, 0, none⟩ 3 3 [Value.int .u8 (m : Int), Value.int .u8 (m : Int), Value.int .u8 (m : Int)] (by rfl) rfl (by decide) (cells_new3 wc) (by intro u hu; simp at hu; subst hu; rfl) (by simp; omega) (by simp; omega) ?_; intro Mv' w4 o4 c4; have O4 : Hid _ := o4; have C4 : Hid _ := c4; have B4 : Hid (w4.heap[B]? = some (.cells #[Lv', Mv] 44)) := blk_m HR.out.blk HM1.out (HMv.out ▸ c4); have E4 : Hid (Below base w w4) := below_m hbase HR.out.below HM1.out (HMv.out ▸ c4); clear o4 c4)
              | (refine wpList_store_at (by rfl) 23 _ _ (by rfl) w base B 1 Mv' #[Lv', Mv] #[Lv', Mv'] 44 (by rfl) (by rfl) B4.out E4.out hbB 1 Tryd.infoBS1 (by rw [own_cells O4.out]; rfl) (Nat.le_of_ble_eq_true rfl) (own_one O4.out) (by rw [own_cells O4.out]; rfl) ?_; intro W6 h6 b6 s6 t6))
            go_end0
            exact ⟨rfl, Lv', Mv', v2, u6, HMK.out ▸ taken_of HB.out HL.out HM.out HD.out HR.out O4.out (HMv.out ▸ C4.out) h6 b6 t6⟩
          refine wp_region_noPanic ?_
          refine wp_region_any (by kernel_rfl) ?_
          generalize hWd : ({ heap := wr.heap, tape := wr.tape, drawn := wr.drawn + 1, os := wr.os, output := wr.output } : World) = Wd
          have FA : Hid (MrB Wd base (Value.slice ll ys.length lc) ys.length m) := by subst hWd; exact A0.out
          have FG : Hid (MrB Wd base u6 (ys.length + 1 + 100) m) := by subst hWd; exact A1.out
          have FC : Hid (Grw w Wd (Value.slice ll ys.length lc).ownBlock u6.ownBlock) := by subst hWd; exact ⟨⟨C1.out.by'.os, C1.out.by'.tape, C1.out.by'.output, C1.out.by'.size, C1.out.by'.block⟩, C1.out.new⟩
          clear hWd A0 A1 C1
          have FB : Hid (Wd.heap[B]? = some (.cells #[Lv, Mv] 44)) := bk_keep1 HB.out HO.out FC.out
          refine take_d 39 (i := 0) (v := (.pointer (some ⟨B, 0, none⟩))) rfl rfl (by kernel_rfl) (by kernel_rfl) (by kernel_rfl) (fun _ _ _ h => h) (Or.inl ⟨(by kernel_rfl), fun _ => by kernel_rfl⟩) ?_
          refine take_d 40 (i := 1) (v := (.pointer (some ⟨B, 0, none⟩))) rfl rfl (by kernel_rfl) (by kernel_rfl) (by kernel_rfl) (fun _ _ _ h => h) (Or.inl ⟨(by kernel_rfl), fun _ => by kernel_rfl⟩) ?_
          refine take_d 41 (i := 2) (v := (.pointer (some ⟨B, 0, none⟩))) rfl rfl (by kernel_rfl) (by kernel_rfl) (by kernel_rfl) (fun _ _ _ h => h) (Or.inl ⟨(by kernel_rfl), fun _ => by kernel_rfl⟩) ?_
          refine take_d 42 (i := 3) (v := (.pointer (some ⟨B, 0, none⟩))) rfl rfl (by kernel_rfl) (by kernel_rfl) (by kernel_rfl) (fun _ _ _ h => h) (Or.inl ⟨(by kernel_rfl), fun _ => by kernel_rfl⟩) ?_
          refine take_d 44 (i := 5) (v := (Value.slice ll ys.length lc)) rfl rfl (by kernel_rfl) (by kernel_rfl) (by kernel_rfl) (fun _ _ _ h => h) (Or.inl ⟨(by kernel_rfl), fun _ => by kernel_rfl⟩) ?_
          refine take_d 45 (i := 6) (v := (Value.slice ll ys.length lc)) rfl rfl (by kernel_rfl) (by kernel_rfl) (by kernel_rfl) (fun _ _ _ h => h) (Or.inl ⟨(by kernel_rfl), fun _ => by kernel_rfl⟩) ?_
          refine take_d 46 (i := 7) (v := (.int .u8 (m : Int))) rfl rfl (by kernel_rfl) (by kernel_rfl) (by kernel_rfl) (fun _ _ _ h => h) (Or.inl ⟨(by kernel_rfl), fun _ => by kernel_rfl⟩) ?_
          refine take_d 49 (i := 10) (v := u6) rfl rfl (by kernel_rfl) (by kernel_rfl) (by kernel_rfl) (fun _ _ _ h => h) (Or.inl ⟨(by kernel_rfl), fun _ => by kernel_rfl⟩) ?_
          (try (simp only [Act.put, List.setIfInBounds_toArray, List.set_cons_zero, List.set_cons_succ]))
          refine wpAny_ready (rs := [4, 8]) (by kernel_rfl) (by simp) ?_
          refine ready_one (i := 4) rfl _ rfl ?_ (ready_one (i := 8) rfl _ rfl ?_ AllReady.nil)
          · refine wpl_value_d 43 rfl rfl (ex_load1 _ _ _ rfl B 0 (by kernel_rfl) Wd Lv (ldL FB.out HLv.out)) ?_
            show wpAny _ _ _ _ _ _ _ _
            (try (simp only [Act.put, List.setIfInBounds_toArray, List.set_cons_zero, List.set_cons_succ]))
            refine wpAny_ready (rs := [8]) (by kernel_rfl) (by simp) ?_
            refine ready_one (i := 8) rfl _ rfl ?_ AllReady.nil
            refine wpl_value_d 47 rfl rfl (ex_bs1 _ _ rfl (m : Int) (by kernel_rfl) Wd) ?_
            show wpAny _ _ _ _ _ _ _ _
            (try (simp only [Act.put, List.setIfInBounds_toArray, List.set_cons_zero, List.set_cons_succ]))
            refine wpAny_ready (rs := [9]) (by kernel_rfl) (by simp) ?_
            refine ready_one (i := 9) rfl _ rfl ?_ AllReady.nil
            refine append_m Tryd.underlying23 Tryd.infoByte rfl (by decide) Wd rfl _ _ rfl base (Value.slice ll ys.length lc) ys.length (.int .u8 (m : Int)) rfl (by kernel_rfl) FA.out 5 (by kernel_rfl) (by omega) (by have := FC.out.by'.size; omega) ?_
            intro v2 w2 a2 b2 c2
            have A2 : Hid _ := a2
            have B2 : Hid _ := b2 _ _ FA.out
            have G2 : Hid _ := b2 _ _ FG.out
            have C2 : Hid _ := c2
            have HB2 : Hid (w2.heap[B]? = some (.cells #[Lv, Mv] 44)) := bk_keep2 HB.out HO.out FC.out c2
            clear a2 b2 c2
            refine put_d 48 rfl ?_
            show wpAny _ _ _ _ _ _ _ _
            (try (simp only [Act.put, List.setIfInBounds_toArray, List.set_cons_zero, List.set_cons_succ]))
            refine wpAny_ready (rs := [11]) (by kernel_rfl) (by simp) ?_
            refine ready_one (i := 11) rfl _ rfl ?_ AllReady.nil
            refine wpl_value_d 50 rfl rfl (ex_bs3 _ _ _ _ rfl (Value.slice ll ys.length lc) v2 u6 ⟨(by kernel_rfl), (by kernel_rfl), (by kernel_rfl)⟩ ⟨_, _, _, rfl⟩ (mr_slice A2.out) (mr_slice G2.out) w2) ?_
            show wpAny _ _ _ _ _ _ _ _
            (try (simp only [Act.put, List.setIfInBounds_toArray, List.set_cons_zero, List.set_cons_succ]))
            refine wpAny_ready (rs := [12]) (by kernel_rfl) (by simp) ?_
            refine ready_one (i := 12) rfl _ rfl ?_ AllReady.nil
            refine append_gr Tryd.underlying27 Tryd.infoBytes rfl (by decide) _ rfl _ _ rfl base Lv vs (by kernel_rfl) (pre12 HL.out HO.out FC.out C2.out _) ⟨w2.heap.size, 0, none⟩ 3 3 [(Value.slice ll ys.length lc), v2, u6] (by kernel_rfl) rfl (by decide) (cells_new3 w2) (one_new3 ⟨_, _, _, rfl⟩ (mr_slice A2.out) (mr_slice G2.out)) (by omega) (by have := (grw_back FC.out C2.out).by'.size; simp; omega) ?_
            intro Lv' w3 o3 c3
            refine put_d 51 rfl ?_
            show wpAny _ _ _ _ _ _ _ _
            (try (simp only [Act.put, List.setIfInBounds_toArray, List.set_cons_zero, List.set_cons_succ]))
            refine wpAny_ready (rs := [13]) (by kernel_rfl) (by simp) ?_
            refine ready_one (i := 13) rfl _ rfl ?_ AllReady.nil
            refine wpl_value_d 52 rfl rfl (w' := w3) (v := .pointer (some ⟨B, 0, none⟩)) (by kernel_rfl) ?_
            show wpAny _ _ _ _ _ _ _ _
            (try (simp only [Act.put, List.setIfInBounds_toArray, List.set_cons_zero, List.set_cons_succ]))
            refine wpAny_ready (rs := [14]) (by kernel_rfl) (by simp) ?_
            refine ready_one (i := 14) rfl _ rfl ?_ AllReady.nil
            refine wpl_value_d 53 rfl rfl (w' := w3) (v := .pointer (some ⟨B, 0, none⟩)) (by kernel_rfl) ?_
            show wpAny _ _ _ _ _ _ _ _
            (try (simp only [Act.put, List.setIfInBounds_toArray, List.set_cons_zero, List.set_cons_succ]))
            refine wpAny_ready (rs := [15]) (by kernel_rfl) (by simp) ?_
            refine ready_one (i := 15) rfl _ rfl ?_ AllReady.nil
            refine wpList_store_at rfl 27 _ _ rfl w base B 0 Lv' #[Lv, Mv] #[Lv', Mv] 44 (by kernel_rfl) (by kernel_rfl) (blk12 HB.out HL.out HO.out FC.out C2.out c3) (below12 hbase HL.out HO.out FC.out C2.out c3) hbB 1 Tryd.infoBSS (by rw [own_cells o3]; rfl) (Nat.le_of_ble_eq_true rfl) (own_one o3) (by rw [own_cells o3]; rfl) ?_
            intro W5 h5 b5 s5 t5
            refine put_n rfl ?_
            show wpAny _ _ _ _ _ _ _ _
            refine wpAny_done (by kernel_rfl) ?_ _
            refine NoPanic.normal ?_
            (try (simp only [Act.put, List.setIfInBounds_toArray, List.set_cons_zero, List.set_cons_succ]))
            go_wp2_with fail
            go_meet
            exact ⟨v2, Lv', r10_of HB.out HL.out HO.out FC.out C2.out A2.out B2.out G2.out c3 o3 h5 b5 t5⟩
          · refine wpl_value_d 47 rfl rfl (ex_bs1 _ _ rfl (m : Int) (by kernel_rfl) Wd) ?_
            show wpAny _ _ _ _ _ _ _ _
            (try (simp only [Act.put, List.setIfInBounds_toArray, List.set_cons_zero, List.set_cons_succ]))
            refine wpAny_ready (rs := [4, 9]) (by kernel_rfl) (by simp) ?_
            refine ready_one (i := 4) rfl _ rfl ?_ (ready_one (i := 9) rfl _ rfl ?_ AllReady.nil)
            · refine wpl_value_d 43 rfl rfl (ex_load1 _ _ _ rfl B 0 (by kernel_rfl) _ Lv (ldL (al_keep FB.out _) HLv.out)) ?_
              show wpAny _ _ _ _ _ _ _ _
              (try (simp only [Act.put, List.setIfInBounds_toArray, List.set_cons_zero, List.set_cons_succ]))
              refine wpAny_ready (rs := [9]) (by kernel_rfl) (by simp) ?_
              refine ready_one (i := 9) rfl _ rfl ?_ AllReady.nil
              refine append_m Tryd.underlying23 Tryd.infoByte rfl (by decide) Wd rfl _ _ rfl base (Value.slice ll ys.length lc) ys.length (.int .u8 (m : Int)) rfl (by kernel_rfl) FA.out 5 (by kernel_rfl) (by omega) (by have := FC.out.by'.size; omega) ?_
              intro v2 w2 a2 b2 c2
              have A2 : Hid _ := a2
              have B2 : Hid _ := b2 _ _ FA.out
              have G2 : Hid _ := b2 _ _ FG.out
              have C2 : Hid _ := c2
              have HB2 : Hid (w2.heap[B]? = some (.cells #[Lv, Mv] 44)) := bk_keep2 HB.out HO.out FC.out c2
              clear a2 b2 c2
              refine put_d 48 rfl ?_
              show wpAny _ _ _ _ _ _ _ _
              (try (simp only [Act.put, List.setIfInBounds_toArray, List.set_cons_zero, List.set_cons_succ]))
              refine wpAny_ready (rs := [11]) (by kernel_rfl) (by simp) ?_
              refine ready_one (i := 11) rfl _ rfl ?_ AllReady.nil
              refine wpl_value_d 50 rfl rfl (ex_bs3 _ _ _ _ rfl (Value.slice ll ys.length lc) v2 u6 ⟨(by kernel_rfl), (by kernel_rfl), (by kernel_rfl)⟩ ⟨_, _, _, rfl⟩ (mr_slice A2.out) (mr_slice G2.out) w2) ?_
              show wpAny _ _ _ _ _ _ _ _
              (try (simp only [Act.put, List.setIfInBounds_toArray, List.set_cons_zero, List.set_cons_succ]))
              refine wpAny_ready (rs := [12]) (by kernel_rfl) (by simp) ?_
              refine ready_one (i := 12) rfl _ rfl ?_ AllReady.nil
              refine append_gr Tryd.underlying27 Tryd.infoBytes rfl (by decide) _ rfl _ _ rfl base Lv vs (by kernel_rfl) (pre12 HL.out HO.out FC.out C2.out _) ⟨w2.heap.size, 0, none⟩ 3 3 [(Value.slice ll ys.length lc), v2, u6] (by kernel_rfl) rfl (by decide) (cells_new3 w2) (one_new3 ⟨_, _, _, rfl⟩ (mr_slice A2.out) (mr_slice G2.out)) (by omega) (by have := (grw_back FC.out C2.out).by'.size; simp; omega) ?_
              intro Lv' w3 o3 c3
              refine put_d 51 rfl ?_
              show wpAny _ _ _ _ _ _ _ _
              (try (simp only [Act.put, List.setIfInBounds_toArray, List.set_cons_zero, List.set_cons_succ]))
              refine wpAny_ready (rs := [13]) (by kernel_rfl) (by simp) ?_
              refine ready_one (i := 13) rfl _ rfl ?_ AllReady.nil
              refine wpl_value_d 52 rfl rfl (w' := w3) (v := .pointer (some ⟨B, 0, none⟩)) (by kernel_rfl) ?_
              show wpAny _ _ _ _ _ _ _ _
              (try (simp only [Act.put, List.setIfInBounds_toArray, List.set_cons_zero, List.set_cons_succ]))
              refine wpAny_ready (rs := [14]) (by kernel_rfl) (by simp) ?_
              refine ready_one (i := 14) rfl _ rfl ?_ AllReady.nil
              refine wpl_value_d 53 rfl rfl (w' := w3) (v := .pointer (some ⟨B, 0, none⟩)) (by kernel_rfl) ?_
              show wpAny _ _ _ _ _ _ _ _
              (try (simp only [Act.put, List.setIfInBounds_toArray, List.set_cons_zero, List.set_cons_succ]))
              refine wpAny_ready (rs := [15]) (by kernel_rfl) (by simp) ?_
              refine ready_one (i := 15) rfl _ rfl ?_ AllReady.nil
              refine wpList_store_at rfl 27 _ _ rfl w base B 0 Lv' #[Lv, Mv] #[Lv', Mv] 44 (by kernel_rfl) (by kernel_rfl) (blk12 HB.out HL.out HO.out FC.out C2.out c3) (below12 hbase HL.out HO.out FC.out C2.out c3) hbB 1 Tryd.infoBSS (by rw [own_cells o3]; rfl) (Nat.le_of_ble_eq_true rfl) (own_one o3) (by rw [own_cells o3]; rfl) ?_
              intro W5 h5 b5 s5 t5
              refine put_n rfl ?_
              show wpAny _ _ _ _ _ _ _ _
              refine wpAny_done (by kernel_rfl) ?_ _
              refine NoPanic.normal ?_
              (try (simp only [Act.put, List.setIfInBounds_toArray, List.set_cons_zero, List.set_cons_succ]))
              go_wp2_with fail
              go_meet
              exact ⟨v2, Lv', r10_of HB.out HL.out HO.out FC.out C2.out A2.out B2.out G2.out c3 o3 h5 b5 t5⟩
            · refine append_m Tryd.underlying23 Tryd.infoByte rfl (by decide) Wd rfl _ _ rfl base (Value.slice ll ys.length lc) ys.length (.int .u8 (m : Int)) rfl (by kernel_rfl) FA.out 5 (by kernel_rfl) (by omega) (by have := FC.out.by'.size; omega) ?_
              intro v2 w2 a2 b2 c2
              have A2 : Hid _ := a2
              have B2 : Hid _ := b2 _ _ FA.out
              have G2 : Hid _ := b2 _ _ FG.out
              have C2 : Hid _ := c2
              have HB2 : Hid (w2.heap[B]? = some (.cells #[Lv, Mv] 44)) := bk_keep2 HB.out HO.out FC.out c2
              clear a2 b2 c2
              refine put_d 48 rfl ?_
              show wpAny _ _ _ _ _ _ _ _
              (try (simp only [Act.put, List.setIfInBounds_toArray, List.set_cons_zero, List.set_cons_succ]))
              refine wpAny_ready (rs := [4, 11]) (by kernel_rfl) (by simp) ?_
              refine ready_one (i := 4) rfl _ rfl ?_ (ready_one (i := 11) rfl _ rfl ?_ AllReady.nil)
              · refine wpl_value_d 43 rfl rfl (ex_load1 _ _ _ rfl B 0 (by kernel_rfl) w2 Lv (ldL HB2.out HLv.out)) ?_
                show wpAny _ _ _ _ _ _ _ _
                (try (simp only [Act.put, List.setIfInBounds_toArray, List.set_cons_zero, List.set_cons_succ]))
                refine wpAny_ready (rs := [11]) (by kernel_rfl) (by simp) ?_
                refine ready_one (i := 11) rfl _ rfl ?_ AllReady.nil
                refine wpl_value_d 50 rfl rfl (ex_bs3 _ _ _ _ rfl (Value.slice ll ys.length lc) v2 u6 ⟨(by kernel_rfl), (by kernel_rfl), (by kernel_rfl)⟩ ⟨_, _, _, rfl⟩ (mr_slice A2.out) (mr_slice G2.out) w2) ?_
                show wpAny _ _ _ _ _ _ _ _
                (try (simp only [Act.put, List.setIfInBounds_toArray, List.set_cons_zero, List.set_cons_succ]))
                refine wpAny_ready (rs := [12]) (by kernel_rfl) (by simp) ?_
                refine ready_one (i := 12) rfl _ rfl ?_ AllReady.nil
                refine append_gr Tryd.underlying27 Tryd.infoBytes rfl (by decide) _ rfl _ _ rfl base Lv vs (by kernel_rfl) (pre12 HL.out HO.out FC.out C2.out _) ⟨w2.heap.size, 0, none⟩ 3 3 [(Value.slice ll ys.length lc), v2, u6] (by kernel_rfl) rfl (by decide) (cells_new3 w2) (one_new3 ⟨_, _, _, rfl⟩ (mr_slice A2.out) (mr_slice G2.out)) (by omega) (by have := (grw_back FC.out C2.out).by'.size; simp; omega) ?_
                intro Lv' w3 o3 c3
                refine put_d 51 rfl ?_
                show wpAny _ _ _ _ _ _ _ _
                (try (simp only [Act.put, List.setIfInBounds_toArray, List.set_cons_zero, List.set_cons_succ]))
                refine wpAny_ready (rs := [13]) (by kernel_rfl) (by simp) ?_
                refine ready_one (i := 13) rfl _ rfl ?_ AllReady.nil
                refine wpl_value_d 52 rfl rfl (w' := w3) (v := .pointer (some ⟨B, 0, none⟩)) (by kernel_rfl) ?_
                show wpAny _ _ _ _ _ _ _ _
                (try (simp only [Act.put, List.setIfInBounds_toArray, List.set_cons_zero, List.set_cons_succ]))
                refine wpAny_ready (rs := [14]) (by kernel_rfl) (by simp) ?_
                refine ready_one (i := 14) rfl _ rfl ?_ AllReady.nil
                refine wpl_value_d 53 rfl rfl (w' := w3) (v := .pointer (some ⟨B, 0, none⟩)) (by kernel_rfl) ?_
                show wpAny _ _ _ _ _ _ _ _
                (try (simp only [Act.put, List.setIfInBounds_toArray, List.set_cons_zero, List.set_cons_succ]))
                refine wpAny_ready (rs := [15]) (by kernel_rfl) (by simp) ?_
                refine ready_one (i := 15) rfl _ rfl ?_ AllReady.nil
                refine wpList_store_at rfl 27 _ _ rfl w base B 0 Lv' #[Lv, Mv] #[Lv', Mv] 44 (by kernel_rfl) (by kernel_rfl) (blk12 HB.out HL.out HO.out FC.out C2.out c3) (below12 hbase HL.out HO.out FC.out C2.out c3) hbB 1 Tryd.infoBSS (by rw [own_cells o3]; rfl) (Nat.le_of_ble_eq_true rfl) (own_one o3) (by rw [own_cells o3]; rfl) ?_
                intro W5 h5 b5 s5 t5
                refine put_n rfl ?_
                show wpAny _ _ _ _ _ _ _ _
                refine wpAny_done (by kernel_rfl) ?_ _
                refine NoPanic.normal ?_
                (try (simp only [Act.put, List.setIfInBounds_toArray, List.set_cons_zero, List.set_cons_succ]))
                go_wp2_with fail
                go_meet
                exact ⟨v2, Lv', r10_of HB.out HL.out HO.out FC.out C2.out A2.out B2.out G2.out c3 o3 h5 b5 t5⟩
              · refine wpl_value_d 50 rfl rfl (ex_bs3 _ _ _ _ rfl (Value.slice ll ys.length lc) v2 u6 ⟨(by kernel_rfl), (by kernel_rfl), (by kernel_rfl)⟩ ⟨_, _, _, rfl⟩ (mr_slice A2.out) (mr_slice G2.out) w2) ?_
                show wpAny _ _ _ _ _ _ _ _
                (try (simp only [Act.put, List.setIfInBounds_toArray, List.set_cons_zero, List.set_cons_succ]))
                refine wpAny_ready (rs := [4]) (by kernel_rfl) (by simp) ?_
                refine ready_one (i := 4) rfl _ rfl ?_ AllReady.nil
                refine wpl_value_d 43 rfl rfl (ex_load1 _ _ _ rfl B 0 (by kernel_rfl) _ Lv (ldL (al_keep HB2.out _) HLv.out)) ?_
                show wpAny _ _ _ _ _ _ _ _
                (try (simp only [Act.put, List.setIfInBounds_toArray, List.set_cons_zero, List.set_cons_succ]))
                refine wpAny_ready (rs := [12]) (by kernel_rfl) (by simp) ?_
                refine ready_one (i := 12) rfl _ rfl ?_ AllReady.nil
                refine append_gr Tryd.underlying27 Tryd.infoBytes rfl (by decide) _ rfl _ _ rfl base Lv vs (by kernel_rfl) (pre12 HL.out HO.out FC.out C2.out _) ⟨w2.heap.size, 0, none⟩ 3 3 [(Value.slice ll ys.length lc), v2, u6] (by kernel_rfl) rfl (by decide) (cells_new3 w2) (one_new3 ⟨_, _, _, rfl⟩ (mr_slice A2.out) (mr_slice G2.out)) (by omega) (by have := (grw_back FC.out C2.out).by'.size; simp; omega) ?_
                intro Lv' w3 o3 c3
                refine put_d 51 rfl ?_
                show wpAny _ _ _ _ _ _ _ _
                (try (simp only [Act.put, List.setIfInBounds_toArray, List.set_cons_zero, List.set_cons_succ]))
                refine wpAny_ready (rs := [13]) (by kernel_rfl) (by simp) ?_
                refine ready_one (i := 13) rfl _ rfl ?_ AllReady.nil
                refine wpl_value_d 52 rfl rfl (w' := w3) (v := .pointer (some ⟨B, 0, none⟩)) (by kernel_rfl) ?_
                show wpAny _ _ _ _ _ _ _ _
                (try (simp only [Act.put, List.setIfInBounds_toArray, List.set_cons_zero, List.set_cons_succ]))
                refine wpAny_ready (rs := [14]) (by kernel_rfl) (by simp) ?_
                refine ready_one (i := 14) rfl _ rfl ?_ AllReady.nil
                refine wpl_value_d 53 rfl rfl (w' := w3) (v := .pointer (some ⟨B, 0, none⟩)) (by kernel_rfl) ?_
                show wpAny _ _ _ _ _ _ _ _
                (try (simp only [Act.put, List.setIfInBounds_toArray, List.set_cons_zero, List.set_cons_succ]))
                refine wpAny_ready (rs := [15]) (by kernel_rfl) (by simp) ?_
                refine ready_one (i := 15) rfl _ rfl ?_ AllReady.nil
                refine wpList_store_at rfl 27 _ _ rfl w base B 0 Lv' #[Lv, Mv] #[Lv', Mv] 44 (by kernel_rfl) (by kernel_rfl) (blk12 HB.out HL.out HO.out FC.out C2.out c3) (below12 hbase HL.out HO.out FC.out C2.out c3) hbB 1 Tryd.infoBSS (by rw [own_cells o3]; rfl) (Nat.le_of_ble_eq_true rfl) (own_one o3) (by rw [own_cells o3]; rfl) ?_
                intro W5 h5 b5 s5 t5
                refine put_n rfl ?_
                show wpAny _ _ _ _ _ _ _ _
                refine wpAny_done (by kernel_rfl) ?_ _
                refine NoPanic.normal ?_
                (try (simp only [Act.put, List.setIfInBounds_toArray, List.set_cons_zero, List.set_cons_succ]))
                go_wp2_with fail
                go_meet
                exact ⟨v2, Lv', r10_of HB.out HL.out HO.out FC.out C2.out A2.out B2.out G2.out c3 o3 h5 b5 t5⟩
end Go.Proofs.YtpinpcefgbhdmaaDoor
