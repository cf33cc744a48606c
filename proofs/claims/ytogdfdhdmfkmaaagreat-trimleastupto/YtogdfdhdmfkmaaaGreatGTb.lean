import Derived.Test.YtogdfdhdmfkmaaaGreatGTa
import Derived.Test.YtogdfdhdmfkmaaaGreatGJf
namespace Go.Proofs.YtogdfdhdmfkmaaaGreat
open Go.RowKit Go.Shelf
set_option linter.unusedVariables false
set_option linter.unusedSimpArgs false

/-- Columns in memory of their own: a list of Ids and one of lists. -/
structure ClR (w : World) (base B : Nat) (xi xg : List Value) (vi vg : Value) : Prop where
  box : w.heap[B]? = some (.cells #[vi, vg] 51)
  i : w.ownsRow base 3 1 vi xi.length xi
  g : w.ownsRow base 22 1 vg xg.length xg
/-- On the way through take. -/
structure TkS (w V : World) (base B : Nat) (vi0 vg0 vi vg : Value) (xi xg : List Value) : Prop where
  box : V.heap[B]? = some (.cells #[vi0, vg0] 51)
  i : V.ownsRow base 3 1 vi xi.length xi
  g : V.ownsRow base 22 1 vg xg.length xg
  bel : Below base w V
  sz : w.heap.size ≤ V.heap.size
  oth : ∀ k, k < w.heap.size → k ≠ B → vi0.ownBlock ≠ some k → vg0.ownBlock ≠ some k → V.heap[k]? = w.heap[k]?
  ni : vi.ownBlock = vi0.ownBlock ∨ ∀ k, vi.ownBlock = some k → w.heap.size ≤ k
  ng : vg.ownBlock = vg0.ownBlock ∨ ∀ k, vg.ownBlock = some k → w.heap.size ≤ k
theorem TkS.start {w : World} {base B : Nat} {xi xg : List Value} {vi vg : Value} (h : ClR w base B xi xg vi vg) : TkS w w.drew base B vi vg vi vg xi xg :=
  ⟨h.box, owns_keep h.i (fun _ _ => rfl), owns_keep h.g (fun _ _ => rfl), (Below.refl _ _).drew, Nat.le_refl _, fun _ _ _ _ _ => rfl, .inl rfl, .inl rfl⟩
theorem TkS.alloc {w V : World} {base B : Nat} {vi0 vg0 vi vg : Value} {xi xg : List Value} (h : TkS w V base B vi0 vg0 vi vg xi xg) (hb : base ≤ w.heap.size) (o : Obj) : TkS w (V.alloc o) base B vi0 vg0 vi vg xi xg :=
  ⟨alloc_kept h.box _, World.ownsRow.alloc h.i _, World.ownsRow.alloc h.g _, h.bel.alloc (Nat.le_trans hb h.sz) _, by rw [alloc_size]; have := h.sz; omega, fun k hk h1 h2 h3 => (Below.heap_alloc V o k (Nat.lt_of_lt_of_le hk h.sz)).trans (h.oth k hk h1 h2 h3), h.ni, h.ng⟩
theorem TkS.appI {w V V' : World} {base B : Nat} {vi0 vg0 vi vg vi' : Value} {xi xg xi' : List Value} (h : TkS w V base B vi0 vg0 vi vg xi xg) (hb : base ≤ w.heap.size) (hg : Grw V V' vi.ownBlock vi'.ownBlock) (ho : V'.ownsRow base 3 1 vi' xi'.length xi') : TkS w V' base B vi0 vg0 vi' vg xi' xg := by
  have hk := grw_types h.i hg
  refine ⟨(hk B _ 51 (by decide) h.box).trans h.box, ho, owns_keepT h.g fun k cur => hk k cur _ (by decide), h.bel.trans (hg.below (fun k hk => (World.ownsRow.lt h.i k hk).1) (Nat.le_trans hb h.sz)), Nat.le_trans h.sz hg.by'.size, fun k hk h1 h2 h3 => ?_, ?_, h.ng⟩
  · refine (hg.by'.block k (Nat.lt_of_lt_of_le hk h.sz) fun e => ?_).trans (h.oth k hk h1 h2 h3)
    rcases h.ni with e1 | e1
    · exact h2 (e1 ▸ e.symm)
    · have := e1 k e.symm; omega
  · rcases hg.new with e | e
    · rcases h.ni with e1 | e1
      · exact .inl (e.trans e1)
      · exact .inr fun k hk => e1 k (e ▸ hk)
    · exact .inr fun k hk => Nat.le_trans h.sz (e k hk)
theorem TkS.appG {w V V' : World} {base B : Nat} {vi0 vg0 vi vg vg' : Value} {xi xg xg' : List Value} (h : TkS w V base B vi0 vg0 vi vg xi xg) (hb : base ≤ w.heap.size) (hg : Grw V V' vg.ownBlock vg'.ownBlock) (ho : V'.ownsRow base 22 1 vg' xg'.length xg') : TkS w V' base B vi0 vg0 vi vg' xi xg' := by
  have hk := grw_types h.g hg
  refine ⟨(hk B _ 51 (by decide) h.box).trans h.box, owns_keepT h.i fun k cur => hk k cur _ (by decide), ho, h.bel.trans (hg.below (fun k hk => (World.ownsRow.lt h.g k hk).1) (Nat.le_trans hb h.sz)), Nat.le_trans h.sz hg.by'.size, fun k hk h1 h2 h3 => ?_, h.ni, ?_⟩
  · refine (hg.by'.block k (Nat.lt_of_lt_of_le hk h.sz) fun e => ?_).trans (h.oth k hk h1 h2 h3)
    rcases h.ng with e1 | e1
    · exact h3 (e1 ▸ e.symm)
    · have := e1 k e.symm; omega
  · rcases hg.new with e | e
    · rcases h.ng with e1 | e1
      · exact .inl (e.trans e1)
      · exact .inr fun k hk => e1 k (e ▸ hk)
    · exact .inr fun k hk => Nat.le_trans h.sz (e k hk)
theorem news1 {V : World} {b : Nat} {y : Value} {E : TypeId} (h : V.heap[b]? = some (.cells #[y] E)) : ∀ j u, [y][j]? = some u → V.cell? ((⟨b, 0, none⟩ : Addr).add j) = some u := by
  intro j u hj
  match j, hj with
  | 0, hj =>
    simp only [List.getElem?_cons_zero, Option.some.injEq] at hj
    subst hj
    rw [Addr.add_lit, cell_of_row _ b _ _ _ _ h]
    rfl
/-- What take leaves. -/
structure TkE (w w' : World) (base B : Nat) (vi vg vi' vg' : Value) (xi xg : List Value) : Prop where
  cl : ClR w' base B xi xg vi' vg'
  bel : Below base w w'
  oth : ∀ k, k < w.heap.size → k ≠ B → vi.ownBlock ≠ some k → vg.ownBlock ≠ some k → w'.heap[k]? = w.heap[k]?
  ni : vi'.ownBlock = vi.ownBlock ∨ ∀ k, vi'.ownBlock = some k → w.heap.size ≤ k
  ng : vg'.ownBlock = vg.ownBlock ∨ ∀ k, vg'.ownBlock = some k → w.heap.size ≤ k
theorem TkS.fin {w V W : World} {base B : Nat} {vi0 vg0 vi vg : Value} {xi xg : List Value} (h : TkS w V base B vi0 vg0 vi vg xi xg) (hB : W.heap[B]? = some (.cells #[vi, vg] 51)) (hk : ∀ k, k ≠ B → W.heap[k]? = V.heap[k]?) (hb : Below base w W) : TkE w W base B vi0 vg0 vi vg xi xg :=
  ⟨⟨hB, owns_keepT h.i fun k cur hc => hk k (by rintro rfl; rw [h.box] at hc; cases hc), owns_keepT h.g fun k cur hc => hk k (by rintro rfl; rw [h.box] at hc; cases hc)⟩, hb, fun k h1 h2 h3 h4 => (hk k h2).trans (h.oth k h1 h2 h3 h4), h.ni, h.ng⟩
set_option maxRecDepth 100000 in
set_option maxHeartbeats 4000000 in
theorem take_any (base B : Nat) (xi xg : List Value) (vi vg : Value) (id : Int) (ga : Option Addr) (gn gc : Nat) (w : World) (h : ClR w base B xi xg vi vg) (hli : xi.length + 1 ≤ 4000000) (hlg : xg.length + 1 ≤ 4000000) (hbw : base ≤ w.heap.size) (hbB : base ≤ B) :
    Calls Tryz.prog 34 #[.pointer (some ⟨B, 0, none⟩), .int .i64 id, .slice ga gn gc] w fun e w' => e = .returned (.tuple #[]) ∧ ∃ vi' vg', TkE w w' base B vi vg vi' vg' (xi ++ [.int .i64 id]) (xg ++ [.slice ga gn gc]) := by
  go_enter Tryz.func34, Tryz.ntmps34
  go_upto_region 0 with fail
  have T0 := TkS.start h
  obtain ⟨V, hV⟩ : ∃ V, w.drew = V := ⟨_, rfl⟩
  refine wp_region_noPanic ?_
  refine wp_region_P (S := (fun V => V.heap[B]? = some (.cells #[vi, vg] 51))) (s := 18) (by kernel_rfl) ?_
  rw [hV] at T0 ⊢
  have TV := T0
  clear hV T0
  refine takeP0 6 (i := 0) (v := ?_) rfl rfl (by kernel_rfl) (by kernel_rfl) (by kernel_rfl) rfl (fun _ _ _ h => h) (Or.inl ⟨by kernel_rfl, ?_⟩) (fun _ => TV.box) ?_
  rotate_left
  · intro w' hSw; go_simp; try with_reducible rfl
  try simp only [Act.put, List.setIfInBounds_toArray, List.set_cons_zero, List.set_cons_succ]
  refine takeP0 7 (i := 1) (v := ?_) rfl rfl (by kernel_rfl) (by kernel_rfl) (by kernel_rfl) rfl (fun _ _ _ h => h) (Or.inl ⟨by kernel_rfl, ?_⟩) (fun _ => TV.box) ?_
  rotate_left
  · intro w' hSw; go_simp; try with_reducible rfl
  try simp only [Act.put, List.setIfInBounds_toArray, List.set_cons_zero, List.set_cons_succ]
  refine takeP0 8 (i := 2) (v := ?_) rfl rfl (by kernel_rfl) (by kernel_rfl) (by kernel_rfl) rfl (fun _ _ _ h => h) (Or.inl ⟨by kernel_rfl, ?_⟩) (fun _ => TV.box) ?_
  rotate_left
  · intro w' hSw; go_simp; try with_reducible rfl
  try simp only [Act.put, List.setIfInBounds_toArray, List.set_cons_zero, List.set_cons_succ]
  refine takeP0 9 (i := 3) (v := ?_) rfl rfl (by kernel_rfl) (by kernel_rfl) (by kernel_rfl) rfl (fun _ _ _ h => h) (Or.inl ⟨by kernel_rfl, ?_⟩) (fun _ => TV.box) ?_
  rotate_left
  · intro w' hSw; go_simp; try with_reducible rfl
  try simp only [Act.put, List.setIfInBounds_toArray, List.set_cons_zero, List.set_cons_succ]
  refine takeP0 10 (i := 4) (v := ?_) rfl rfl (by kernel_rfl) (by kernel_rfl) (by kernel_rfl) rfl (fun _ _ _ h => h) (Or.inl ⟨by kernel_rfl, ?_⟩) (fun _ => TV.box) ?_
  rotate_left
  · intro w' hSw; go_simp; try with_reducible rfl
  try simp only [Act.put, List.setIfInBounds_toArray, List.set_cons_zero, List.set_cons_succ]
  refine takeP 11 (i := 5) (v := ?_) rfl rfl (by kernel_rfl) (by kernel_rfl) (by kernel_rfl) (by kernel_rfl) rfl (by kernel_rfl) (fun _ _ _ h => h) (Or.inl ⟨by kernel_rfl, ?_⟩) TV.box ?_
  rotate_left
  · intro w' hSw; have s0 := cellAtJ hSw 0 _ rfl; have s1 := cellAtJ hSw 1 _ rfl; go_simp; try with_reducible rfl
  try simp only [Act.put, List.setIfInBounds_toArray, List.set_cons_zero, List.set_cons_succ]
  refine takeP0 12 (i := 6) (v := ?_) rfl rfl (by kernel_rfl) (by kernel_rfl) (by kernel_rfl) rfl (fun _ _ _ h => h) (Or.inl ⟨by kernel_rfl, ?_⟩) (fun _ => TV.box) ?_
  rotate_left
  · intro w' hSw; go_simp; try with_reducible rfl
  try simp only [Act.put, List.setIfInBounds_toArray, List.set_cons_zero, List.set_cons_succ]
  refine takeP0 15 (i := 9) (v := ?_) rfl rfl (by kernel_rfl) (by kernel_rfl) (by kernel_rfl) rfl (fun _ _ _ h => h) (Or.inl ⟨by kernel_rfl, ?_⟩) (fun _ => TV.box) ?_
  rotate_left
  · intro w' hSw; go_simp; try with_reducible rfl
  try simp only [Act.put, List.setIfInBounds_toArray, List.set_cons_zero, List.set_cons_succ]
  refine takeP0 16 (i := 10) (v := ?_) rfl rfl (by kernel_rfl) (by kernel_rfl) (by kernel_rfl) rfl (fun _ _ _ h => h) (Or.inl ⟨by kernel_rfl, ?_⟩) (fun _ => TV.box) ?_
  rotate_left
  · intro w' hSw; go_simp; try with_reducible rfl
  try simp only [Act.put, List.setIfInBounds_toArray, List.set_cons_zero, List.set_cons_succ]
  refine takeP0 17 (i := 11) (v := ?_) rfl rfl (by kernel_rfl) (by kernel_rfl) (by kernel_rfl) rfl (fun _ _ _ h => h) (Or.inl ⟨by kernel_rfl, ?_⟩) (fun _ => TV.box) ?_
  rotate_left
  · intro w' hSw; go_simp; try with_reducible rfl
  try simp only [Act.put, List.setIfInBounds_toArray, List.set_cons_zero, List.set_cons_succ]
  refine takeP 18 (i := 12) (v := ?_) rfl rfl (by kernel_rfl) (by kernel_rfl) (by kernel_rfl) (by kernel_rfl) rfl (by kernel_rfl) (fun _ _ _ h => h) (Or.inl ⟨by kernel_rfl, ?_⟩) TV.box ?_
  rotate_left
  · intro w' hSw; have s0 := cellAtJ hSw 0 _ rfl; have s1 := cellAtJ hSw 1 _ rfl; go_simp; try with_reducible rfl
  try simp only [Act.put, List.setIfInBounds_toArray, List.set_cons_zero, List.set_cons_succ]
  refine takeP0 19 (i := 13) (v := ?_) rfl rfl (by kernel_rfl) (by kernel_rfl) (by kernel_rfl) rfl (fun _ _ _ h => h) (Or.inl ⟨by kernel_rfl, ?_⟩) (fun _ => TV.box) ?_
  rotate_left
  · intro w' hSw; go_simp; try with_reducible rfl
  try simp only [Act.put, List.setIfInBounds_toArray, List.set_cons_zero, List.set_cons_succ]
  refine wpAnyP_ready (rs := [7, 14]) (by kernel_rfl) (by simp) ?_
  refine consP _ rfl ?_ (consP _ rfl ?_ AllReadyP.nil)
  · refine hopV 13 (v := .slice (some ⟨V.heap.size, 0, none⟩) 1 1) (w' := V.alloc (.cells #[.int .i64 id] 3)) rfl rfl rfl (by kernel_rfl) ?_
    have TV1 := TV.alloc hbw (.cells #[.int .i64 id] 3)
    have hXV1 := heap_alloc_new V (.cells #[.int .i64 id] 3)
    obtain ⟨V1, eV1⟩ : ∃ X, V.alloc (.cells #[.int .i64 id] 3) = X := ⟨_, rfl⟩
    obtain ⟨bI, ebI⟩ : ∃ X, V.heap.size = X := ⟨_, rfl⟩
    rw [eV1] at TV1 hXV1 ⊢
    rw [ebI] at hXV1 ⊢
    clear eV1 ebI TV
    refine ⟨TV1.box, ?_⟩
    try simp only [Act.put, List.setIfInBounds_toArray, List.set_cons_zero, List.set_cons_succ]
    refine wpAnyP_ready (rs := [8, 14]) (by kernel_rfl) (by simp) ?_
    refine consP _ rfl ?_ (consP _ rfl ?_ AllReadyP.nil)
    · refine hopL rfl (append_grM Tryz.underlying23 Tryz.infoIJ rfl (by decide) V1 (by rfl) _ _ (by rfl) base vi _ (by kernel_rfl) TV1.i ⟨bI, 0, none⟩ 1 1 [.int .i64 id] (by kernel_rfl) rfl (by decide) (news1 hXV1) (by intro u hu; simp at hu; subst hu; rfl) hli (Nat.le_trans hbw TV1.sz) fun v8 V2 o8 g8 => ?_)
      change QK _ _ Exit.normal (Act.put _ (some 14) v8) V2
      have TV2 := TV1.appI hbw g8 o8
      clear o8 g8 TV1 hXV1
      refine (And.intro TV2.box ?_ : _ ∧ _)
      try simp only [Act.put, List.setIfInBounds_toArray, List.set_cons_zero, List.set_cons_succ]
      refine wpAnyP_ready (rs := [14]) (by kernel_rfl) (by simp) ?_
      refine consP _ rfl ?_ AllReadyP.nil
      refine hopV 20 (v := .slice (some ⟨V2.heap.size, 0, none⟩) 1 1) (w' := V2.alloc (.cells #[.slice ga gn gc] 22)) rfl rfl rfl (by kernel_rfl) ?_
      have TV3 := TV2.alloc hbw (.cells #[.slice ga gn gc] 22)
      have hYV3 := heap_alloc_new V2 (.cells #[.slice ga gn gc] 22)
      obtain ⟨V3, eV3⟩ : ∃ X, V2.alloc (.cells #[.slice ga gn gc] 22) = X := ⟨_, rfl⟩
      obtain ⟨bG, ebG⟩ : ∃ X, V2.heap.size = X := ⟨_, rfl⟩
      rw [eV3] at TV3 hYV3 ⊢
      rw [ebG] at hYV3 ⊢
      clear eV3 ebG TV2
      refine ⟨TV3.box, ?_⟩
      try simp only [Act.put, List.setIfInBounds_toArray, List.set_cons_zero, List.set_cons_succ]
      refine wpAnyP_ready (rs := [15]) (by kernel_rfl) (by simp) ?_
      refine consP _ rfl ?_ AllReadyP.nil
      refine hopL rfl (append_grM Tryz.underlying24 Tryz.infoFsJ rfl (by decide) V3 (by rfl) _ _ (by rfl) base vg _ (by kernel_rfl) TV3.g ⟨bG, 0, none⟩ 1 1 [.slice ga gn gc] (by kernel_rfl) rfl (by decide) (news1 hYV3) (by intro u hu; simp at hu; subst hu; rfl) hlg (Nat.le_trans hbw TV3.sz) fun v9 V4 o9 g9 => ?_)
      change QK _ _ Exit.normal (Act.put _ (some 21) v9) V4
      have TV4 := TV3.appG hbw g9 o9
      clear o9 g9 TV3 hYV3
      refine (And.intro TV4.box ?_ : _ ∧ _)
      try simp only [Act.put, List.setIfInBounds_toArray, List.set_cons_zero, List.set_cons_succ]
      refine takeP0 22 (i := 16) (v := ?_) rfl rfl (by kernel_rfl) (by kernel_rfl) (by kernel_rfl) rfl (fun _ _ _ h => h) (Or.inl ⟨by kernel_rfl, ?_⟩) (fun _ => TV4.box) ?_
      rotate_left
      · intro w' hSw; go_simp; try with_reducible rfl
      try simp only [Act.put, List.setIfInBounds_toArray, List.set_cons_zero, List.set_cons_succ]
      refine takeP0 23 (i := 17) (v := ?_) rfl rfl (by kernel_rfl) (by kernel_rfl) (by kernel_rfl) rfl (fun _ _ _ h => h) (Or.inl ⟨by kernel_rfl, ?_⟩) (fun _ => TV4.box) ?_
      rotate_left
      · intro w' hSw; go_simp; try with_reducible rfl
      try simp only [Act.put, List.setIfInBounds_toArray, List.set_cons_zero, List.set_cons_succ]
      refine wpAnyP_ready (rs := [18]) (by kernel_rfl) (by simp) ?_
      refine consPs _ rfl (by kernel_rfl) (hopL rfl (wpList_store_at (by rfl) 23 _ _ (by rfl) w base B 0 v8 _ #[v8, vg] 51 (by kernel_rfl) (by kernel_rfl) TV4.box TV4.bel hbB 1 Tryz.szIs (by rw [(own_valJ TV4.i).2]; rfl) (Nat.le_of_ble_eq_true rfl) (by intro u hu; rw [(own_valJ TV4.i).2] at hu; simp only [List.mem_cons, List.not_mem_nil, or_false] at hu; subst hu; exact (own_valJ TV4.i).1) (by rw [(own_valJ TV4.i).2]; rfl) fun W7 e7 b7 s7 k7 => ?_)) AllReadyP.nil
      refine (And.intro trivial ?_ : _ ∧ _)
      try simp only [Act.put, List.setIfInBounds_toArray, List.set_cons_zero, List.set_cons_succ]
      refine takeP0 24 (i := 19) (v := ?_) rfl rfl (by kernel_rfl) (by kernel_rfl) (by kernel_rfl) rfl (fun _ _ _ h => h) (Or.inl ⟨by kernel_rfl, ?_⟩) (fun e => by cases e) ?_
      rotate_left
      · intro w' hSw; go_simp; try with_reducible rfl
      try simp only [Act.put, List.setIfInBounds_toArray, List.set_cons_zero, List.set_cons_succ]
      refine takeP0 25 (i := 20) (v := ?_) rfl rfl (by kernel_rfl) (by kernel_rfl) (by kernel_rfl) rfl (fun _ _ _ h => h) (Or.inl ⟨by kernel_rfl, ?_⟩) (fun e => by cases e) ?_
      rotate_left
      · intro w' hSw; go_simp; try with_reducible rfl
      try simp only [Act.put, List.setIfInBounds_toArray, List.set_cons_zero, List.set_cons_succ]
      refine wpAnyP_ready (rs := [21]) (by kernel_rfl) (by simp) ?_
      refine consPs _ rfl (by kernel_rfl) (hopL rfl (wpList_store_at (by rfl) 24 _ _ (by rfl) w base B 1 v9 _ #[v8, v9] 51 (by kernel_rfl) (by kernel_rfl) e7 b7 hbB 1 Tryz.szFss (by rw [(own_valJ TV4.g).2]; rfl) (Nat.le_of_ble_eq_true rfl) (by intro u hu; rw [(own_valJ TV4.g).2] at hu; simp only [List.mem_cons, List.not_mem_nil, or_false] at hu; subst hu; exact (own_valJ TV4.g).1) (by rw [(own_valJ TV4.g).2]; rfl) fun W8 e8 b8 s8 k8 => ?_)) AllReadyP.nil
      refine (And.intro trivial ?_ : _ ∧ _)
      try simp only [Act.put, List.setIfInBounds_toArray, List.set_cons_zero, List.set_cons_succ]
      refine wpAnyP_done (by kernel_rfl) ?_ _
      refine NoPanic.normal ?_
      try simp only [Act.put, List.setIfInBounds_toArray, List.set_cons_zero, List.set_cons_succ]
      have HE := TkS.fin TV4 e8 (fun k hk => (k8 k hk).trans (k7 k hk)) b8
      clear TV4 e7 b7 s7 k7 e8 b8 s8 k8
      go_wp2_with fail
      go_end0
      exact ⟨rfl, _, _, HE⟩
    · refine hopV 20 (v := .slice (some ⟨V1.heap.size, 0, none⟩) 1 1) (w' := V1.alloc (.cells #[.slice ga gn gc] 22)) rfl rfl rfl (by kernel_rfl) ?_
      have TV5 := TV1.alloc hbw (.cells #[.slice ga gn gc] 22)
      have hYV5 := heap_alloc_new V1 (.cells #[.slice ga gn gc] 22)
      have hXV5 := alloc_kept hXV1 (.cells #[.slice ga gn gc] 22)
      obtain ⟨V5, eV5⟩ : ∃ X, V1.alloc (.cells #[.slice ga gn gc] 22) = X := ⟨_, rfl⟩
      obtain ⟨bG, ebG⟩ : ∃ X, V1.heap.size = X := ⟨_, rfl⟩
      rw [eV5] at TV5 hYV5 hXV5 ⊢
      rw [ebG] at hYV5 ⊢
      clear eV5 ebG TV1 hXV1
      refine ⟨TV5.box, ?_⟩
      try simp only [Act.put, List.setIfInBounds_toArray, List.set_cons_zero, List.set_cons_succ]
      refine wpAnyP_ready (rs := [8]) (by kernel_rfl) (by simp) ?_
      refine consP _ rfl ?_ AllReadyP.nil
      refine hopL rfl (append_grM Tryz.underlying23 Tryz.infoIJ rfl (by decide) V5 (by rfl) _ _ (by rfl) base vi _ (by kernel_rfl) TV5.i ⟨bI, 0, none⟩ 1 1 [.int .i64 id] (by kernel_rfl) rfl (by decide) (news1 hXV5) (by intro u hu; simp at hu; subst hu; rfl) hli (Nat.le_trans hbw TV5.sz) fun v8 V6 o8 g8 => ?_)
      change QK _ _ Exit.normal (Act.put _ (some 14) v8) V6
      have TV6 := TV5.appI hbw g8 o8
      have hYV6 := (grw_types TV5.i g8 bG _ _ (by decide) hYV5).trans hYV5
      clear o8 g8 TV5 hXV5 hYV5
      refine (And.intro TV6.box ?_ : _ ∧ _)
      try simp only [Act.put, List.setIfInBounds_toArray, List.set_cons_zero, List.set_cons_succ]
      refine wpAnyP_ready (rs := [15]) (by kernel_rfl) (by simp) ?_
      refine consP _ rfl ?_ AllReadyP.nil
      refine hopL rfl (append_grM Tryz.underlying24 Tryz.infoFsJ rfl (by decide) V6 (by rfl) _ _ (by rfl) base vg _ (by kernel_rfl) TV6.g ⟨bG, 0, none⟩ 1 1 [.slice ga gn gc] (by kernel_rfl) rfl (by decide) (news1 hYV6) (by intro u hu; simp at hu; subst hu; rfl) hlg (Nat.le_trans hbw TV6.sz) fun v9 V7 o9 g9 => ?_)
      change QK _ _ Exit.normal (Act.put _ (some 21) v9) V7
      have TV7 := TV6.appG hbw g9 o9
      clear o9 g9 TV6 hYV6
      refine (And.intro TV7.box ?_ : _ ∧ _)
      try simp only [Act.put, List.setIfInBounds_toArray, List.set_cons_zero, List.set_cons_succ]
      refine takeP0 22 (i := 16) (v := ?_) rfl rfl (by kernel_rfl) (by kernel_rfl) (by kernel_rfl) rfl (fun _ _ _ h => h) (Or.inl ⟨by kernel_rfl, ?_⟩) (fun _ => TV7.box) ?_
      rotate_left
      · intro w' hSw; go_simp; try with_reducible rfl
      try simp only [Act.put, List.setIfInBounds_toArray, List.set_cons_zero, List.set_cons_succ]
      refine takeP0 23 (i := 17) (v := ?_) rfl rfl (by kernel_rfl) (by kernel_rfl) (by kernel_rfl) rfl (fun _ _ _ h => h) (Or.inl ⟨by kernel_rfl, ?_⟩) (fun _ => TV7.box) ?_
      rotate_left
      · intro w' hSw; go_simp; try with_reducible rfl
      try simp only [Act.put, List.setIfInBounds_toArray, List.set_cons_zero, List.set_cons_succ]
      refine wpAnyP_ready (rs := [18]) (by kernel_rfl) (by simp) ?_
      refine consPs _ rfl (by kernel_rfl) (hopL rfl (wpList_store_at (by rfl) 23 _ _ (by rfl) w base B 0 v8 _ #[v8, vg] 51 (by kernel_rfl) (by kernel_rfl) TV7.box TV7.bel hbB 1 Tryz.szIs (by rw [(own_valJ TV7.i).2]; rfl) (Nat.le_of_ble_eq_true rfl) (by intro u hu; rw [(own_valJ TV7.i).2] at hu; simp only [List.mem_cons, List.not_mem_nil, or_false] at hu; subst hu; exact (own_valJ TV7.i).1) (by rw [(own_valJ TV7.i).2]; rfl) fun W7 e7 b7 s7 k7 => ?_)) AllReadyP.nil
      refine (And.intro trivial ?_ : _ ∧ _)
      try simp only [Act.put, List.setIfInBounds_toArray, List.set_cons_zero, List.set_cons_succ]
      refine takeP0 24 (i := 19) (v := ?_) rfl rfl (by kernel_rfl) (by kernel_rfl) (by kernel_rfl) rfl (fun _ _ _ h => h) (Or.inl ⟨by kernel_rfl, ?_⟩) (fun e => by cases e) ?_
      rotate_left
      · intro w' hSw; go_simp; try with_reducible rfl
      try simp only [Act.put, List.setIfInBounds_toArray, List.set_cons_zero, List.set_cons_succ]
      refine takeP0 25 (i := 20) (v := ?_) rfl rfl (by kernel_rfl) (by kernel_rfl) (by kernel_rfl) rfl (fun _ _ _ h => h) (Or.inl ⟨by kernel_rfl, ?_⟩) (fun e => by cases e) ?_
      rotate_left
      · intro w' hSw; go_simp; try with_reducible rfl
      try simp only [Act.put, List.setIfInBounds_toArray, List.set_cons_zero, List.set_cons_succ]
      refine wpAnyP_ready (rs := [21]) (by kernel_rfl) (by simp) ?_
      refine consPs _ rfl (by kernel_rfl) (hopL rfl (wpList_store_at (by rfl) 24 _ _ (by rfl) w base B 1 v9 _ #[v8, v9] 51 (by kernel_rfl) (by kernel_rfl) e7 b7 hbB 1 Tryz.szFss (by rw [(own_valJ TV7.g).2]; rfl) (Nat.le_of_ble_eq_true rfl) (by intro u hu; rw [(own_valJ TV7.g).2] at hu; simp only [List.mem_cons, List.not_mem_nil, or_false] at hu; subst hu; exact (own_valJ TV7.g).1) (by rw [(own_valJ TV7.g).2]; rfl) fun W8 e8 b8 s8 k8 => ?_)) AllReadyP.nil
      refine (And.intro trivial ?_ : _ ∧ _)
      try simp only [Act.put, List.setIfInBounds_toArray, List.set_cons_zero, List.set_cons_succ]
      refine wpAnyP_done (by kernel_rfl) ?_ _
      refine NoPanic.normal ?_
      try simp only [Act.put, List.setIfInBounds_toArray, List.set_cons_zero, List.set_cons_succ]
      have HE := TkS.fin TV7 e8 (fun k hk => (k8 k hk).trans (k7 k hk)) b8
      clear TV7 e7 b7 s7 k7 e8 b8 s8 k8
      go_wp2_with fail
      go_end0
      exact ⟨rfl, _, _, HE⟩
  · refine hopV 20 (v := .slice (some ⟨V.heap.size, 0, none⟩) 1 1) (w' := V.alloc (.cells #[.slice ga gn gc] 22)) rfl rfl rfl (by kernel_rfl) ?_
    have TV8 := TV.alloc hbw (.cells #[.slice ga gn gc] 22)
    have hYV8 := heap_alloc_new V (.cells #[.slice ga gn gc] 22)
    obtain ⟨V8, eV8⟩ : ∃ X, V.alloc (.cells #[.slice ga gn gc] 22) = X := ⟨_, rfl⟩
    obtain ⟨bG, ebG⟩ : ∃ X, V.heap.size = X := ⟨_, rfl⟩
    rw [eV8] at TV8 hYV8 ⊢
    rw [ebG] at hYV8 ⊢
    clear eV8 ebG TV
    refine ⟨TV8.box, ?_⟩
    try simp only [Act.put, List.setIfInBounds_toArray, List.set_cons_zero, List.set_cons_succ]
    refine wpAnyP_ready (rs := [7]) (by kernel_rfl) (by simp) ?_
    refine consP _ rfl ?_ AllReadyP.nil
    refine hopV 13 (v := .slice (some ⟨V8.heap.size, 0, none⟩) 1 1) (w' := V8.alloc (.cells #[.int .i64 id] 3)) rfl rfl rfl (by kernel_rfl) ?_
    have TV9 := TV8.alloc hbw (.cells #[.int .i64 id] 3)
    have hXV9 := heap_alloc_new V8 (.cells #[.int .i64 id] 3)
    have hYV9 := alloc_kept hYV8 (.cells #[.int .i64 id] 3)
    obtain ⟨V9, eV9⟩ : ∃ X, V8.alloc (.cells #[.int .i64 id] 3) = X := ⟨_, rfl⟩
    obtain ⟨bI, ebI⟩ : ∃ X, V8.heap.size = X := ⟨_, rfl⟩
    rw [eV9] at TV9 hXV9 hYV9 ⊢
    rw [ebI] at hXV9 ⊢
    clear eV9 ebI TV8 hYV8
    refine ⟨TV9.box, ?_⟩
    try simp only [Act.put, List.setIfInBounds_toArray, List.set_cons_zero, List.set_cons_succ]
    refine wpAnyP_ready (rs := [8]) (by kernel_rfl) (by simp) ?_
    refine consP _ rfl ?_ AllReadyP.nil
    refine hopL rfl (append_grM Tryz.underlying23 Tryz.infoIJ rfl (by decide) V9 (by rfl) _ _ (by rfl) base vi _ (by kernel_rfl) TV9.i ⟨bI, 0, none⟩ 1 1 [.int .i64 id] (by kernel_rfl) rfl (by decide) (news1 hXV9) (by intro u hu; simp at hu; subst hu; rfl) hli (Nat.le_trans hbw TV9.sz) fun v8 V10 o8 g8 => ?_)
    change QK _ _ Exit.normal (Act.put _ (some 14) v8) V10
    have TV10 := TV9.appI hbw g8 o8
    have hYV10 := (grw_types TV9.i g8 bG _ _ (by decide) hYV9).trans hYV9
    clear o8 g8 TV9 hXV9 hYV9
    refine (And.intro TV10.box ?_ : _ ∧ _)
    try simp only [Act.put, List.setIfInBounds_toArray, List.set_cons_zero, List.set_cons_succ]
    refine wpAnyP_ready (rs := [15]) (by kernel_rfl) (by simp) ?_
    refine consP _ rfl ?_ AllReadyP.nil
    refine hopL rfl (append_grM Tryz.underlying24 Tryz.infoFsJ rfl (by decide) V10 (by rfl) _ _ (by rfl) base vg _ (by kernel_rfl) TV10.g ⟨bG, 0, none⟩ 1 1 [.slice ga gn gc] (by kernel_rfl) rfl (by decide) (news1 hYV10) (by intro u hu; simp at hu; subst hu; rfl) hlg (Nat.le_trans hbw TV10.sz) fun v9 V11 o9 g9 => ?_)
    change QK _ _ Exit.normal (Act.put _ (some 21) v9) V11
    have TV11 := TV10.appG hbw g9 o9
    clear o9 g9 TV10 hYV10
    refine (And.intro TV11.box ?_ : _ ∧ _)
    try simp only [Act.put, List.setIfInBounds_toArray, List.set_cons_zero, List.set_cons_succ]
    refine takeP0 22 (i := 16) (v := ?_) rfl rfl (by kernel_rfl) (by kernel_rfl) (by kernel_rfl) rfl (fun _ _ _ h => h) (Or.inl ⟨by kernel_rfl, ?_⟩) (fun _ => TV11.box) ?_
    rotate_left
    · intro w' hSw; go_simp; try with_reducible rfl
    try simp only [Act.put, List.setIfInBounds_toArray, List.set_cons_zero, List.set_cons_succ]
    refine takeP0 23 (i := 17) (v := ?_) rfl rfl (by kernel_rfl) (by kernel_rfl) (by kernel_rfl) rfl (fun _ _ _ h => h) (Or.inl ⟨by kernel_rfl, ?_⟩) (fun _ => TV11.box) ?_
    rotate_left
    · intro w' hSw; go_simp; try with_reducible rfl
    try simp only [Act.put, List.setIfInBounds_toArray, List.set_cons_zero, List.set_cons_succ]
    refine wpAnyP_ready (rs := [18]) (by kernel_rfl) (by simp) ?_
    refine consPs _ rfl (by kernel_rfl) (hopL rfl (wpList_store_at (by rfl) 23 _ _ (by rfl) w base B 0 v8 _ #[v8, vg] 51 (by kernel_rfl) (by kernel_rfl) TV11.box TV11.bel hbB 1 Tryz.szIs (by rw [(own_valJ TV11.i).2]; rfl) (Nat.le_of_ble_eq_true rfl) (by intro u hu; rw [(own_valJ TV11.i).2] at hu; simp only [List.mem_cons, List.not_mem_nil, or_false] at hu; subst hu; exact (own_valJ TV11.i).1) (by rw [(own_valJ TV11.i).2]; rfl) fun W7 e7 b7 s7 k7 => ?_)) AllReadyP.nil
    refine (And.intro trivial ?_ : _ ∧ _)
    try simp only [Act.put, List.setIfInBounds_toArray, List.set_cons_zero, List.set_cons_succ]
    refine takeP0 24 (i := 19) (v := ?_) rfl rfl (by kernel_rfl) (by kernel_rfl) (by kernel_rfl) rfl (fun _ _ _ h => h) (Or.inl ⟨by kernel_rfl, ?_⟩) (fun e => by cases e) ?_
    rotate_left
    · intro w' hSw; go_simp; try with_reducible rfl
    try simp only [Act.put, List.setIfInBounds_toArray, List.set_cons_zero, List.set_cons_succ]
    refine takeP0 25 (i := 20) (v := ?_) rfl rfl (by kernel_rfl) (by kernel_rfl) (by kernel_rfl) rfl (fun _ _ _ h => h) (Or.inl ⟨by kernel_rfl, ?_⟩) (fun e => by cases e) ?_
    rotate_left
    · intro w' hSw; go_simp; try with_reducible rfl
    try simp only [Act.put, List.setIfInBounds_toArray, List.set_cons_zero, List.set_cons_succ]
    refine wpAnyP_ready (rs := [21]) (by kernel_rfl) (by simp) ?_
    refine consPs _ rfl (by kernel_rfl) (hopL rfl (wpList_store_at (by rfl) 24 _ _ (by rfl) w base B 1 v9 _ #[v8, v9] 51 (by kernel_rfl) (by kernel_rfl) e7 b7 hbB 1 Tryz.szFss (by rw [(own_valJ TV11.g).2]; rfl) (Nat.le_of_ble_eq_true rfl) (by intro u hu; rw [(own_valJ TV11.g).2] at hu; simp only [List.mem_cons, List.not_mem_nil, or_false] at hu; subst hu; exact (own_valJ TV11.g).1) (by rw [(own_valJ TV11.g).2]; rfl) fun W8 e8 b8 s8 k8 => ?_)) AllReadyP.nil
    refine (And.intro trivial ?_ : _ ∧ _)
    try simp only [Act.put, List.setIfInBounds_toArray, List.set_cons_zero, List.set_cons_succ]
    refine wpAnyP_done (by kernel_rfl) ?_ _
    refine NoPanic.normal ?_
    try simp only [Act.put, List.setIfInBounds_toArray, List.set_cons_zero, List.set_cons_succ]
    have HE := TkS.fin TV11 e8 (fun k hk => (k8 k hk).trans (k7 k hk)) b8
    clear TV11 e7 b7 s7 k7 e8 b8 s8 k8
    go_wp2_with fail
    go_end0
    exact ⟨rfl, _, _, HE⟩
end Go.Proofs.YtogdfdhdmfkmaaaGreat

namespace Go.Proofs.YtogdfdhdmfkmaaaGreat
open Go.RowKit Go.Shelf
set_option linter.unusedVariables false
set_option linter.unusedSimpArgs false

theorem Tryz.infoBT : (Tryz.prog.info? 4).map (fun i => (i.zero, i.size, i.bytes)) = some (some (.bool false), 1, 1) := by kernel_rfl
def blN (n : Nat) (f : Nat → Bool) : Array Value := ((List.range n).map fun j => Value.bool (f j)).toArray
theorem blN_size (n : Nat) (f : Nat → Bool) : (blN n f).size = n := by unfold blN; simp
theorem blN_at (n : Nat) (f : Nat → Bool) (j : Nat) (h : j < n) : (blN n f)[j]? = some (.bool (f j)) := by unfold blN; simp [h]
theorem makeBT (n : Nat) (hn : n ≤ 4000000) (w : World) :
    (Instr.makeSlice 67 (.int .i64 (n : Int)) (.int .i64 (n : Int))).run Tryz.prog w = .ok (.slice (some ⟨w.heap.size, 0, none⟩) n n) (w.alloc (.cells (blN n fun _ => false) 4)) := by
  obtain ⟨i0, hi, hz0, hz1, hz2⟩ := info3J Tryz.infoBT
  have h := run_makeSlice (P := Tryz.prog) w 67 4 i0 (.bool false) Tryz.underlying67 hi hz0 .i64 .i64 (n : Int) (n : Int) (by omega) (by omega) (by rw [hz1, Int.toNat_natCast]; omega) (by rw [hz2]; omega) (by omega)
  rw [Int.toNat_natCast, hz1, Nat.mul_one] at h
  have e : madeCells #[.bool false] n = blN n fun _ => false := by
    apply Array.ext_getElem?
    intro j
    by_cases hj : j < n
    · rw [blN_at n _ j hj]; unfold madeCells; simp [hj, Nat.mod_one]
    · rw [Array.getElem?_eq_none (by unfold madeCells; simp; omega), Array.getElem?_eq_none (by rw [blN_size]; omega)]
  rw [← e]
  exact h
theorem blN_set (n : Nat) (f g : Nat → Bool) (x : Nat) (hx : x < n) (hg : ∀ j, j < n → g j = if j = x then true else f j) : ((blN n f).toList.take x ++ (Value.bool true).cells.toList ++ (blN n f).toList.drop (x + 1)).toArray = blN n g := by
  obtain ⟨d, h1, h2, h3, h4⟩ := setP_cells (c := blN n f) (k := x) (v := .bool true) (by rw [blN_size]; exact hx) rfl
  rw [h1]
  apply Array.ext_getElem?
  intro j
  by_cases hj : j < n
  · rw [blN_at n g j hj, hg j hj]
    by_cases e : j = x
    · subst e; rw [if_pos rfl, h3]
    · rw [if_neg e, h4 j e, blN_at n f j hj]
  · rw [Array.getElem?_eq_none (by rw [h2, blN_size]; omega), Array.getElem?_eq_none (by rw [blN_size]; omega)]
theorem Tryz.szB1 : (Tryz.prog.info? 4).map (·.size) = some 1 := by kernel_rfl
theorem one_bo (x : Bool) : ∀ u ∈ (Value.bool x).cells.toList, u.oneCell' = true := by
  intro u hu
  have : u = .bool x := by simpa [Value.cells] using hu
  rw [this]; rfl
/-- The first k places that f takes. -/
def pickL (f : Nat → Bool) (k : Nat) : List Nat := (List.range k).filter f
theorem pickL_yes {f : Nat → Bool} {k : Nat} (h : f k = true) : pickL f (k + 1) = pickL f k ++ [k] := by unfold pickL; rw [List.range_succ, List.filter_append]; simp [h]
theorem pickL_no {f : Nat → Bool} {k : Nat} (h : f k = false) : pickL f (k + 1) = pickL f k := by unfold pickL; rw [List.range_succ, List.filter_append]; simp [h]
theorem pickL_len (f : Nat → Bool) (k : Nat) : (pickL f k).length ≤ k := by unfold pickL; have := List.length_filter_le f (List.range k); simpa using this
theorem pickL_mem {f : Nat → Bool} {k j : Nat} : j ∈ pickL f k ↔ j < k ∧ f j = true := by unfold pickL; simp
def xiL (ids : List Int) (l : List Nat) : List Value := l.map fun j => .int .i64 (ids[j]?.getD 0)
def xgL (gv : Nat → Option Addr × Nat × Nat) (l : List Nat) : List Value := l.map fun j => .slice (gv j).1 (gv j).2.1 (gv j).2.2
theorem xiL_snoc (ids : List Int) (l : List Nat) (k : Nat) : xiL ids (l ++ [k]) = xiL ids l ++ [.int .i64 (ids[k]?.getD 0)] := by unfold xiL; rw [List.map_append]; rfl
theorem xgL_snoc (gv : Nat → Option Addr × Nat × Nat) (l : List Nat) (k : Nat) : xgL gv (l ++ [k]) = xgL gv l ++ [.slice (gv k).1 (gv k).2.1 (gv k).2.2] := by unfold xgL; rw [List.map_append]; rfl
/-- What parted has made so far. -/
structure PtB (w W : World) (row : Array Value) (b n : Nat) (f : Nat → Bool) (xi xg xj xh : List Value) (vi vg vj vh : Value) : Prop where
  zb : W.heap[w.heap.size]? = some (.cells row 26)
  bl : W.heap[b]? = some (.cells (blN n f) 4)
  go : ClR W w.heap.size (w.heap.size + 1) xi xg vi vg
  ke : ClR W w.heap.size (w.heap.size + 1 + 1) xj xh vj vh
  di : ∀ k, vi.ownBlock = some k → vj.ownBlock ≠ some k
  dg : ∀ k, vg.ownBlock = some k → vh.ownBlock ≠ some k
  bel : Below w.heap.size w W
theorem ClR.later {w w' : World} {base B : Nat} {xi xg : List Value} {vi vg : Value} (h : ClR w base B xi xg vi vg) (hb : Below w.heap.size w w') : ClR w' base B xi xg vi vg :=
  ⟨kept hb h.box, owns_keep h.i fun k hk => hb.block k (World.ownsRow.lt h.i k hk).2, owns_keep h.g fun k hk => hb.block k (World.ownsRow.lt h.g k hk).2⟩
theorem ClR.keepT {w w' : World} {base B : Nat} {xi xg : List Value} {vi vg : Value} (h : ClR w base B xi xg vi vg) (hk : ∀ (k : Nat) (cur : Array Value) (t : TypeId), t = 51 ∨ t = 3 ∨ t = 22 → w.heap[k]? = some (.cells cur t) → w'.heap[k]? = w.heap[k]?) : ClR w' base B xi xg vi vg :=
  ⟨(hk B _ _ (.inl rfl) h.box).trans h.box, owns_keepT h.i fun k cur => hk k cur _ (.inr (.inl rfl)), owns_keepT h.g fun k cur => hk k cur _ (.inr (.inr rfl))⟩
theorem PtB.later {w W W' : World} {row : Array Value} {b n : Nat} {f : Nat → Bool} {xi xg xj xh : List Value} {vi vg vj vh : Value} (h : PtB w W row b n f xi xg xj xh vi vg vj vh) (hb : Below W.heap.size W W') : PtB w W' row b n f xi xg xj xh vi vg vj vh :=
  ⟨kept hb h.zb, kept hb h.bl, h.go.later hb, h.ke.later hb, h.di, h.dg, to_call h.bel hb⟩
theorem PtB.setB {w W W' : World} {row : Array Value} {b n : Nat} {f g : Nat → Bool} {xi xg xj xh : List Value} {vi vg vj vh : Value} (h : PtB w W row b n f xi xg xj xh vi vg vj vh) (e : W'.heap[b]? = some (.cells (blN n g) 4)) (ho : ∀ k, k ≠ b → W'.heap[k]? = W.heap[k]?) (hb : Below w.heap.size w W') : PtB w W' row b n g xi xg xj xh vi vg vj vh := by
  have hne : ∀ (k : Nat) (cur : Array Value) (t : TypeId), t ≠ 4 → W.heap[k]? = some (.cells cur t) → k ≠ b := by
    rintro k cur t ht hc rfl
    rw [h.bl] at hc
    cases hc
    exact ht rfl
  have hk : ∀ (k : Nat) (cur : Array Value) (t : TypeId), t = 51 ∨ t = 3 ∨ t = 22 → W.heap[k]? = some (.cells cur t) → W'.heap[k]? = W.heap[k]? := fun k cur t ht hc => ho k (hne k cur t (by rcases ht with rfl | rfl | rfl <;> decide) hc)
  exact ⟨(ho _ (hne _ _ _ (by decide) h.zb)).trans h.zb, e, h.go.keepT hk, h.ke.keepT hk, h.di, h.dg, hb⟩
theorem ty_eq {c c' : Array Value} {t t' : TypeId} (h : (some (Obj.cells c t) : Option Obj) = some (Obj.cells c' t')) : t = t' := by cases h; rfl
theorem TkE.types {w w' : World} {base B : Nat} {vi vg vi' vg' : Value} {xi xg xi' xg' : List Value} (h : TkE w w' base B vi vg vi' vg' xi' xg') (hc : ClR w base B xi xg vi vg) (k : Nat) (cur : Array Value) (t : TypeId) (h1 : t ≠ 3) (h2 : t ≠ 22) (hk : w.heap[k]? = some (.cells cur t)) (hne : k ≠ B) : w'.heap[k]? = w.heap[k]? := by
  refine h.oth k (blk_lt hk) hne (fun e => ?_) (fun e => ?_)
  · obtain ⟨c, hc'⟩ := owns_type hc.i e
    rw [hk] at hc'
    cases hc'
    exact h1 rfl
  · obtain ⟨c, hc'⟩ := owns_type hc.g e
    rw [hk] at hc'
    cases hc'
    exact h2 rfl
theorem TkE.clr {w w' : World} {base B B2 : Nat} {vi vg vi' vg' vj vh : Value} {xi xg xi' xg' xj xh : List Value} (h : TkE w w' base B vi vg vi' vg' xi' xg') (hc : ClR w base B xi xg vi vg) (hd : ClR w base B2 xj xh vj vh) (hne : B2 ≠ B) (di : ∀ k, vi.ownBlock = some k → vj.ownBlock ≠ some k) (dg : ∀ k, vg.ownBlock = some k → vh.ownBlock ≠ some k) : ClR w' base B2 xj xh vj vh := by
  refine ⟨(h.types hc B2 _ _ (by decide) (by decide) hd.box hne).trans hd.box, owns_keep hd.i fun k hk => ?_, owns_keep hd.g fun k hk => ?_⟩
  · obtain ⟨c, hc'⟩ := owns_type hd.i hk
    refine h.oth k (blk_lt hc') (fun e => ?_) (fun e => di k e hk) (fun e => ?_)
    · subst e; rw [hc.box] at hc'; cases hc'
    · obtain ⟨c2, hc2⟩ := owns_type hc.g e
      rw [hc'] at hc2
      cases hc2
  · obtain ⟨c, hc'⟩ := owns_type hd.g hk
    refine h.oth k (blk_lt hc') (fun e => ?_) (fun e => ?_) (fun e => dg k e hk)
    · subst e; rw [hc.box] at hc'; cases hc'
    · obtain ⟨c2, hc2⟩ := owns_type hc.i e
      rw [hc'] at hc2
      cases hc2
theorem own_apart {w : World} {E : TypeId} {base m : Nat} {v v' u : Value} {xs : List Value} (hn : v'.ownBlock = v.ownBlock ∨ ∀ k, v'.ownBlock = some k → w.heap.size ≤ k) (hu : w.ownsRow base E 1 u m xs) (d : ∀ k, v.ownBlock = some k → u.ownBlock ≠ some k) : ∀ k, v'.ownBlock = some k → u.ownBlock ≠ some k := by
  intro k hk e
  rcases hn with h | h
  · exact d k (h ▸ hk) e
  · have h1 := h k hk
    have h2 := (World.ownsRow.lt hu k e).2
    omega
theorem PtB.takeG {w W W' : World} {row : Array Value} {b n : Nat} {f : Nat → Bool} {xi xg xj xh xi' xg' : List Value} {vi vg vj vh vi' vg' : Value} (h : PtB w W row b n f xi xg xj xh vi vg vj vh) (hT : TkE W W' w.heap.size (w.heap.size + 1) vi vg vi' vg' xi' xg') : PtB w W' row b n f xi' xg' xj xh vi' vg' vj vh := by
  refine ⟨(hT.types h.go _ _ _ (by decide) (by decide) h.zb (by omega)).trans h.zb, ?_, hT.cl, hT.clr h.go h.ke (by omega) h.di h.dg, own_apart hT.ni h.ke.i h.di, own_apart hT.ng h.ke.g h.dg, h.bel.trans hT.bel⟩
  refine (hT.types h.go _ _ _ (by decide) (by decide) h.bl ?_).trans h.bl
  intro e
  have := h.bl
  rw [e, h.go.box] at this
  exact absurd (ty_eq this) (by decide)
theorem PtB.takeK {w W W' : World} {row : Array Value} {b n : Nat} {f : Nat → Bool} {xi xg xj xh xj' xh' : List Value} {vi vg vj vh vj' vh' : Value} (h : PtB w W row b n f xi xg xj xh vi vg vj vh) (hT : TkE W W' w.heap.size (w.heap.size + 1 + 1) vj vh vj' vh' xj' xh') : PtB w W' row b n f xi xg xj' xh' vi vg vj' vh' := by
  have d1 : ∀ k, vj.ownBlock = some k → vi.ownBlock ≠ some k := fun k h1 h2 => h.di k h2 h1
  have d2 : ∀ k, vh.ownBlock = some k → vg.ownBlock ≠ some k := fun k h1 h2 => h.dg k h2 h1
  refine ⟨(hT.types h.ke _ _ _ (by decide) (by decide) h.zb (by omega)).trans h.zb, ?_, hT.clr h.ke h.go (by omega) d1 d2, hT.cl, fun k h1 h2 => own_apart hT.ni h.go.i d1 k h2 h1, fun k h1 h2 => own_apart hT.ng h.go.g d2 k h2 h1, h.bel.trans hT.bel⟩
  refine (hT.types h.ke _ _ _ (by decide) (by decide) h.bl ?_).trans h.bl
  intro e
  have := h.bl
  rw [e, h.ke.box] at this
  exact absurd (ty_eq this) (by decide)
theorem Tryz.infoC2 : (Tryz.prog.info? 51).map (·.size) = some 2 := by kernel_rfl
theorem one_cl {W : World} {base B : Nat} {xi xg : List Value} {vi vg : Value} (h : ClR W base B xi xg vi vg) : (#[vi, vg] : Array Value).all (·.oneCell') = true := by
  have h1 := (own_valJ h.i).1
  have h2 := (own_valJ h.g).1
  simp [h1, h2]
theorem res_ccT (f : Func) (i j : Nat) (ty : TypeId) (hf : f.results = #[ResultVar.cell i ty, ResultVar.cell j ty]) (tmps : Array Value) (W : World) (B C : Nat) (c d : Array Value) (hp : tmps[i]? = some (.pointer (some ⟨B, 0, none⟩))) (hq : tmps[j]? = some (.pointer (some ⟨C, 0, none⟩)))
    (u : TypeDesc) (hu : Tryz.prog.underlying ty = some u) (hd : u.isRow = true) (n : Nat) (hi : (Tryz.prog.info? ty).map (·.size) = some n)
    (hc : c.size = n) (hcd : d.size = n) (h : W.heap[B]? = some (.cells c ty)) (h' : W.heap[C]? = some (.cells d ty)) : (results f tmps).run Tryz.prog W = .ok (.tuple #[.agg c, .agg d]) W := by
  have hl : ∀ (B : Nat) (c : Array Value), c.size = n → W.heap[B]? = some (.cells c ty) → (loadVar ty ⟨B, 0, none⟩).run Tryz.prog W = .ok (.agg c) W := by
    intro B c hc h
    have hr : W.rangeAt B 0 c.toList := by
      have := World.rangeAt_of_block h 0 c.size
      simpa using this
    have hl := run_loadVar_mid (P := Tryz.prog) W B 0 ty c.toList _ hr hu hd (by rw [hi]; simp [hc])
    simpa using hl
  simp [results, hf, hp, hq, hl B c hc h, hl C d hcd h', asAddr]
/-- The places that go. -/
def goesF (z : ZD) (many : Int) (j : Nat) : Bool := decide (j ∈ (plN (lsZ z) z.gn).take many.toNat)
theorem plN_lt (v : Nat → Int) (n : Nat) {x : Nat} (h : x ∈ plN v n) : x < n := by
  unfold plN at h
  obtain ⟨y, _, rfl⟩ := List.mem_map.1 h
  exact y.isLt
set_option maxRecDepth 100000 in
set_option maxHeartbeats 8000000 in
theorem parted_f (a : Nat) (ha : a = 1166) (z : ZD) (w : World) (hz : ZR w z) (hdg : z.dn = z.gn) (hgn : z.gn ≤ 3999999) (hf : ∀ k j : Nat, Fin ((z.gs[k]?.getD [])[j]?.getD 0)) (hl : ∀ k, k < z.gn → (z.gs[k]?.getD []).length ≤ 1050000) (many : Int) (hmany : many ≤ (z.gn : Int)) (f : Nat → Bool) (hff : f = goesF z many) :
    Calls Tryz.prog 17 #[.agg #[.int .i64 z.N, .slice z.co z.cn z.cc, .slice z.io z.dn z.dc, .slice z.go z.gn z.gc, .slice z.ro z.rn z.rc, .bool z.bad], .int .i64 many] w fun e w' => ∃ vi vg vj vh, e = .returned (.tuple #[.agg #[vi, vg], .agg #[vj, vh]]) ∧ (∃ B C, ClR w' w.heap.size B (xiL z.ids (pickL f z.gn)) (xgL z.gv (pickL f z.gn)) vi vg ∧ ClR w' w.heap.size C (xiL z.ids (pickL (fun j => !f j) z.gn)) (xgL z.gv (pickL (fun j => !f j) z.gn)) vj vh) ∧ Below w.heap.size w w' := by
  have HZ : Hid (∀ W', Below w.heap.size w W' → ZR W' z) := fun W' hb => hz.later hb
  have HBy : Hid (∀ W', Below w.heap.size w W' → Calls Tryz.prog 31 #[.agg #[.int .i64 z.N, .slice z.co z.cn z.cc, .slice z.io z.dn z.dc, .slice z.go z.gn z.gc, .slice z.ro z.rn z.rc, .bool z.bad]] W' fun e w' => ∃ P, e = .returned (.slice (some ⟨P, 0, none⟩) z.gn z.gn) ∧ W'.heap.size ≤ P ∧ RdIs w' (some ⟨P, 0, none⟩) z.gn z.gn ((plN (lsZ z) z.gn).map fun (k : Nat) => (k : Int)) ∧ Below W'.heap.size W' w') := fun W' hb => byLoss_any a ha z W' (hz.later hb) (by omega) hf hl
  clear ha hz hf hl
  have HFF : Hid (f = goesF z many) := hff
  clear hff
  obtain ⟨N, co, cn, cc, io, dn, dc, go, gn, gc, ro, rn, rc, bad, cs, ids, gv, gs, rs⟩ := z
  dsimp only at hdg hgn hmany HBy ⊢
  have hgd := hdg.symm
  clear hdg
  subst hgd
  have hmx : gn ≤ 9223372036854775807 := by omega
  have hmk := makeBT gn (by omega)
  have X0 : PtB w ((((w.alloc (.cells #[.int .i64 N, .slice co cn cc, .slice io gn dc, .slice go gn gc, .slice ro rn rc, .bool bad] 26)).alloc (.cells #[.slice none 0 0, .slice none 0 0] 51)).alloc (.cells #[.slice none 0 0, .slice none 0 0] 51)).alloc (.cells (blN gn fun _ => false) 4)) #[.int .i64 N, .slice co cn cc, .slice io gn dc, .slice go gn gc, .slice ro rn rc, .bool bad] (w.heap.size + 1 + 1 + 1) gn (fun _ => false) [] [] [] [] (.slice none 0 0) (.slice none 0 0) (.slice none 0 0) (.slice none 0 0) := by
    refine ⟨?_, heap_at _ _ _ (by simp only [alloc_size]), ⟨?_, World.ownsRow_nil _ _ _ _, World.ownsRow_nil _ _ _ _⟩, ⟨?_, World.ownsRow_nil _ _ _ _, World.ownsRow_nil _ _ _ _⟩, fun k hk => (by cases hk), fun k hk => (by cases hk), ?_⟩
    · exact alloc_kept (alloc_kept (alloc_kept (heap_alloc_new w _) _) _) _
    · exact alloc_kept (alloc_kept (heap_at _ _ _ (by simp only [alloc_size])) _) _
    · exact alloc_kept (heap_at _ _ _ (by simp only [alloc_size])) _
    · exact ((((Below.refl _ w).alloc (Nat.le_refl _) _).alloc (by simp only [alloc_size]; omega) _).alloc (by simp only [alloc_size]; omega) _).alloc (by simp only [alloc_size]; omega) _
  have hs3 : (((w.alloc (.cells #[.int .i64 N, .slice co cn cc, .slice io gn dc, .slice go gn gc, .slice ro rn rc, .bool bad] 26)).alloc (.cells #[.slice none 0 0, .slice none 0 0] 51)).alloc (.cells #[.slice none 0 0, .slice none 0 0] 51)).heap.size = w.heap.size + 1 + 1 + 1 := by simp only [alloc_size]
  go_enter Tryz.func17, Tryz.ntmps17
  go_upto_if 16 with fail
  obtain ⟨Y, hY⟩ : ∃ Y, ((((w.alloc (.cells #[.int .i64 N, .slice co cn cc, .slice io gn dc, .slice go gn gc, .slice ro rn rc, .bool bad] 26)).alloc (.cells #[.slice none 0 0, .slice none 0 0] 51)).alloc (.cells #[.slice none 0 0, .slice none 0 0] 51)).alloc (.cells (blN gn fun _ => false) 4)) = Y := ⟨_, rfl⟩
  rw [hY] at X0
  (try rw [hY])
  have HX : Hid (PtB w Y #[.int .i64 N, .slice co cn cc, .slice io gn dc, .slice go gn gc, .slice ro rn rc, .bool bad] (w.heap.size + 1 + 1 + 1) gn (fun _ => false) [] [] [] [] (.slice none 0 0) (.slice none 0 0) (.slice none 0 0) (.slice none 0 0)) := X0
  clear hY X0 hmk hs3
  go_cut [6] (fun v6 wx => v6 = .slice (some ⟨w.heap.size + 1 + 1 + 1, 0, none⟩) gn gn ∧ Hid (PtB w wx #[.int .i64 N, .slice co cn cc, .slice io gn dc, .slice go gn gc, .slice ro rn rc, .bool bad] (w.heap.size + 1 + 1 + 1) gn f [] [] [] [] (.slice none 0 0) (.slice none 0 0) (.slice none 0 0) (.slice none 0 0)))
  case first =>
    by_cases hm : many > 0
    · obtain ⟨m, rfl⟩ : ∃ m : Nat, many = (m : Int) := ⟨many.toNat, by omega⟩
      have hd : decide ((m : Int) > 0) = true := decide_eq_true hm
      have hm1 : m ≤ gn := by omega
      obtain ⟨pl, hpl⟩ : ∃ pl, plN (lsZ (⟨N, co, cn, cc, io, gn, dc, go, gn, gc, ro, rn, rc, bad, cs, ids, gv, gs, rs⟩ : ZD)) gn = pl := ⟨_, rfl⟩
      have HGo : Hid ((goesF (⟨N, co, cn, cc, io, gn, dc, go, gn, gc, ro, rn, rc, bad, cs, ids, gv, gs, rs⟩ : ZD) (m : Int) = fun j => decide (j ∈ pl.take m)) ∧ pl.length = gn ∧ ∀ x ∈ pl, x < gn) := by
        refine ⟨?_, by rw [← hpl, plN_len], fun x hx => plN_lt (lsZ (⟨N, co, cn, cc, io, gn, dc, go, gn, gc, ro, rn, rc, bad, cs, ids, gv, gs, rs⟩ : ZD)) gn (by rw [hpl]; exact hx)⟩
        funext j
        unfold goesF
        dsimp only
        rw [hpl, Int.toNat_natCast]
      rw [hpl] at HBy
      clear hpl
      go_wp2_with (first
        | (refine wpList_load_row (by rfl) 26 _ (by rfl) w.heap.size _ (by rfl) HX.out.zb _ Tryz.underlying26 rfl 6 Tryz.infoZ (by rfl) ?_)
        | (go_at_call 31; refine (HBy.out _ HX.out.bel).mono ?_; rintro e w1 ⟨P, rfl, hP, hr, b1⟩))
      have HP0 : Hid (PtB w w1 #[.int .i64 N, .slice co cn cc, .slice io gn dc, .slice go gn gc, .slice ro rn rc, .bool bad] (w.heap.size + 1 + 1 + 1) gn (fun j => decide (j ∈ pl.take 0)) [] [] [] [] (.slice none 0 0) (.slice none 0 0) (.slice none 0 0) (.slice none 0 0)) := by
        have h9 := HX.out.later b1
        have e9 : (fun j => decide (j ∈ pl.take 0)) = fun _ : Nat => false := by funext j; simp
        unfold Hid
        rw [e9]
        exact h9
      have HPP : Hid (w.heap.size + 1 + 1 + 1 ≠ P) := by have h9 := blk_lt HX.out.bl; unfold Hid; omega
      have HC0 : Hid (∀ j, j < gn → w1.cell? ⟨P, j, none⟩ = some (.int .i64 ((pl[j]?.getD 0 : Nat) : Int))) := by
        intro j hj
        rcases hr.cells with h0 | ⟨b, off, hb9, hc9⟩
        · omega
        · injection hb9 with hb9
          injection hb9 with h91 h92
          have h93 := hc9 j hj
          rw [← h91, ← h92, Nat.zero_add, List.getElem?_map] at h93
          rw [h93]
          rw [List.getElem?_eq_getElem (by rw [HGo.out.2.1]; exact hj)]
          rfl
      clear hr b1 hP HX
      go_loopg [22] m (fun g iv wx => ∃ k : Nat, iv = .int .i64 k ∧ k + g = m ∧ Hid (PtB w wx #[.int .i64 N, .slice co cn cc, .slice io gn dc, .slice go gn gc, .slice ro rn rc, .bool bad] (w.heap.size + 1 + 1 + 1) gn (fun j => decide (j ∈ pl.take k)) [] [] [] [] (.slice none 0 0) (.slice none 0 0) (.slice none 0 0) (.slice none 0 0)) ∧ Hid (∀ j, j < gn → wx.cell? ⟨P, j, none⟩ = some (.int .i64 ((pl[j]?.getD 0 : Nat) : Int))))
      case atStart => exact ⟨0, rfl, by omega, HP0, HC0⟩
      case round =>
        clear HP0 HC0
        obtain ⟨k, rfl, hk, HI, HC⟩ := hrel
        by_cases h1 : k < m
        · have hd1 : decide ((k : Int) < (m : Int)) = true := decide_eq_true (by omega)
          obtain ⟨q, rfl⟩ : ∃ q, gk = q + 1 := ⟨gk - 1, by omega⟩
          have HIG : Hid (k + (q + 1) = m) := hk
          have h1' : (k : Int) < (m : Int) := by omega
          have ga := HC.out k (by omega)
          obtain ⟨x, hx⟩ : ∃ x, pl[k]?.getD 0 = x := ⟨_, rfl⟩
          rw [hx] at ga
          have hkl : k < pl.length := by rw [HGo.out.2.1]; omega
          have hxe : pl[k] = x := by rw [List.getElem?_eq_getElem hkl] at hx; exact hx
          have hxl : x < gn := by rw [← hxe]; exact HGo.out.2.2 _ (List.getElem_mem hkl)
          have hxl' : (x : Int) < (gn : Int) := by omega
          have HSt : Hid (∀ j, j < gn → decide (j ∈ pl.take (k + 1)) = if j = x then true else decide (j ∈ pl.take k)) := by
            intro j hj
            rw [List.take_succ_eq_append_getElem hkl, hxe]
            by_cases e : j = x
            · rw [if_pos e, e]; simp
            · rw [if_neg e]; simp [e]
          clear hk hx hkl hxe
          go_wp2_with (first | (refine wpList_store_at (by rfl) 4 _ _ (by rfl) w w.heap.size (w.heap.size + 1 + 1 + 1) x (.bool true) _ (blN gn (fun j => decide (j ∈ pl.take (k + 1)))) 4 (by rfl) (by rfl) HI.out.bl HI.out.bel (by omega) 1 Tryz.szB1 rfl (by rw [blN_size]; omega) (one_bo _) (blN_set _ _ _ _ hxl HSt.out) ?_; intro W2 e2 b2 s2 o2))
          have HI2 : Hid (PtB w W2 #[.int .i64 N, .slice co cn cc, .slice io gn dc, .slice go gn gc, .slice ro rn rc, .bool bad] (w.heap.size + 1 + 1 + 1) gn (fun j => decide (j ∈ pl.take (k + 1))) [] [] [] [] (.slice none 0 0) (.slice none 0 0) (.slice none 0 0) (.slice none 0 0)) := PtB.setB HI.out e2 o2 b2
          have HC2 : Hid (∀ j, j < gn → W2.cell? ⟨P, j, none⟩ = some (.int .i64 ((pl[j]?.getD 0 : Nat) : Int))) := fun j hj => (cell_heapJ (o2 P (Ne.symm HPP.out)) j).trans (HC.out j hj)
          clear e2 b2 s2 o2 HI HC ga
          go_roundg q
          case measure => omega
          case rel => exact ⟨k + 1, by go_num, by have := HIG.out; omega, HI2, HC2⟩
        · have hd1 : decide ((k : Int) < (m : Int)) = false := decide_eq_false (by omega)
          have hd2 : decide (k < m) = false := decide_eq_false (by omega)
          have hkm : k = m := by omega
          have HI2 : Hid (PtB w wr #[.int .i64 N, .slice co cn cc, .slice io gn dc, .slice go gn gc, .slice ro rn rc, .bool bad] (w.heap.size + 1 + 1 + 1) gn f [] [] [] [] (.slice none 0 0) (.slice none 0 0) (.slice none 0 0) (.slice none 0 0)) := by
            have h9 := HI.out
            rw [hkm] at h9
            unfold Hid
            rw [HFF.out, HGo.out.1]
            exact h9
          clear hkm
          go_wp2_with fail
          go_meet
          exact ⟨rfl, HI2⟩
    · have hd : decide (many > 0) = false := decide_eq_false hm
      have hd2 : decide (0 < many) = false := decide_eq_false hm
      have HI2 : Hid (PtB w Y #[.int .i64 N, .slice co cn cc, .slice io gn dc, .slice go gn gc, .slice ro rn rc, .bool bad] (w.heap.size + 1 + 1 + 1) gn f [] [] [] [] (.slice none 0 0) (.slice none 0 0) (.slice none 0 0) (.slice none 0 0)) := by
        have e9 : goesF (⟨N, co, cn, cc, io, gn, dc, go, gn, gc, ro, rn, rc, bad, cs, ids, gv, gs, rs⟩ : ZD) many = fun _ : Nat => false := by
          funext j
          unfold goesF
          rw [show many.toNat = 0 by omega]
          simp
        unfold Hid
        rw [HFF.out, e9]
        exact HX.out
      go_wp2_with fail
      go_meet
      exact ⟨rfl, HI2⟩
  case rest =>
    obtain ⟨rfl, HR⟩ := hcut
    clear HX
    clear HFF
    have c2 : wc.cell? ⟨w.heap.size, 2, none⟩ = some (.slice io gn dc) := cellAtJ HR.out.zb 2 _ rfl
    go_wp2_with fail
    clear c2
    go_loopg [33] gn (fun g iv wx => ∃ k : Nat, iv = .int .i64 k ∧ k + g = gn ∧ ∃ vi vg vj vh, Hid (PtB w wx #[.int .i64 N, .slice co cn cc, .slice io gn dc, .slice go gn gc, .slice ro rn rc, .bool bad] (w.heap.size + 1 + 1 + 1) gn f (xiL ids (pickL f k)) (xgL gv (pickL f k)) (xiL ids (pickL (fun j => !f j) k)) (xgL gv (pickL (fun j => !f j) k)) vi vg vj vh))
    case atStart => exact ⟨0, rfl, by omega, _, _, _, _, HR⟩
    case round =>
      clear HR
      obtain ⟨k, rfl, hk, vi, vg, vj, vh, HI⟩ := hrel
      by_cases h1 : k < gn
      · have hd1 : decide ((k : Int) < (gn : Int)) = true := decide_eq_true (by omega)
        obtain ⟨q, rfl⟩ : ∃ q, gk = q + 1 := ⟨gk - 1, by omega⟩
        have HIG : Hid (k + (q + 1) = gn) := hk
        have h1' : (k : Int) < (gn : Int) := by omega
        clear hk
        have hzz := HZ.out wr HI.out.bel
        rcases hzz.i.cells with h0 | ⟨ib, ioff, hio, hic⟩
        · dsimp only at h0; omega
        rcases hzz.g.cells with h0 | ⟨gb, goff, hgo, hgc⟩
        · dsimp only at h0; omega
        dsimp only at hio hgo
        have ga := hgc k h1
        have gi := hic k h1
        dsimp only at ga gi
        have c3 : wr.cell? ⟨w.heap.size, 3, none⟩ = some (.slice go gn gc) := cellAtJ HI.out.zb 3 _ rfl
        have cb : wr.cell? ⟨w.heap.size + 1 + 1 + 1, k, none⟩ = some (.bool (f k)) := cellAtJ HI.out.bl k _ (blN_at _ _ _ h1)
        subst hio hgo
        have HX1 : Hid (xiL ids (pickL f k ++ [k]) = xiL ids (pickL f k) ++ [.int .i64 (ids[k]?.getD 0)] ∧ xgL gv (pickL f k ++ [k]) = xgL gv (pickL f k) ++ [.slice (gv k).1 (gv k).2.1 (gv k).2.2]) := ⟨xiL_snoc _ _ _, xgL_snoc _ _ _⟩
        have HX2 : Hid (xiL ids (pickL (fun j => !f j) k ++ [k]) = xiL ids (pickL (fun j => !f j) k) ++ [.int .i64 (ids[k]?.getD 0)] ∧ xgL gv (pickL (fun j => !f j) k ++ [k]) = xgL gv (pickL (fun j => !f j) k) ++ [.slice (gv k).1 (gv k).2.1 (gv k).2.2]) := ⟨xiL_snoc _ _ _, xgL_snoc _ _ _⟩
        obtain ⟨di, edi⟩ : ∃ x, ids[k]?.getD 0 = x := ⟨_, rfl⟩
        obtain ⟨g1, eg1⟩ : ∃ x, (gv k).1 = x := ⟨_, rfl⟩
        obtain ⟨g2, eg2⟩ : ∃ x, (gv k).2.1 = x := ⟨_, rfl⟩
        obtain ⟨g3, eg3⟩ : ∃ x, (gv k).2.2 = x := ⟨_, rfl⟩
        rw [eg1, eg2, eg3] at ga
        rw [edi] at gi
        rw [edi, eg1, eg2, eg3] at HX1 HX2
        have HLN : Hid ((pickL f k).length ≤ k ∧ (pickL (fun j => !f j) k).length ≤ k) := ⟨pickL_len _ _, pickL_len _ _⟩
        have HWS : Hid (w.heap.size ≤ wr.heap.size) := HI.out.bel.size
        clear hic hgc hzz eg1 eg2 eg3 edi
        cases hfk : f k with
        | true =>
          rw [hfk] at cb
          have HE : Hid (pickL f (k + 1) = pickL f k ++ [k] ∧ pickL (fun j => !f j) (k + 1) = pickL (fun j => !f j) k) := ⟨pickL_yes hfk, pickL_no (by simp [hfk])⟩
          clear hfk
          go_wp2_with (first | (go_at_call 34; refine (take_any w.heap.size (w.heap.size + 1) _ _ vi vg di g1 g2 g3 _ HI.out.go (by have := HLN.out.1; unfold xiL; rw [List.length_map]; omega) (by have := HLN.out.1; unfold xgL; rw [List.length_map]; omega) HWS.out (by omega)).mono ?_; rintro e w3 ⟨rfl, vi', vg', hT⟩))
          have HI2 : Hid (PtB w w3 #[.int .i64 N, .slice co cn cc, .slice (some ⟨ib, ioff, none⟩) gn dc, .slice (some ⟨gb, goff, none⟩) gn gc, .slice ro rn rc, .bool bad] (w.heap.size + 1 + 1 + 1) gn f (xiL ids (pickL f (k + 1))) (xgL gv (pickL f (k + 1))) (xiL ids (pickL (fun j => !f j) (k + 1))) (xgL gv (pickL (fun j => !f j) (k + 1))) vi' vg' vj vh) := by
            have h9 := PtB.takeG HI.out hT
            rw [← HX1.out.1, ← HX1.out.2] at h9
            unfold Hid
            rw [HE.out.1, HE.out.2]
            exact h9
          clear hT HI ga gi c3 cb HX1 HX2 HE HLN HWS
          go_roundg q
          case measure => omega
          case rel => exact ⟨k + 1, by go_num, by have := HIG.out; omega, _, _, _, _, HI2⟩
        | false =>
          rw [hfk] at cb
          have HE : Hid (pickL f (k + 1) = pickL f k ∧ pickL (fun j => !f j) (k + 1) = pickL (fun j => !f j) k ++ [k]) := ⟨pickL_no hfk, pickL_yes (by simp [hfk])⟩
          clear hfk
          go_wp2_with (first | (go_at_call 34; refine (take_any w.heap.size (w.heap.size + 1 + 1) _ _ vj vh di g1 g2 g3 _ HI.out.ke (by have := HLN.out.2; unfold xiL; rw [List.length_map]; omega) (by have := HLN.out.2; unfold xgL; rw [List.length_map]; omega) HWS.out (by omega)).mono ?_; rintro e w3 ⟨rfl, vj', vh', hT⟩))
          have HI2 : Hid (PtB w w3 #[.int .i64 N, .slice co cn cc, .slice (some ⟨ib, ioff, none⟩) gn dc, .slice (some ⟨gb, goff, none⟩) gn gc, .slice ro rn rc, .bool bad] (w.heap.size + 1 + 1 + 1) gn f (xiL ids (pickL f (k + 1))) (xgL gv (pickL f (k + 1))) (xiL ids (pickL (fun j => !f j) (k + 1))) (xgL gv (pickL (fun j => !f j) (k + 1))) vi vg vj' vh') := by
            have h9 := PtB.takeK HI.out hT
            rw [← HX2.out.1, ← HX2.out.2] at h9
            unfold Hid
            rw [HE.out.1, HE.out.2]
            exact h9
          clear hT HI ga gi c3 cb HX1 HX2 HE HLN HWS
          go_roundg q
          case measure => omega
          case rel => exact ⟨k + 1, by go_num, by have := HIG.out; omega, _, _, _, _, HI2⟩
      · have hd1 : decide ((k : Int) < (gn : Int)) = false := decide_eq_false (by omega)
        have hd2 : decide (k < gn) = false := decide_eq_false (by omega)
        have hkm : k = gn := by omega
        have HI2 : Hid (PtB w wr #[.int .i64 N, .slice co cn cc, .slice io gn dc, .slice go gn gc, .slice ro rn rc, .bool bad] (w.heap.size + 1 + 1 + 1) gn f (xiL ids (pickL f gn)) (xgL gv (pickL f gn)) (xiL ids (pickL (fun j => !f j) gn)) (xgL gv (pickL (fun j => !f j) gn)) vi vg vj vh) := by
          have h9 := HI.out
          rw [hkm] at h9
          exact h9
        clear hkm HI
        go_wp2_with (first
          | (refine wpList_load_row (by rfl) 51 _ (by rfl) (w.heap.size + 1) _ (by rfl) HI2.out.go.box _ Tryz.underlying51 rfl 2 Tryz.infoC2 (by rfl) ?_)
          | (refine wpList_load_row (by rfl) 51 _ (by rfl) (w.heap.size + 1 + 1) _ (by rfl) HI2.out.ke.box _ Tryz.underlying51 rfl 2 Tryz.infoC2 (by rfl) ?_)
          | (refine wpList_store_row (by rfl) 51 _ _ (by rfl) w w.heap.size (w.heap.size + 1) #[vi, vg] _ (by rfl) (by rfl) HI2.out.go.box HI2.out.bel (by omega) 2 Tryz.infoC2 rfl rfl (one_cl HI2.out.go) ?_; intro W7 e7 b7 s7 o7)
          | (refine wpList_store_row (by rfl) 51 _ _ (by rfl) w w.heap.size (w.heap.size + 1 + 1) #[vj, vh] _ (by rfl) (by rfl) ((o7 _ (by omega)).trans HI2.out.ke.box) b7 (by omega) 2 Tryz.infoC2 rfl rfl (one_cl HI2.out.ke) ?_; intro W8 e8 b8 s8 o8))
        have f7 : W8.heap[w.heap.size + 1]? = some (.cells #[vi, vg] 51) := (o8 _ (by omega)).trans e7
        have hk : ∀ (k : Nat) (cur : Array Value) (t : TypeId), t = 51 ∨ t = 3 ∨ t = 22 → wr.heap[k]? = some (.cells cur t) → W8.heap[k]? = wr.heap[k]? := by
          intro k cur t ht hc
          by_cases e1 : k = w.heap.size + 1
          · rw [e1, f7, HI2.out.go.box]
          · by_cases e2 : k = w.heap.size + 1 + 1
            · rw [e2, e8, HI2.out.ke.box]
            · exact (o8 k e2).trans (o7 k e1)
        refine bodyPost_ret (res_ccT _ 4 5 51 (by kernel_rfl) _ _ (w.heap.size + 1) (w.heap.size + 1 + 1) #[vi, vg] #[vj, vh] (by rfl) (by rfl) _ Tryz.underlying51 rfl 2 Tryz.infoC2 rfl rfl f7 e8) rfl ?_
        exact ⟨vi, vg, vj, vh, rfl, ⟨_, _, HI2.out.go.keepT hk, HI2.out.ke.keepT hk⟩, b8⟩
end Go.Proofs.YtogdfdhdmfkmaaaGreat
