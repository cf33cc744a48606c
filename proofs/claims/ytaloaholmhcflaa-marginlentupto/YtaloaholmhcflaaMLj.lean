import Derived.Deep.CutBlock
import Derived.Deep.QuietTactic
import Derived.BigQuiet
import Derived.Test.YtaloaholmhcflaaMLi
namespace Go.Proofs.Ytaloaholmhcflaa
open Go.RowKit Go.Shelf
set_option linter.unusedVariables false
set_option linter.unusedSimpArgs false
theorem Try.infoZL : (Try.prog.info? 26).map (·.size) = some 6 := by kernel_rfl
theorem SmZ.self (z : ZD) : SmZ z z := ⟨rfl, rfl, rfl, rfl, rfl, rfl, rfl, rfl, rfl, rfl⟩
theorem slL_two (g c : Nat → Nat) (n i : Nat) : slL g c n (2 * i) ++ [.slice (some ⟨g (2 * i), 0, none⟩) n (c (2 * i)), .slice (some ⟨g (2 * i + 1), 0, none⟩) n (c (2 * i + 1))] = slL g c n (2 * (i + 1)) := by
  rw [show 2 * (i + 1) = 2 * i + 1 + 1 by omega, ← slL_succ, ← slL_succ, List.append_assoc]
  rfl
theorem slL_plus (g c g' c' : Nat → Nat) (n K L : Nat) : slL g c n K ++ slL g' c' n L = slL (fun k => if k < K then g k else g' (k - K)) (fun k => if k < K then c k else c' (k - K)) n (K + L) := by
  apply List.ext_getElem?
  intro k
  by_cases h : k < K
  · rw [List.getElem?_append_left (by rw [slL_len]; exact h), slL_at _ _ _ _ _ h, slL_at _ _ _ _ _ (by omega)]
    simp only [if_pos h]
  · rw [List.getElem?_append_right (by rw [slL_len]; omega), slL_len]
    by_cases h2 : k < K + L
    · rw [slL_at _ _ _ _ _ (show k - K < L by omega), slL_at _ _ _ _ _ h2]
      simp only [if_neg h]
    · rw [List.getElem?_eq_none (by rw [slL_len]; omega), List.getElem?_eq_none (by rw [slL_len]; omega)]
/-- The rows of two lists that were told one behind the other. -/
theorem FlL.fam2 {W1 W2 W : World} {b1 n : Nat} {cl : List (List Nat)} {va vb : Value} {ga gb : List Value} (ha : FlL W1 b1 cl va ga) (hb : FlL W2 W1.heap.size cl vb gb) (hb1 : b1 ≤ W1.heap.size) (h12 : Below W1.heap.size W1 W2) (h2 : Below W2.heap.size W2 W) (hn : 0 < n) (hr : ∀ us ∈ cl, us.length = n) :
    ∃ (g c : Nat → Nat) (C : Nat → List Value), ga ++ gb = slL g c n (cl.length + cl.length) ∧ (∀ k, k < cl.length + cl.length → OwV W b1 50 (g k) n (c k) (C k)) ∧ ∀ i j, i < cl.length + cl.length → j < cl.length + cl.length → g i = g j → i = j := by
  obtain ⟨g, c, e1, o1, i1⟩ := ha.fam hn hr
  obtain ⟨g', c', e2, o2, i2⟩ := hb.fam hn hr
  refine ⟨_, _, fun k => if k < cl.length then (cl[k]?.getD []).map fF else (cl[k - cl.length]?.getD []).map fF, by rw [e1, e2]; exact slL_plus _ _ _ _ _ _ _, fun k hk => ?_, fun i j hi hj e => ?_⟩
  · by_cases h : k < cl.length
    · simp only [if_pos h]
      exact ((o1 k h).later h12).later h2
    · simp only [if_neg h]
      exact ((o2 (k - cl.length) (by omega)).mono hb1).later h2
  · by_cases h : i < cl.length
    · by_cases h' : j < cl.length
      · simp only [if_pos h, if_pos h'] at e
        exact i1 i j h h' e
      · simp only [if_pos h, if_neg h'] at e
        have q1 := (o1 i h).lt
        have q2 := (o2 (j - cl.length) (by omega)).b
        omega
    · by_cases h' : j < cl.length
      · simp only [if_neg h, if_pos h'] at e
        have q1 := (o1 j h').lt
        have q2 := (o2 (i - cl.length) (by omega)).b
        omega
      · simp only [if_neg h, if_neg h'] at e
        have := i2 (i - cl.length) (j - cl.length) (by omega) (by omega) e
        omega
theorem ex_bsV {P : Program} {ρ : Operand → Value} (o : Oper) (t : TypeId) (n : Nat) (parts : Array (Nat × Operand)) (ho : o.op = .buildSlice t n parts) (vals : Array (Nat × Value)) (hv : (parts.map fun p => (p.1, ρ p.2)) = vals) (v : Value) (w w' : World) (h : (Instr.buildSlice t n vals).run P w = .ok v w') : (execOp ρ o).run P w = .ok (.value v) w' := by
  unfold execOp
  simp only [ho, hv, h, Sem.run_bind, Sem.run_pure, Result.andThen_ok]
theorem Try.bsF0 (w : World) : (Instr.buildSlice 24 0 #[]).run Try.prog w = .ok (.slice (some ⟨w.heap.size, 0, none⟩) 0 0) (w.alloc (.cells #[] 22)) := by kernel_rfl
theorem Try.bsI2 (B1 B2 k : Nat) (w : World) : (Instr.buildSlice 43 2 #[(0, .slice (some ⟨B1, 0, none⟩) k k), (1, .slice (some ⟨B2, 0, none⟩) k k)]).run Try.prog w = .ok (.slice (some ⟨w.heap.size, 0, none⟩) 2 2) (w.alloc (.cells #[.slice (some ⟨B1, 0, none⟩) k k, .slice (some ⟨B2, 0, none⟩) k k] 23)) := by kernel_rfl
theorem hopB0 {P : Program} {ops : Array Oper} {Q : Exit → Act → World → Prop} {i : Nat} {o : Oper} {K : Act → World → Prop} {a : Act} {w : World} (d : Nat) (E : TypeId) (ho : ops[i]? = some o) (hg : o.guard = none) (hd : o.dst = some d)
    (hr : (execOp a.eval o).run P w = .ok (.value (.slice (some ⟨w.heap.size, 0, none⟩) 0 0)) (w.alloc (.cells #[] E)))
    (h : ∀ I W', OwV W' w.heap.size E I 0 0 [] → Below w.heap.size w W' → K (a.put (some d) (.slice (some ⟨I, 0, none⟩) 0 0)) W') : wpOp P ops Q i K a w :=
  hopV d ho hg hd hr (h _ _ (OwV.mk rfl (Nat.le_refl _) (Nat.le_refl _) (Nat.zero_le _) #[] (heap_alloc_new w _) rfl rfl) ((Below.refl _ w).alloc (Nat.le_refl _) _))
theorem news_twoV {W : World} {I : Nat} {x y : Value} {E : TypeId} (h : W.heap[I]? = some (.cells #[x, y] E)) : ∀ j u, [x, y][j]? = some u → W.cell? ((⟨I, 0, none⟩ : Addr).add j) = some u := by
  intro j u hj
  match j, hj with
  | 0, hj => cases hj; rw [Addr.add_lit, cell_of_row _ I _ _ _ _ h]; rfl
  | 1, hj => cases hj; rw [Addr.add_lit, cell_of_row _ I _ _ _ _ h]; rfl
theorem put_someL {P : Program} {ops : Array Oper} {Q : Exit → Act → World → Prop} {rest : List Oper} {a : Act} {dst : Option Tmp} {v : Value} {w : World} (d : Tmp) (hd : dst = some d) (h : wpList P ops Q rest (a.put (some d) v) w) : wpList P ops Q rest (a.put dst v) w := by subst hd; exact h
theorem one_twoV (a b : Value) (ha : a.oneCell' = true) (hb : b.oneCell' = true) : ∀ u ∈ [a, b], u.oneCell' = true := by
  intro u hu
  rcases List.mem_cons.1 hu with rfl | hu
  · exact ha
  · rw [List.mem_singleton.1 hu]; exact hb
theorem slL_oneV (g c : Nat → Nat) (n K : Nat) : ∀ u ∈ slL g c n K, u.oneCell' = true := by
  intro u hu
  unfold slL at hu
  obtain ⟨k, _, rfl⟩ := List.mem_map.1 hu
  rfl
theorem slL_push2 (gI : Nat → Nat) (kk n B1 B2 : Nat) : slL gI (fun _ => kk) kk n ++ [.slice (some ⟨B1, 0, none⟩) kk kk, .slice (some ⟨B2, 0, none⟩) kk kk] = slL (fun k => if k < n then gI k else if k = n then B1 else B2) (fun _ => kk) kk (n + 2) := by
  have e : slL gI (fun _ => kk) kk n = slL (fun k => if k < n then gI k else if k = n then B1 else B2) (fun _ => kk) kk n := slL_ext fun k hk => ⟨by simp only [if_pos hk], rfl⟩
  rw [e, show n + 2 = n + 1 + 1 by omega, ← slL_succ, ← slL_succ, List.append_assoc]
  simp only [List.singleton_append, if_neg (Nat.lt_irrefl n), if_true, if_neg (show ¬ n + 1 < n by omega), if_neg (show ¬ n + 1 = n by omega)]
theorem OwV.types {W W' : World} {t E : TypeId} {base G n c : Nat} {vs : List Value} (h : OwV W base t G n c vs) (ht : t ≠ E) (hk : ∀ (k : Nat) (cur : Array Value) (t' : TypeId), t' ≠ E → W.heap[k]? = some (.cells cur t') → W'.heap[k]? = W.heap[k]?) : OwV W' base t G n c vs := by
  obtain ⟨_, _, _, _, cur, h1, _⟩ := h.get
  exact h.keep (hk _ cur _ ht h1)
theorem own_news {W : World} {base n ca : Nat} {E : TypeId} {oa : Option Addr} {xs : List Value} (h : W.ownsRow base E 1 (.slice oa n ca) n xs) : (oa = none → n = 0 ∧ ca = 0) ∧ xs.length = n * 1 ∧ ∀ ad, oa = some ad → ∀ j u, xs[j]? = some u → W.cell? (ad.add j) = some u := by
  refine ⟨?_, h.1, ?_⟩
  · rintro rfl
    rcases h.2 with ⟨h1, _⟩ | ⟨g, cap, cur, h1, _⟩
    · injection h1 with h1 h2 h3
      exact ⟨h2, h3⟩
    · injection h1 with h1
      cases h1
  · rintro ad rfl j u hj
    rcases h.2 with ⟨h1, _⟩ | ⟨g, cap, cur, h1, h9⟩
    · injection h1 with h1
      cases h1
    · injection h1 with h1 h2 h3
      injection h1 with h1
      subst h1
      subst h3
      have hl : j < xs.length := (List.getElem?_eq_some_iff.1 hj).1
      have h2 := World.ownsRow.cellAt h j (by rw [← h.1]; exact hl)
      rw [Addr.add_lit, Nat.zero_add, h2]
      exact hj
theorem own_slice2 {W : World} {base n : Nat} {E : TypeId} {v : Value} {xs : List Value} (h : W.ownsRow base E 1 v n xs) : ∃ (ao : Option Addr) (cap : Nat), v = .slice ao n cap := by
  obtain ⟨ao, cap, e, _⟩ := owns_slice h
  exact ⟨ao, cap, e⟩
theorem exD {α : Type} [Inhabited α] {n : Nat} {P : Nat → α → Prop} (h : ∀ j, j < n → ∃ x, P j x) : ∃ D : Nat → α, ∀ j, j < n → P j (D j) :=
  ⟨fun j => if hj : j < n then Classical.choose (h j hj) else default, fun j hj => by simp only [dif_pos hj]; exact Classical.choose_spec (h j hj)⟩
theorem OfL.keepU {w w' : World} {base : Nat} {gs : List (List Nat)} {vg : Value} {gl : List Value} (h : OfL w base [] [] [] gs (.slice none 0 0) (.slice none 0 0) (.slice none 0 0) vg gl) (hk : ∀ (k : Nat) (cur : Array Value) (t : TypeId), t ≠ 50 → t ≠ 3 → w.heap[k]? = some (.cells cur t) → w'.heap[k]? = w.heap[k]?) : OfL w' base [] [] [] gs (.slice none 0 0) (.slice none 0 0) (.slice none 0 0) vg gl :=
  ⟨World.ownsRow_nil _ _ _ _, World.ownsRow_nil _ _ _ _, World.ownsRow_nil _ _ _ _, owns_keepT h.g fun k cur => hk k cur _ (by decide) (by decide), h.len, fun j u hj => owns_keepT (h.col j u hj) fun k cur => hk k cur _ (by decide) (by decide)⟩
/-- Two rows of ints more, each in a block of its own. -/
theorem own_two {W' : World} {E : TypeId} {base n kk B1 B2 : Nat} {gI : Nat → Nat} (ho : ∀ j, j < n → ∃ xs, OwV W' base E (gI j) kk kk xs) (hi : ∀ x y, x < n → y < n → gI x = gI y → x = y) (h1 : ∃ xs, OwV W' base E B1 kk kk xs) (h2 : ∃ xs, OwV W' base E B2 kk kk xs) (l1 : ∀ j, j < n → gI j < B1) (l2 : B1 < B2) :
    (∀ j, j < n + 2 → ∃ xs, OwV W' base E ((fun k => if k < n then gI k else if k = n then B1 else B2) j) kk kk xs) ∧ ∀ x y, x < n + 2 → y < n + 2 → (fun k => if k < n then gI k else if k = n then B1 else B2) x = (fun k => if k < n then gI k else if k = n then B1 else B2) y → x = y := by
  refine ⟨fun j hj => ?_, fun x y hx hy e => ?_⟩
  · by_cases a : j < n
    · simp only [if_pos a]; exact ho j a
    · by_cases b : j = n
      · simp only [if_neg a, if_pos b]; exact h1
      · simp only [if_neg a, if_neg b]; exact h2
  · dsimp only at e
    by_cases a : x < n <;> by_cases a' : y < n
    · rw [if_pos a, if_pos a'] at e; exact hi x y a a' e
    · have := l1 x a
      rw [if_pos a, if_neg a'] at e
      split at e <;> omega
    · have := l1 y a'
      rw [if_neg a, if_pos a'] at e
      split at e <;> omega
    · rw [if_neg a, if_neg a'] at e
      split at e <;> split at e <;> omega
set_option maxRecDepth 100000 in
set_option maxHeartbeats 4000000 in
theorem sameZono_any (u z : ZD) (w : World) (hu : ZU w u) (hz : ZR w z) (hs : SmZ u z) :
    Calls Try.prog 14 #[.agg (zRow u), .agg (zRow z)] w fun e w' => e = .returned (.bool true) ∧ Below w.heap.size w w' := by
  have X0 : Below w.heap.size w ((w.alloc (.cells (zRow u) 33)).alloc (.cells (zRow z) 26)) := ((Below.refl _ w).alloc (Nat.le_refl _) _).alloc (by simp only [alloc_size]; omega) _
  have Y0 : ((w.alloc (.cells (zRow u) 33)).alloc (.cells (zRow z) 26)).heap[w.heap.size]? = some (.cells (zRow u) 33) := alloc_kept (heap_alloc_new w _) _
  have Y1 : ((w.alloc (.cells (zRow u) 33)).alloc (.cells (zRow z) 26)).heap[w.heap.size + 1]? = some (.cells (zRow z) 26) := heap_at _ _ _ (by simp only [alloc_size])
  have HC : Hid (∀ W, Below w.heap.size w W → Calls Try.prog 30 #[.agg (zRow z), .agg (zRow u)] W fun e w' => e = .returned (.bool true) ∧ Below W.heap.size W w') := fun W hb => by
    refine Calls.mono (refSameZ_any z u W (hz.later hb) (hu.later hb)) ?_
    rintro e w' ⟨he, hb⟩
    exact ⟨by rw [he, (SmZ.self z).bits hs], hb⟩
  clear hz hu hs
  go_enter Try.func14, Try.ntmps14
  go_upto_region 1 with fail
  obtain ⟨X, hX⟩ : ∃ X, ((w.alloc (.cells (zRow u) 33)).alloc (.cells (zRow z) 26)) = X := ⟨_, rfl⟩
  rw [hX] at X0 Y0 Y1 ⊢
  clear hX
  go_wp2_with (first
    | (refine wpList_load_row (by rfl) 26 _ (by rfl) (w.heap.size + 1) _ (by rfl) Y1 _ Try.underlying26 rfl 6 Try.infoZL (by rfl) ?_)
    | (refine wpList_load_row (by rfl) 33 _ (by rfl) w.heap.size _ (by rfl) Y0 _ Try.underlying33 rfl 6 Try.infoZu (by rfl) ?_)
    | (go_at_call 30; refine Calls.mono (HC.out _ X0) ?_; rintro e w1 ⟨rfl, b1⟩))
  go_ret
  exact ⟨rfl, to_call X0 b1⟩
end Go.Proofs.Ytaloaholmhcflaa
