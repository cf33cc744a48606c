import Derived.Test.YtaadhjdbieoieaaSPLc
namespace Go.Proofs.Ytaadhjdbieoieaa
open Go.RowKit
set_option linter.unusedVariables false
set_option linter.unusedSimpArgs false
theorem and15 (n : Int) : ∃ N : Nat, bits .and .i64 n 15 = (N : Int) ∧ N ≤ 15 := by
  have h1 : (BitVec.ofInt 64 15).toNat = 2 ^ 4 - 1 := by decide
  have h2 : (BitVec.ofInt 64 n &&& BitVec.ofInt 64 15).toNat = (BitVec.ofInt 64 n).toNat % 2 ^ 4 := by
    rw [BitVec.toNat_and, h1, Nat.and_two_pow_sub_one_eq_mod]
  have h3 : (BitVec.ofInt 64 n).toNat % 2 ^ 4 < 16 := Nat.mod_lt _ (by decide)
  refine ⟨(BitVec.ofInt 64 n).toNat % 2 ^ 4, ?_, by omega⟩
  show IntKind.i64.wrap ((BitVec.ofInt 64 n &&& BitVec.ofInt 64 15).toNat : Nat) = _
  rw [h2]
  exact wrI _ (by omega)
theorem Try.infoRJ : (Try.prog.info? 24).map (fun i => (i.zero, i.size, i.bytes)) = some (some (.agg #[.slice none 0 0, .slice none 0 0]), 2, 48) := by kernel_rfl
def exN (g : Nat → Nat) (M : Nat) (xs : List Nat) (k : Nat) : Nat := if k < M then g k else xs[k - M]?.getD 0
theorem exN_lo {g : Nat → Nat} {M : Nat} {xs : List Nat} {k : Nat} (h : k < M) : exN g M xs k = g k := by unfold exN; rw [if_pos h]
theorem exN_hi {g : Nat → Nat} {M : Nat} {xs : List Nat} {k : Nat} (h : ¬ k < M) : exN g M xs k = xs[k - M]?.getD 0 := by unfold exN; rw [if_neg h]
theorem slL_exN (g c : Nat → Nat) (n M : Nat) (xs cs : List Nat) (h : xs.length = cs.length) : slL g c n M ++ (xs.zip cs).map (fun p => Value.slice (some ⟨p.1, 0, none⟩) n p.2) = slL (exN g M xs) (exN c M cs) n (M + xs.length) := by
  apply List.ext_getElem?
  intro k
  by_cases hk : k < M
  · rw [List.getElem?_append_left (by rw [slL_len]; exact hk), slL_at _ _ _ _ _ hk, slL_at _ _ _ _ _ (by omega), exN_lo hk, exN_lo hk]
  · rw [List.getElem?_append_right (by rw [slL_len]; omega), slL_len, List.getElem?_map]
    by_cases hk2 : k < M + xs.length
    · rw [slL_at _ _ _ _ _ hk2, exN_hi hk, exN_hi hk, List.getElem?_eq_getElem (by rw [List.length_zip]; omega), List.getElem_zip, List.getElem?_eq_getElem (by omega), List.getElem?_eq_getElem (by omega)]
      rfl
    · rw [List.getElem?_eq_none (by rw [List.length_zip]; omega), List.getElem?_eq_none (by rw [slL_len]; omega)]
      rfl
/-- What is kept: many lists, each in a block of its own. -/
structure KpS (w W : World) (P U n m : Nat) (kv : Value) (g c : Nat → Nat) (C : Nat → List Int) : Prop where
  b : Below w.heap.size w W
  o : W.ownsRow w.heap.size 24 2 kv m (slL g c n (2 * m))
  kb : ∀ q, kv.ownBlock = some q → q ≠ P ∧ q ≠ U
  f : ∀ k, k < 2 * m → OwL W w.heap.size (g k) n (c k) (C k)
  i : ∀ i j, i < 2 * m → j < 2 * m → g i = g j → i = j
theorem KpS.later {w W W' : World} {P U n m : Nat} {kv : Value} {g c : Nat → Nat} {C : Nat → List Int} (h : KpS w W P U n m kv g c C) (hb : Below W.heap.size W W') : KpS w W' P U n m kv g c C :=
  ⟨to_call h.b hb, owns_keep h.o fun k hk => hb.block k (World.ownsRow.lt h.o k hk).2, h.kb, fun k hk => (h.f k hk).later hb, h.i⟩
theorem KpS.stored {w W W' : World} {P U n m B : Nat} {kv : Value} {g c : Nat → Nat} {C : Nat → List Int} {cc : Array Value} (h : KpS w W P U n m kv g c C) (b : Below w.heap.size w W') (hBP : B = P ∨ B = U) (hB : W.heap[B]? = some (.cells cc 24)) (ho : ∀ k, k ≠ B → W'.heap[k]? = W.heap[k]?) : KpS w W' P U n m kv g c C :=
  ⟨b, owns_keep h.o fun k hk => ho k (by have := h.kb k hk; omega), h.kb, fun k hk => (h.f k hk).other ((h.f k hk).ty (by decide) hB) ho, h.i⟩
/-- The region that goes on. -/
structure RrS (w W : World) (P n R1 R2 k1 k2 : Nat) (ls bs : List Int) : Prop where
  v : W.heap[P]? = some (.cells #[.slice (some ⟨R1, 0, none⟩) n k1, .slice (some ⟨R2, 0, none⟩) n k2] 24)
  r1 : OwL W w.heap.size R1 n k1 ls
  r2 : OwL W w.heap.size R2 n k2 bs
  ne : R1 ≠ R2
theorem RrS.later {w W W' : World} {P n R1 R2 k1 k2 : Nat} {ls bs : List Int} (h : RrS w W P n R1 R2 k1 k2 ls bs) (hb : Below W.heap.size W W') : RrS w W' P n R1 R2 k1 k2 ls bs := ⟨kept hb h.v, h.r1.later hb, h.r2.later hb, h.ne⟩
theorem RrS.stored {w W W' : World} {P n R1 R2 k1 k2 B : Nat} {ls bs : List Int} {cc : Array Value} (h : RrS w W P n R1 R2 k1 k2 ls bs) (hne : P ≠ B) (hB : W.heap[B]? = some (.cells cc 24)) (ho : ∀ k, k ≠ B → W'.heap[k]? = W.heap[k]?) : RrS w W' P n R1 R2 k1 k2 ls bs :=
  ⟨(ho P hne).trans h.v, h.r1.other (h.r1.ty (by decide) hB) ho, h.r2.other (h.r2.ty (by decide) hB) ho, h.ne⟩
theorem SgV.stored {W W' : World} {Q n B : Nat} {u1 u2 : Option Addr} {k1 k2 : Nat} {ls bs : List Int} {o1 : Option Addr} {l1 c1 : Nat} {o2 : Option Addr} {l2 c2 : Nat} (h : SgV W Q n u1 u2 k1 k2 ls bs) (hne : Q ≠ B) (hB : W.heap[B]? = some (.cells #[.slice o1 l1 c1, .slice o2 l2 c2] 24)) (ho : ∀ k, k ≠ B → W'.heap[k]? = W.heap[k]?) : SgV W' Q n u1 u2 k1 k2 ls bs :=
  ⟨(ho Q hne).trans h.v, h.rl.stored hB ho, h.ra.stored hB ho⟩
/-- Two answers of Halve are the same. -/
theorem same_xx {W : World} {base base' n : Nat} {ls bs : List Int} {s : Int} {a1 a2 a3 a4 e1 e2 e3 e4 : Option Addr} {N M : Nat} (HX : HvX W base n ls bs s a1 a2 a3 a4 N) (HY : HvX W base' n ls bs s e1 e2 e3 e4 M) :
    (∀ V, Below W.heap.size W V → Calls Try.prog 11 #[.agg #[.slice a1 N N, .slice a2 N N], .agg #[.slice e1 M M, .slice e2 M M]] V fun e w' => e = .returned (.bool true) ∧ Below V.heap.size V w') ∧ (∀ V, Below W.heap.size W V → Calls Try.prog 11 #[.agg #[.slice a3 N N, .slice a4 N N], .agg #[.slice e3 M M, .slice e4 M M]] V fun e w' => e = .returned (.bool true) ∧ Below V.heap.size V w') := by
  refine same_xy (f1 := M) (f2 := M) (f3 := M) (f4 := M) HX ⟨fun h0 => ?_, fun h0 => ?_⟩
  · obtain ⟨hN, B1, B2, C1, C2, rfl, rfl, rfl, rfl, r1, r2, -⟩ := HY.ok h0
    obtain ⟨g1, -, -, -⟩ := HvE_zero h0
    have gl := regB_len g1
    exact ⟨hN, r1.rl (by rw [List.length_set]; omega) (by omega), r1.ra (by rw [List.length_set]; omega) (by omega), r2.rl (by rw [List.length_set]; omega) (by omega), r2.ra (by rw [List.length_set]; omega) (by omega)⟩
  · obtain ⟨rfl, rfl, rfl, rfl, rfl⟩ := HY.bad h0
    rfl
theorem all10 {p : Nat → Prop} (h0 : p 0) (h1 : p 1) (h2 : p 2) (h3 : p 3) (h4 : p 4) (h5 : p 5) (h6 : p 6) (h7 : p 7) (h8 : p 8) (h9 : p 9) : ∀ t, t < 10 → p t := by
  intro t ht
  match t, ht with
  | 0, _ => exact h0
  | 1, _ => exact h1
  | 2, _ => exact h2
  | 3, _ => exact h3
  | 4, _ => exact h4
  | 5, _ => exact h5
  | 6, _ => exact h6
  | 7, _ => exact h7
  | 8, _ => exact h8
  | 9, _ => exact h9
  | t + 10, h => omega
/-- Ten lists more. -/
theorem KpS.more {w W w' : World} {P U n m : Nat} {kv kv' : Value} {g c : Nat → Nat} {C : Nat → List Int} (S : KpS w W P U n m kv g c C) (xs cs : List Nat) (CS : List (List Int)) (hx : xs.length = 10) (hc : cs.length = 10)
    (hP : P < W.heap.size) (hU : U < W.heap.size)
    (hf : ∀ t, t < 10 → OwL W w.heap.size (xs[t]?.getD 0) n (cs[t]?.getD 0) (CS[t]?.getD [])) (hnd : xs.Nodup) (hold : ∀ k, k < 2 * m → ∀ x ∈ xs, g k ≠ x)
    (o' : w'.ownsRow w.heap.size 24 2 kv' (m + 5) (slL g c n (2 * m) ++ (xs.zip cs).map (fun p => Value.slice (some ⟨p.1, 0, none⟩) n p.2))) (g' : Grx W w' kv.ownBlock kv'.ownBlock) :
    KpS w w' P U n (m + 5) kv' (exN g (2 * m) xs) (exN c (2 * m) cs) (fun k => if k < 2 * m then C k else CS[k - 2 * m]?.getD []) ∧ (∀ k, k < W.heap.size → (∀ q, kv.ownBlock = some q → k ≠ q) → w'.heap[k]? = W.heap[k]?) ∧ W.heap.size ≤ w'.heap.size := by
  have G := g'.grw.by'
  have keep : ∀ k, k < W.heap.size → (∀ q, kv.ownBlock = some q → k ≠ q) → w'.heap[k]? = W.heap[k]? := fun k hk hne => G.block k hk fun hc => hne k hc.symm rfl
  have ints : ∀ {b N cc : Nat} {is : List Int}, OwL W w.heap.size b N cc is → ∀ q, kv.ownBlock = some q → b ≠ q := by
    intro b N cc is hb q hq hc
    subst hc
    obtain ⟨_, _, _, _, cur, h1, _⟩ := hb.get
    rcases S.o.2 with ⟨h2, _⟩ | ⟨q', cap, cur', h2, _, h3, _⟩
    · rw [h2] at hq; cases hq
    · rw [h2] at hq
      cases hq
      rw [h1] at h3
      injection h3 with h3
      injection h3 with _ h3
      exact absurd h3 (by decide)
  have own : ∀ {b N cc : Nat} {is : List Int}, OwL W w.heap.size b N cc is → OwL w' w.heap.size b N cc is := fun h => h.keep (keep _ h.lt (ints h))
  refine ⟨⟨?_, ?_, ?_, ?_, ?_⟩, keep, G.size⟩
  · exact S.b.trans (g'.grw.below (fun k hk => (World.ownsRow.lt S.o k hk).1) S.b.size)
  · have h := slL_exN g c n (2 * m) xs cs (by omega)
    rw [h, hx] at o'
    rw [show 2 * (m + 5) = 2 * m + 10 by omega]
    exact o'
  · intro q hq
    rcases g' with ⟨_, e⟩ | ⟨_, e⟩
    · exact S.kb q (e ▸ hq)
    · have := e q hq
      omega
  · intro k hk
    by_cases h : k < 2 * m
    · rw [exN_lo h, exN_lo h]
      simp only [if_pos h]
      exact own (S.f k h)
    · rw [exN_hi h, exN_hi h]
      simp only [if_neg h]
      exact own (hf (k - 2 * m) (by omega))
  · have mem : ∀ t, t < 10 → xs[t]?.getD 0 ∈ xs := fun t ht => by rw [List.getElem?_eq_getElem (by omega)]; exact List.getElem_mem _
    intro i j hi hj he
    by_cases h : i < 2 * m
    · by_cases h' : j < 2 * m
      · rw [exN_lo h, exN_lo h'] at he
        exact S.i i j h h' he
      · rw [exN_lo h, exN_hi h'] at he
        exact absurd he (hold i h _ (mem _ (by omega)))
    · by_cases h' : j < 2 * m
      · rw [exN_hi h, exN_lo h'] at he
        exact absurd he.symm (hold j h' _ (mem _ (by omega)))
      · rw [exN_hi h, exN_hi h', List.getElem?_eq_getElem (by omega), List.getElem?_eq_getElem (by omega)] at he
        have he2 : xs[i - 2 * m]? = xs[j - 2 * m]? := by
          rw [List.getElem?_eq_getElem (by omega), List.getElem?_eq_getElem (by omega)]
          exact congrArg some he
        have := (List.getElem?_inj (i := i - 2 * m) (by omega) hnd).1 he2
        omega
theorem kv_open {W : World} {base : Nat} {kv : Value} {m n : Nat} {g c : Nat → Nat} (h : W.ownsRow base 24 2 kv m (slL g c n (2 * m))) : ∃ ko kc, kv = .slice ko m kc ∧ (m = 0 ∨ ∃ q qo, ko = some ⟨q, qo, none⟩ ∧ ∀ i, i < m → W.cell? ⟨q, qo + i * 2, none⟩ = some (.slice (some ⟨g (2 * i), 0, none⟩) n (c (2 * i))) ∧ W.cell? ⟨q, qo + i * 2 + 1, none⟩ = some (.slice (some ⟨g (2 * i + 1), 0, none⟩) n (c (2 * i + 1)))) := by
  have hs := h
  rcases h.2 with ⟨rfl, rfl⟩ | ⟨q, cap, cur, rfl, hlo, hh, h1, h2, h3, h4⟩
  · exact ⟨none, 0, rfl, .inl rfl⟩
  · refine ⟨_, cap, rfl, .inr ⟨q, 0, rfl, fun i hi => ⟨?_, ?_⟩⟩⟩
    · have := World.ownsRow.cellAt hs (i * 2) (by omega)
      rw [show i * 2 = 2 * i by omega, slL_at _ _ _ _ _ (by omega)] at this
      rw [Nat.zero_add, show i * 2 = 2 * i by omega]
      exact this
    · have := World.ownsRow.cellAt hs (i * 2 + 1) (by omega)
      rw [show i * 2 + 1 = 2 * i + 1 by omega, slL_at _ _ _ _ _ (by omega)] at this
      rw [Nat.zero_add, show i * 2 + 1 = 2 * i + 1 by omega]
      exact this
theorem hv_lt {W : World} {base n : Nat} {ls bs : List Int} {s : Int} {D1 D2 C1 C2 N : Nat} (h : HvX W base n ls bs s (some ⟨D1, 0, none⟩) (some ⟨D2, 0, none⟩) (some ⟨C1, 0, none⟩) (some ⟨C2, 0, none⟩) N) (h0 : HvE ls bs n s = 0) : D1 < W.heap.size ∧ D2 < W.heap.size ∧ C1 < W.heap.size ∧ C2 < W.heap.size := by
  obtain ⟨_, E1, E2, E3, E4, e1, e2, e3, e4, r1, r2, _⟩ := h.ok h0
  cases e1; cases e2; cases e3; cases e4
  exact ⟨blk_lt r1.l, blk_lt r1.a, blk_lt r2.l, blk_lt r2.a⟩
theorem one_ten {l : List (Nat × Nat)} {n : Nat} : ∀ u ∈ l.map (fun p => Value.slice (some ⟨p.1, 0, none⟩) n p.2), u.oneCell' = true := by
  intro u hu
  obtain ⟨p, -, rfl⟩ := List.mem_map.1 hu
  rfl
/-- The lists of an answer of Halve. -/
theorem owl_hv {W : World} {base n D1 D2 : Nat} {l b : List Int} (h : RgO W base D1 D2 l b) (h1 : l.length = n) (h2 : b.length = n) (hn : n ≤ 256) : OwL W base D1 n n l ∧ OwL W base D2 n n b := by
  subst h1
  refine ⟨OwL.of_rg h.b1 (Nat.le_trans hn (by decide)) h.l, ?_⟩
  rw [← h2]
  exact OwL.of_rg h.b2 (Nat.le_trans (by omega) (show 256 ≤ maxLen by decide)) h.a
end Go.Proofs.Ytaadhjdbieoieaa
