import Derived.Test.YtokglpemefkmjaaRMx
import Derived.Test.YtokglpemefkmjaaRMu
import Derived.Test.YtokglpemefkmjaaRMr
import Derived.Test.YtokglpemefkmjaaRMp
namespace Go.Proofs.Ytokglpemefkmjaa
open Go.RowKit
set_option linter.unusedVariables false
set_option linter.unusedSimpArgs false
/-- A sum over a list. -/
def SL {α : Type} (f : α → Int) : List α → Int
  | [] => 0
  | a :: l => f a + SL f l
theorem SL_append {α : Type} (f : α → Int) : ∀ l m : List α, SL f (l ++ m) = SL f l + SL f m
  | [], m => by simp [SL]
  | a :: l, m => by rw [List.cons_append, SL, SL, SL_append f l m, Int.add_assoc]
theorem SL_map {α β : Type} (f : β → Int) (g : α → β) : ∀ l : List α, SL f (l.map g) = SL (fun a => f (g a)) l
  | [] => rfl
  | a :: l => by rw [List.map_cons, SL, SL, SL_map f g l]
theorem SL_flat {α β : Type} (f : β → Int) (g : α → List β) : ∀ l : List α, SL f (l.flatMap g) = SL (fun a => SL f (g a)) l
  | [] => rfl
  | a :: l => by rw [List.flatMap_cons, SL_append, SL, SL_flat f g l]
theorem SL_congr {α : Type} {f g : α → Int} : ∀ {l : List α}, (∀ a ∈ l, f a = g a) → SL f l = SL g l
  | [], _ => rfl
  | a :: l, h => by rw [SL, SL, h a (List.mem_cons_self ..), SL_congr (l := l) fun b hb => h b (List.mem_cons_of_mem _ hb)]
theorem Sg_congr {t u : Nat → Int} : ∀ {n : Nat}, (∀ k, k < n → t k = u k) → Sg t n = Sg u n
  | 0, _ => rfl
  | n + 1, h => by rw [Sg, Sg, Sg_congr (n := n) fun k hk => h k (by omega), h n (by omega)]
theorem Sg_zero {t : Nat → Int} : ∀ {n : Nat}, (∀ k, k < n → t k = 0) → Sg t n = 0
  | 0, _ => rfl
  | n + 1, h => by rw [Sg, Sg_zero (n := n) fun k hk => h k (by omega), h n (by omega)]; rfl
theorem Sg_add (t u : Nat → Int) : ∀ n : Nat, Sg (fun k => t k + u k) n = Sg t n + Sg u n
  | 0 => rfl
  | n + 1 => by rw [Sg, Sg, Sg, Sg_add t u n]; omega
theorem Sg_swap (t : Nat → Nat → Int) (m : Nat) : ∀ n : Nat, Sg (fun i => Sg (t i) m) n = Sg (fun j => Sg (fun i => t i j) n) m
  | 0 => (Sg_zero fun k _ => rfl).symm
  | n + 1 => by
    show Sg (fun i => Sg (t i) m) n + Sg (t n) m = _
    rw [Sg_swap t m n, ← Sg_add]
    rfl
theorem Sg_take {α : Type} {l : List α} {f : α → Int} {t : Nat → Int} (h : ∀ k a, l[k]? = some a → t k = f a) : ∀ n : Nat, n ≤ l.length → SL f (l.take n) = Sg t n
  | 0, _ => rfl
  | n + 1, hn => by
    rw [List.take_add_one, SL_append, Sg_take h n (by omega), Sg]
    have hg : l[n]? = some l[n] := List.getElem?_eq_getElem (by omega)
    rw [hg, h n _ hg]
    simp [SL]
theorem Sg_list {α : Type} {l : List α} {f : α → Int} {t : Nat → Int} (h : ∀ k a, l[k]? = some a → t k = f a) : Sg t l.length = SL f l := by
  have := Sg_take h l.length (Nat.le_refl _)
  rw [List.take_length] at this
  exact this.symm
theorem SL_one {α : Type} (f : α → Int) (a : α) : SL f [a] = f a := by simp [SL]
/-- What lies outside counts for nothing. -/
theorem clip (F : Int → Int) (H : Int) (hF : ∀ y, ¬ (0 ≤ y ∧ y < H) → F y = 0) (y0 : Int) : ∀ n : Nat, SL F (upto (max y0 0) (min (y0 + (n : Int)) H)) = Sg (fun p => F (y0 + (p : Int))) n
  | 0 => by rw [upto_none (by omega)]; rfl
  | n + 1 => by
    have ih := clip F H hF y0 n
    rw [Sg, ← ih]
    obtain ⟨e, he⟩ : ∃ e, y0 + (n : Int) = e := ⟨_, rfl⟩
    have he1 : y0 + ((n + 1 : Nat) : Int) = e + 1 := by omega
    rw [he1, he]
    by_cases h1 : e < 0
    · rw [hF e (by omega), upto_none (by omega), upto_none (by omega)]; rfl
    by_cases h2 : H ≤ e
    · rw [hF e (by omega), show min (e + 1) H = H by omega, show min e H = H by omega]; omega
    · rw [show min (e + 1) H = e + 1 by omega, show min e H = e by omega, upto_snoc (by omega), SL_append, SL_one]
theorem upto_Sg (f : Int → Int) : ∀ n : Nat, SL f (upto 0 (n : Int)) = Sg (fun c => f (c : Int)) n
  | 0 => by rw [upto_none (by omega)]; rfl
  | n + 1 => by
    rw [show ((n + 1 : Nat) : Int) = (n : Int) + 1 by omega, upto_snoc (by omega), SL_append, SL_one, upto_Sg f n]
    rfl
theorem SL_xs (G : P3 → Int) (c y x0 x1 : Int) : SL G (xsP c y x0 x1) = SL (fun x => G (c, y, x)) (upto x0 x1) := by unfold xsP; rw [SL_map]
theorem SL_ys (G : P3 → Int) (c y0 y1 x0 x1 : Int) : SL G (ysP c y0 y1 x0 x1) = SL (fun y => SL (fun x => G (c, y, x)) (upto x0 x1)) (upto y0 y1) := by
  unfold ysP
  rw [SL_flat]
  exact SL_congr fun y _ => SL_xs G c y x0 x1
/-- A clipped window's sum. -/
theorem win_sum (F : P3 → Int) (H K : Int) (hF : ∀ c y x, ¬ (0 ≤ y ∧ y < H) ∨ ¬ (0 ≤ x ∧ x < K) → F (c, y, x) = 0) (c y0 x0 : Int) (KH KW : Nat) :
    SL F (ysP c (max y0 0) (min (y0 + (KH : Int)) H) (max x0 0) (min (x0 + (KW : Int)) K)) = Sg (fun p => Sg (fun q => F (c, y0 + (p : Int), x0 + (q : Int))) KW) KH := by
  rw [SL_ys]
  have h1 : ∀ y, SL (fun x => F (c, y, x)) (upto (max x0 0) (min (x0 + (KW : Int)) K)) = Sg (fun q => F (c, y, x0 + (q : Int))) KW := fun y => clip (fun x => F (c, y, x)) K (fun x hx => hF c y x (.inr hx)) x0 KW
  rw [SL_congr (g := fun y => Sg (fun q => F (c, y, x0 + (q : Int))) KW) fun y _ => h1 y]
  exact clip (fun y => Sg (fun q => F (c, y, x0 + (q : Int))) KW) H (fun y hy => Sg_zero fun q _ => hF c y _ (.inl hy)) y0 KH
theorem cs_sum (F : P3 → Int) (H K : Int) (hF : ∀ c y x, ¬ (0 ≤ y ∧ y < H) ∨ ¬ (0 ≤ x ∧ x < K) → F (c, y, x) = 0) (C : Nat) (y0 x0 : Int) (KH KW : Nat) :
    SL F (csP 0 (C : Int) (max y0 0) (min (y0 + (KH : Int)) H) (max x0 0) (min (x0 + (KW : Int)) K)) = Sg (fun p => Sg (fun q => Sg (fun c => F ((c : Int), y0 + (p : Int), x0 + (q : Int))) C) KW) KH := by
  unfold csP
  rw [SL_flat, upto_Sg]
  rw [Sg_congr (u := fun c => Sg (fun p => Sg (fun q => F ((c : Int), y0 + (p : Int), x0 + (q : Int))) KW) KH) fun c _ => win_sum F H K hF (c : Int) y0 x0 KH KW]
  rw [Sg_swap (fun c p => Sg (fun q => F ((c : Int), y0 + (p : Int), x0 + (q : Int))) KW) KH C]
  exact Sg_congr fun p _ => Sg_swap (fun c q => F ((c : Int), y0 + (p : Int), x0 + (q : Int))) KW C
theorem c1_sum (F : P3 → Int) (H K : Int) (hF : ∀ c y x, ¬ (0 ≤ y ∧ y < H) ∨ ¬ (0 ≤ x ∧ x < K) → F (c, y, x) = 0) (c y0 x0 : Int) (KH KW : Nat) :
    SL F (csP c (c + 1) (max y0 0) (min (y0 + (KH : Int)) H) (max x0 0) (min (x0 + (KW : Int)) K)) = Sg (fun p => Sg (fun q => F (c, y0 + (p : Int), x0 + (q : Int))) KW) KH := by
  unfold csP
  rw [upto_snoc (Int.le_refl c), upto_none (Int.le_refl c), List.nil_append, List.flatMap_cons, List.flatMap_nil, List.append_nil]
  exact win_sum F H K hF c y0 x0 KH KW
theorem one_at {α : Type} (x d : α) : [x][0]?.getD d = x := rfl
theorem app2 {α : Type} (l : List α) (n : Nat) (hl : l.length = 2 * n) (x y d : α) : (l ++ [x, y])[2 * n]?.getD d = x ∧ (l ++ [x, y])[2 * n + 1]?.getD d = y := by
  constructor
  · rw [List.getElem?_append_right (by omega), hl, show 2 * n - 2 * n = 0 by omega]; rfl
  · rw [List.getElem?_append_right (by omega), hl, show 2 * n + 1 - 2 * n = 1 by omega]; rfl
theorem app_lo {α : Type} (l m : List α) (k : Nat) (h : k < l.length) (d : α) : (l ++ m)[k]?.getD d = l[k]?.getD d := by rw [List.getElem?_append_left h]
theorem map_at {α : Type} (f : Nat → α) {p j : Nat} (h : j < p) (d : α) : ((List.range p).map f)[j]?.getD d = f j := by
  rw [List.getElem?_map, List.getElem?_range h]
  rfl
/-- A row against what is wanted. -/
structure RowG (n : Nat) (vs : List Int) (xs : List Int) (ws : List Nat) (b : Nat) (t : Int) : Prop where
  len : ws.length = xs.length
  le : xs.length ≤ 256
  lt : ∀ u ∈ ws, u < 18446744073709551616
  rise : xs.Pairwise (· < ·)
  mem : ∀ x ∈ xs, 0 ≤ x ∧ x < (n : Int)
  sum : ∃ (bz : Int) (zs : Nat → Int), FW b bz ∧ (-9 ≤ bz ∧ bz ≤ 9) ∧ (∀ k, k < xs.length → FW (ws[k]?.getD 0) (zs k) ∧ (-9 ≤ zs k ∧ zs k ≤ 9)) ∧ bz + Sg (fun k => zs k * vs[(xs[k]?.getD 0).toNat]?.getD 0) xs.length = t
theorem fw_flZ {z : Int} (h : -9 ≤ z ∧ z ≤ 9) : FW (flZ z) z := fw_int z (lt53 (m := 1000) (by omega) (by omega))
theorem tuZ_opp : ∀ n : _root_.Fin 19, FloatKind.f64.decode (tuZ ((n : Nat) - 9 : Int)) = (FloatKind.f64.decode (flZ ((n : Nat) - 9 : Int))).opposite := by decide +kernel
theorem fw_tuZ {z : Int} (h : -9 ≤ z ∧ z ≤ 9) : FW (tuZ z) (-z) := by
  have hb := tuZ_opp ⟨(z + 9).toNat, by omega⟩
  rw [show (((⟨(z + 9).toNat, by omega⟩ : _root_.Fin 19) : Nat) - 9 : Int) = z by simp; omega] at hb
  unfold FW
  rw [hb]
  exact dw_opp (fw_flZ h)
theorem rowG_map {n : Nat} {vs : List Int} {ps : List P3} {ix : P3 → Int} {wf : P3 → Nat} {zf : P3 → Int} {bz t : Int} (hw : ∀ p ∈ ps, wf p = flZ (zf p)) (hz : ∀ p, -9 ≤ zf p ∧ zf p ≤ 9) (hb : -9 ≤ bz ∧ bz ≤ 9) (le : ps.length ≤ 256) (rise : (ps.map ix).Pairwise (· < ·)) (mem : ∀ p ∈ ps, 0 ≤ ix p ∧ ix p < (n : Int)) (sum : bz + SL (fun p => zf p * vs[(ix p).toNat]?.getD 0) ps = t) :
    RowG n vs (ps.map ix) (ps.map wf) (flZ bz) t where
  len := by rw [List.length_map, List.length_map]
  le := by rw [List.length_map]; exact le
  lt := fun u hu => by
    obtain ⟨p, hp, rfl⟩ := List.mem_map.1 hu
    rw [hw p hp]
    exact (flZ_lt (hz p)).1
  rise := rise
  mem := fun x hx => by
    obtain ⟨p, hp, rfl⟩ := List.mem_map.1 hx
    exact mem p hp
  sum := by
    refine ⟨bz, fun k => zf (ps[k]?.getD (0, 0, 0)), fw_flZ hb, hb, fun k hk => ?_, ?_⟩
    · rw [List.length_map] at hk
      show FW ((ps.map wf)[k]?.getD 0) (zf (ps[k]?.getD (0, 0, 0))) ∧ (-9 ≤ zf (ps[k]?.getD (0, 0, 0)) ∧ zf (ps[k]?.getD (0, 0, 0)) ≤ 9)
      rw [List.getElem?_map, List.getElem?_eq_getElem hk, Option.map_some, Option.getD_some, Option.getD_some, hw _ (List.getElem_mem hk)]
      exact ⟨fw_flZ (hz _), hz _⟩
    · rw [← sum, List.length_map]
      congr 1
      refine Sg_list fun k a hk => ?_
      show zf (ps[k]?.getD (0, 0, 0)) * vs[((ps.map ix)[k]?.getD 0).toNat]?.getD 0 = _
      rw [List.getElem?_map, hk, Option.map_some, Option.getD_some, Option.getD_some]
theorem idx_at {n k : Nat} (h : k < n) : (idx n)[k]?.getD 0 = (k : Int) := by
  unfold idx
  rw [List.getElem?_map, List.getElem?_range h]
  rfl
theorem idx_rise (n : Nat) : (idx n).Pairwise (· < ·) := by
  unfold idx
  rw [List.pairwise_map]
  exact List.pairwise_lt_range.imp fun h => by omega
theorem rowG_idx {n : Nat} {vs : List Int} {ws : List Nat} {zs : Nat → Int} {b : Nat} {bz t : Int} (hl : ws.length = n) (hn : n ≤ 256) (lt : ∀ u ∈ ws, u < 18446744073709551616) (hw : ∀ k, k < n → FW (ws[k]?.getD 0) (zs k) ∧ (-9 ≤ zs k ∧ zs k ≤ 9)) (hb : FW b bz) (hbz : -9 ≤ bz ∧ bz ≤ 9) (sum : bz + Sg (fun k => zs k * vs[k]?.getD 0) n = t) :
    RowG n vs (idx n) ws b t where
  len := by rw [idx_len]; exact hl
  le := by rw [idx_len]; exact hn
  lt := lt
  rise := idx_rise n
  mem := fun x hx => by
    unfold idx at hx
    obtain ⟨k, hk, rfl⟩ := List.mem_map.1 hx
    have := List.mem_range.1 hk
    omega
  sum := by
    refine ⟨bz, zs, hb, hbz, fun k hk => hw k (by rw [idx_len] at hk; exact hk), ?_⟩
    rw [← sum, idx_len]
    congr 1
    refine Sg_congr fun k hk => ?_
    rw [idx_at hk]
    rfl
/-- Dense. -/
theorem dsZ_Sg (seed : Int) (vs : List Int) (n i : Nat) : ∀ j : Nat, smallZ seed (5 * (i : Int) + 1) + Sg (fun k => smallZ seed (3 * ((i * n + k : Nat) : Int)) * vs[k]?.getD 0) j = dsZ seed vs n i j
  | 0 => by unfold dsZ; exact Int.add_zero _
  | j + 1 => by unfold dsZ; rw [Sg, ← Int.add_assoc, dsZ_Sg seed vs n i j]
theorem pk_at {us : List Nat} {s n k : Nat} (h : k < n) : (pk us s n)[k]?.getD 0 = us[s + k]?.getD 0 := by
  unfold pk
  rw [List.getElem?_map, List.getElem?_range h]
  rfl
theorem rowG_dense (seed : Int) (vs : List Int) {n o L i : Nat} (hL : o * n = L) (hn : n ≤ 256) (hi : i < o) : RowG n vs (idx n) (pk (wL seed L) (i * n) n) ((bL seed o)[i]?.getD 0) ((plD seed vs n o)[i]?.getD 0) := by
  have hk : ∀ k, k < n → i * n + k < L := fun k hk => by rw [← hL]; exact step_lt hi hk
  rw [bL_at seed hi]
  have hw : ∀ k, k < n → (pk (wL seed L) (i * n) n)[k]?.getD 0 = flZ (smallZ seed (3 * ((i * n + k : Nat) : Int))) := fun k h => by rw [pk_at h, wL_at seed (hk k h)]
  refine rowG_idx (zs := fun k => smallZ seed (3 * ((i * n + k : Nat) : Int))) (pk_len _ _ _) hn (fun u hu => ?_) (fun k h => ?_) (fw_flZ (smallZ_bd _ _)) (smallZ_bd _ _) ?_
  · unfold pk at hu
    obtain ⟨k, h, rfl⟩ := List.mem_map.1 hu
    rw [wL_at seed (hk k (List.mem_range.1 h))]
    exact (flZ_lt (smallZ_bd _ _)).1
  · rw [hw k h]
    exact ⟨fw_flZ (smallZ_bd _ _), smallZ_bd _ _⟩
  · rw [dsZ_Sg]
    unfold plD
    rw [map_at _ hi]
/-- A scale. -/
theorem rowG_scale (seed : Int) (vs : List Int) {c m n i : Nat} (hm : 1 ≤ m) (hn : c * m = n) (hn2 : n ≤ 256) (hi : i < n) : RowG n vs [(i : Int)] [(wL seed c)[i / m]?.getD 0] ((bL seed c)[i / m]?.getD 0) ((plS seed vs m n)[i]?.getD 0) := by
  have hq : i / m < c := (Nat.div_lt_iff_lt_mul hm).2 (by rw [hn]; exact hi)
  rw [wL_at seed hq, bL_at seed hq]
  refine ⟨rfl, by simp, fun u hu => ?_, List.pairwise_singleton _ _, fun x hx => ?_, smallZ seed (5 * ((i / m : Nat) : Int) + 1), fun _ => smallZ seed (3 * ((i / m : Nat) : Int)), fw_flZ (smallZ_bd _ _), smallZ_bd _ _, fun k hk => ?_, ?_⟩
  · obtain rfl := List.mem_singleton.1 hu
    exact (flZ_lt (smallZ_bd _ _)).1
  · obtain rfl := List.mem_singleton.1 hx
    omega
  · obtain rfl : k = 0 := by simp at hk; exact hk
    rw [one_at]
    exact ⟨fw_flZ (smallZ_bd _ _), smallZ_bd _ _⟩
  · unfold plS
    rw [map_at _ hi, List.length_singleton, Sg, Sg, one_at, Int.zero_add, Int.toNat_natCast, Int.add_comm]
/-- A turn. -/
theorem twE_at (fz gz : Nat → Int) (lo : Nat) : ∀ {p j : Nat}, j < p → (twE fz gz lo p)[2 * j]?.getD 0 = flZ (fz (lo + j)) ∧ (twE fz gz lo p)[2 * j + 1]?.getD 0 = tuZ (gz (lo + j))
  | p + 1, j, h => by
    rw [twE_snoc]
    by_cases hj : j < p
    · have ih := twE_at fz gz lo hj
      rw [app_lo _ _ _ (by rw [twE_len]; omega), app_lo _ _ _ (by rw [twE_len]; omega)]
      exact ih
    · obtain rfl : j = p := by omega
      exact app2 _ j (twE_len fz gz lo j) _ _ 0
theorem twO_at (fz gz : Nat → Int) (lo : Nat) : ∀ {p j : Nat}, j < p → (twO fz gz lo p)[2 * j]?.getD 0 = flZ (gz (lo + j)) ∧ (twO fz gz lo p)[2 * j + 1]?.getD 0 = flZ (fz (lo + j))
  | p + 1, j, h => by
    rw [twO_snoc]
    by_cases hj : j < p
    · have ih := twO_at fz gz lo hj
      rw [app_lo _ _ _ (by rw [twO_len]; omega), app_lo _ _ _ (by rw [twO_len]; omega)]
      exact ih
    · obtain rfl : j = p := by omega
      exact app2 _ j (twO_len fz gz lo j) _ _ 0
theorem twE_lt {fz gz : Nat → Int} (h1 : ∀ j, -9 ≤ fz j ∧ fz j ≤ 9) (h2 : ∀ j, -9 ≤ gz j ∧ gz j ≤ 9) (lo : Nat) : ∀ p, ∀ u ∈ twE fz gz lo p, u < 18446744073709551616
  | 0, u, h => by cases h
  | p + 1, u, h => by
    rw [twE_snoc] at h
    simp only [List.mem_append, List.mem_singleton] at h
    rcases h with h | rfl | rfl
    · exact twE_lt h1 h2 lo p u h
    · exact (flZ_lt (h1 _)).1
    · exact (tuZ_ok (h2 _)).2.1
theorem twO_lt {fz gz : Nat → Int} (h1 : ∀ j, -9 ≤ fz j ∧ fz j ≤ 9) (h2 : ∀ j, -9 ≤ gz j ∧ gz j ≤ 9) (lo : Nat) : ∀ p, ∀ u ∈ twO fz gz lo p, u < 18446744073709551616
  | 0, u, h => by cases h
  | p + 1, u, h => by
    rw [twO_snoc] at h
    simp only [List.mem_append, List.mem_singleton] at h
    rcases h with h | rfl | rfl
    · exact twO_lt h1 h2 lo p u h
    · exact (flZ_lt (h2 _)).1
    · exact (flZ_lt (h1 _)).1
def zE (fz gz : Nat → Int) (lo k : Nat) : Int := if k % 2 = 0 then fz (lo + k / 2) else -gz (lo + k / 2)
def zO (fz gz : Nat → Int) (lo k : Nat) : Int := if k % 2 = 0 then gz (lo + k / 2) else fz (lo + k / 2)
theorem zE_0 (fz gz : Nat → Int) (lo j : Nat) : zE fz gz lo (2 * j) = fz (lo + j) := by unfold zE; rw [if_pos (by omega), show 2 * j / 2 = j by omega]
theorem zE_1 (fz gz : Nat → Int) (lo j : Nat) : zE fz gz lo (2 * j + 1) = -gz (lo + j) := by unfold zE; rw [if_neg (by omega), show (2 * j + 1) / 2 = j by omega]
theorem zO_0 (fz gz : Nat → Int) (lo j : Nat) : zO fz gz lo (2 * j) = gz (lo + j) := by unfold zO; rw [if_pos (by omega), show 2 * j / 2 = j by omega]
theorem zO_1 (fz gz : Nat → Int) (lo j : Nat) : zO fz gz lo (2 * j + 1) = fz (lo + j) := by unfold zO; rw [if_neg (by omega), show (2 * j + 1) / 2 = j by omega]
theorem tsE_Sg (fz gz fy gy : Nat → Int) (vs : List Int) (p q : Nat) : ∀ j : Nat, fy q + Sg (fun k => zE fz gz (q * p) k * vs[k]?.getD 0) (2 * j) = (tsZ fz gz fy gy vs p q j).1
  | 0 => Int.add_zero _
  | j + 1 => by
    have ih := tsE_Sg fz gz fy gy vs p q j
    rw [show 2 * (j + 1) = 2 * j + 1 + 1 from rfl, Sg, Sg, zE_0, zE_1]
    show _ = (tsZ fz gz fy gy vs p q j).1 + (_ - _)
    rw [← ih, Int.neg_mul]
    omega
theorem tsO_Sg (fz gz fy gy : Nat → Int) (vs : List Int) (p q : Nat) : ∀ j : Nat, gy q + Sg (fun k => zO fz gz (q * p) k * vs[k]?.getD 0) (2 * j) = (tsZ fz gz fy gy vs p q j).2
  | 0 => Int.add_zero _
  | j + 1 => by
    have ih := tsO_Sg fz gz fy gy vs p q j
    rw [show 2 * (j + 1) = 2 * j + 1 + 1 from rfl, Sg, Sg, zO_0, zO_1]
    show _ = (tsZ fz gz fy gy vs p q j).2 + (_ + _)
    rw [← ih]
    omega
theorem plT_at (fz gz fy gy : Nat → Int) (vs : List Int) (p : Nat) : ∀ {o q : Nat}, q < o → (plT fz gz fy gy vs p o)[2 * q]?.getD 0 = (tsZ fz gz fy gy vs p q p).1 ∧ (plT fz gz fy gy vs p o)[2 * q + 1]?.getD 0 = (tsZ fz gz fy gy vs p q p).2
  | o + 1, q, h => by
    unfold plT
    by_cases hq : q < o
    · have ih := plT_at fz gz fy gy vs p hq
      rw [app_lo _ _ _ (by rw [plT_len]; omega), app_lo _ _ _ (by rw [plT_len]; omega)]
      exact ih
    · obtain rfl : q = o := by omega
      exact app2 _ q (plT_len fz gz fy gy vs p q) _ _ 0
theorem rowG_turn {fz gz fy gy : Nat → Int} (vs : List Int) (h1 : ∀ j, -9 ≤ fz j ∧ fz j ≤ 9) (h2 : ∀ j, -9 ≤ gz j ∧ gz j ≤ 9) (h3 : ∀ j, -9 ≤ fy j ∧ fy j ≤ 9) (h4 : ∀ j, -9 ≤ gy j ∧ gy j ≤ 9) {n p o i : Nat} (hn : n = 2 * p) (hn2 : n ≤ 256) (hi : i < 2 * o) :
    RowG n vs (idx n) (if i % 2 = 0 then twE fz gz (i / 2 * p) p else twO fz gz (i / 2 * p) p) (if i % 2 = 0 then flZ (fy (i / 2)) else flZ (gy (i / 2))) ((plT fz gz fy gy vs p o)[i]?.getD 0) := by
  obtain ⟨q, hq⟩ : ∃ q, i / 2 = q := ⟨_, rfl⟩
  have hqo : q < o := by omega
  rw [hq]
  by_cases he : i % 2 = 0
  · rw [if_pos he, if_pos he]
    refine rowG_idx (zs := zE fz gz (q * p)) (by rw [twE_len, hn]) hn2 (twE_lt h1 h2 _ _) (fun k hk => ?_) (fw_flZ (h3 q)) (h3 q) ?_
    · obtain ⟨j, hj⟩ : ∃ j, k / 2 = j := ⟨_, rfl⟩
      have ha := twE_at fz gz (q * p) (p := p) (j := j) (by omega)
      by_cases hk2 : k % 2 = 0
      · obtain rfl : k = 2 * j := by omega
        rw [ha.1, zE_0]
        exact ⟨fw_flZ (h1 _), h1 _⟩
      · obtain rfl : k = 2 * j + 1 := by omega
        rw [ha.2, zE_1]
        exact ⟨fw_tuZ (h2 _), by have := h2 (q * p + j); omega⟩
    · rw [hn, tsE_Sg fz gz fy gy, show i = 2 * q by omega, (plT_at fz gz fy gy vs p hqo).1]
  · rw [if_neg he, if_neg he]
    refine rowG_idx (zs := zO fz gz (q * p)) (by rw [twO_len, hn]) hn2 (twO_lt h1 h2 _ _) (fun k hk => ?_) (fw_flZ (h4 q)) (h4 q) ?_
    · obtain ⟨j, hj⟩ : ∃ j, k / 2 = j := ⟨_, rfl⟩
      have ha := twO_at fz gz (q * p) (p := p) (j := j) (by omega)
      by_cases hk2 : k % 2 = 0
      · obtain rfl : k = 2 * j := by omega
        rw [ha.1, zO_0]
        exact ⟨fw_flZ (h2 _), h2 _⟩
      · obtain rfl : k = 2 * j + 1 := by omega
        rw [ha.2, zO_1]
        exact ⟨fw_flZ (h1 _), h1 _⟩
    · rw [hn, tsO_Sg fz gz fy gy, show i = 2 * q + 1 by omega, (plT_at fz gz fy gy vs p hqo).2]
/-- A convolution. -/
theorem atZ_in {vs : List Int} {H K c y x : Int} (hy : 0 ≤ y ∧ y < H) (hx : 0 ≤ x ∧ x < K) : atZ vs H K c y x = vs[(ixW H K (c, y, x)).toNat]?.getD 0 := by
  unfold atZ ixW
  rw [if_pos ⟨hy.1, hy.2, hx.1, hx.2⟩]
theorem atZ_out {vs : List Int} {H K c y x : Int} (h : ¬ (0 ≤ y ∧ y < H) ∨ ¬ (0 ≤ x ∧ x < K)) : atZ vs H K c y x = 0 := by
  unfold atZ
  rw [if_neg (by omega)]
theorem psW_in {cv : Bool} {gO c h k g1 g2 g3 g4 g5 g6 : Int} {C H K KH KW SH SW PH PW o D1 D2 i : Nat} (hw : WK gO g1 g2 g3 g4 g5 g6 c h k C H K KH KW SH SW PH PW o D1 D2) (p : P3) (hp : p ∈ psW cv C H K KH KW SH SW PH PW D1 D2 i) :
    (((i / D2 % D1 : Nat) : Int) * SH - PH ≤ p.2.1 ∧ p.2.1 < ((i / D2 % D1 : Nat) : Int) * SH - PH + KH) ∧ (((i % D2 : Nat) : Int) * SW - PW ≤ p.2.2 ∧ p.2.2 < ((i % D2 : Nat) : Int) * SW - PW + KW) := by
  unfold psW csP at hp
  obtain ⟨c', _, hp⟩ := List.mem_flatMap.1 hp
  unfold ysP at hp
  obtain ⟨y, hy, hp⟩ := List.mem_flatMap.1 hp
  unfold xsP at hp
  obtain ⟨x, hx, rfl⟩ := List.mem_map.1 hp
  have a := mem_upto hy
  have b := mem_upto hx
  dsimp only
  omega
theorem ixW_nat (KH KW f C c p q : Nat) (y0 x0 : Int) : ixW KH KW ((c : Int) + ((f * C : Nat) : Int), y0 + (p : Int) - y0, x0 + (q : Int) - x0) = ((((f * C + c) * KH + p) * KW + q : Nat) : Int) := by
  unfold ixW
  dsimp only
  rw [show y0 + (p : Int) - y0 = (p : Int) by omega, show x0 + (q : Int) - x0 = (q : Int) by omega, show (c : Int) + ((f * C : Nat) : Int) = ((f * C + c : Nat) : Int) by omega, ← Int.natCast_mul, ← Int.natCast_add, ← Int.natCast_mul, ← Int.natCast_add]
theorem rowG_conv (seed : Int) (vs : List Int) {C H K KH KW SH SW PH PW o D1 D2 n L i : Nat} (hw : WK (o : Int) (KH : Int) (KW : Int) (SH : Int) (SW : Int) (PH : Int) (PW : Int) (C : Int) (H : Int) (K : Int) C H K KH KW SH SW PH PW o D1 D2) (hn : C * H * K = n) (hL : o * C * KH * KW = L) (hi : i < o * D1 * D2) :
    RowG n vs ((psW true C H K KH KW SH SW PH PW D1 D2 i).map (ixW H K)) ((psW true C H K KH KW SH SW PH PW D1 D2 i).map fun p => (wL seed L)[(ixW KH KW (p.1 + ((i / (D1 * D2) * C : Nat) : Int), p.2.1 - (((i / D2 % D1 : Nat) : Int) * SH - PH), p.2.2 - (((i % D2 : Nat) : Int) * SW - PW))).toNat]?.getD 0) ((bL seed o)[i / (D1 * D2)]?.getD 0)
      ((gL (fun f y x => win2Z seed vs C H K KH KW f ((y : Int) * SH - PH) ((x : Int) * SW - PW)) D1 D2 (o * D1 * D2))[i]?.getD 0) := by
  have ok := psW_ok true hw (fun h => by cases h) hi
  have hin := fun p hp => psW_in (cv := true) hw (i := i) p hp
  have dd1 : 1 ≤ D1 := by rw [hw.d.1]; exact Nat.le_add_left 1 _
  have dd2 : 1 ≤ D2 := by rw [hw.d.2]; exact Nat.le_add_left 1 _
  obtain ⟨f, hf⟩ : ∃ f, i / (D1 * D2) = f := ⟨_, rfl⟩
  have hfo : f < o := by rw [← hf]; exact (Nat.div_lt_iff_lt_mul (Nat.mul_pos dd1 dd2)).2 (by rw [← Nat.mul_assoc]; exact hi)
  obtain ⟨y0, hy0⟩ : ∃ y0, ((i / D2 % D1 : Nat) : Int) * SH - PH = y0 := ⟨_, rfl⟩
  obtain ⟨x0, hx0⟩ : ∃ x0, ((i % D2 : Nat) : Int) * SW - PW = x0 := ⟨_, rfl⟩
  have hps : psW true C H K KH KW SH SW PH PW D1 D2 i = csP 0 (C : Int) (max y0 0) (min (y0 + (KH : Int)) (H : Int)) (max x0 0) (min (x0 + (KW : Int)) (K : Int)) := by unfold psW; rw [if_pos rfl, if_pos rfl, hy0, hx0]
  have hwant : (gL (fun f y x => win2Z seed vs C H K KH KW f ((y : Int) * SH - PH) ((x : Int) * SW - PW)) D1 D2 (o * D1 * D2))[i]?.getD 0 = win2Z seed vs C H K KH KW f y0 x0 := by
    unfold gL
    rw [map_at _ hi]
    unfold gI
    rw [hf]
    dsimp only
    rw [hy0, hx0]
  rw [hwant, bL_at seed (hf ▸ hfo), hf]
  rw [hy0, hx0] at hin
  rw [hy0, hx0]
  obtain ⟨ps, hpse⟩ : ∃ ps, psW true C H K KH KW SH SW PH PW D1 D2 i = ps := ⟨_, rfl⟩
  rw [hpse] at ok hin hps ⊢
  have hix : ∀ p ∈ ps, ∃ c a b : Nat, c < C ∧ a < KH ∧ b < KW ∧ p.1 = c ∧ p.2.1 = y0 + a ∧ p.2.2 = x0 + b := fun p hp => by
    obtain ⟨m1, _, _, _⟩ := ok.mem p hp
    obtain ⟨i1, i2⟩ := hin p hp
    exact ⟨p.1.toNat, (p.2.1 - y0).toNat, (p.2.2 - x0).toNat, by omega, by omega, by omega, by omega, by omega, by omega⟩
  refine rowG_map (zf := fun p => smallZ seed (3 * (ixW KH KW (p.1 + ((f * C : Nat) : Int), p.2.1 - y0, p.2.2 - x0)))) (fun p hp => ?_) (fun p => smallZ_bd _ _) (smallZ_bd _ _) ok.le2 ok.rise (fun p hp => ?_) ?_
  · obtain ⟨c, a, b, h1, h2, h3, e1, e2, e3⟩ := hix p hp
    have hxe : ixW KH KW (p.1 + ((f * C : Nat) : Int), p.2.1 - y0, p.2.2 - x0) = ((((f * C + c) * KH + a) * KW + b : Nat) : Int) := by
      unfold ixW
      dsimp only
      rw [e1, show p.2.1 - y0 = (a : Int) by omega, show p.2.2 - x0 = (b : Int) by omega, show (c : Int) + ((f * C : Nat) : Int) = ((f * C + c : Nat) : Int) by omega, ← Int.natCast_mul, ← Int.natCast_add, ← Int.natCast_mul, ← Int.natCast_add]
    have hlt : ((f * C + c) * KH + a) * KW + b < L := by rw [← hL]; exact step_lt (step_lt (step_lt hfo h1) h2) h3
    show (wL seed L)[(ixW KH KW (p.1 + ((f * C : Nat) : Int), p.2.1 - y0, p.2.2 - x0)).toNat]?.getD 0 = _
    rw [hxe, Int.toNat_natCast, wL_at seed hlt]
  · obtain ⟨y1, y2, y3, _⟩ := ok.mem p hp
    obtain ⟨z1, z2, _⟩ := ixW_in (C := (C : Int)) y1 y2 y3
    rw [← Int.natCast_mul, ← Int.natCast_mul, hn] at z2
    exact ⟨z1, z2⟩
  · rw [SL_congr (g := fun p => smallZ seed (3 * (ixW KH KW (p.1 + ((f * C : Nat) : Int), p.2.1 - y0, p.2.2 - x0))) * atZ vs H K p.1 p.2.1 p.2.2) fun p hp => by
      obtain ⟨y1, y2, y3, _⟩ := ok.mem p hp
      rw [atZ_in (c := p.1) y2 y3]]
    rw [hps, cs_sum (fun p => smallZ seed (3 * (ixW KH KW (p.1 + ((f * C : Nat) : Int), p.2.1 - y0, p.2.2 - x0))) * atZ vs H K p.1 p.2.1 p.2.2) H K (fun c y x h => by dsimp only; rw [atZ_out h, Int.mul_zero]) C y0 x0 KH KW]
    have hS : Sg (fun p => Sg (fun q => Sg (fun c => smallZ seed (3 * (ixW KH KW ((c : Int) + ((f * C : Nat) : Int), y0 + (p : Int) - y0, x0 + (q : Int) - x0))) * atZ vs H K (c : Int) (y0 + (p : Int)) (x0 + (q : Int))) C) KW) KH = Sg (fun p => Sg (fun q => Sg (wcZ seed vs C H K KH KW f y0 x0 p q) C) KW) KH := by
      refine Sg_congr fun p _ => Sg_congr fun q _ => Sg_congr fun c _ => ?_
      rw [ixW_nat]
      rfl
    unfold win2Z
    rw [← hS]
    exact Int.add_comm _ _
theorem rowG_mean (a : Int) (ha : -9 ≤ a ∧ a ≤ 9) (vs : List Int) {C H K KH KW SH SW PH PW o D1 D2 n i : Nat} (hw : WK 0 (KH : Int) (KW : Int) (SH : Int) (SW : Int) (PH : Int) (PW : Int) (C : Int) (H : Int) (K : Int) C H K KH KW SH SW PH PW o D1 D2) (ho : o = C) (hn : C * H * K = n) (hi : i < o * D1 * D2) :
    RowG n vs ((psW false C H K KH KW SH SW PH PW D1 D2 i).map (ixW H K)) ((psW false C H K KH KW SH SW PH PW D1 D2 i).map fun _ => flZ a) 0
      ((gL (fun f y x => win4Z a vs H K KH KW f ((y : Int) * SH - PH) ((x : Int) * SW - PW)) D1 D2 (o * D1 * D2))[i]?.getD 0) := by
  have ok := psW_ok false hw (fun _ => ho) hi
  obtain ⟨f, hf⟩ : ∃ f, i / (D1 * D2) = f := ⟨_, rfl⟩
  obtain ⟨y0, hy0⟩ : ∃ y0, ((i / D2 % D1 : Nat) : Int) * SH - PH = y0 := ⟨_, rfl⟩
  obtain ⟨x0, hx0⟩ : ∃ x0, ((i % D2 : Nat) : Int) * SW - PW = x0 := ⟨_, rfl⟩
  have hps : psW false C H K KH KW SH SW PH PW D1 D2 i = csP (f : Int) ((f : Int) + 1) (max y0 0) (min (y0 + (KH : Int)) (H : Int)) (max x0 0) (min (x0 + (KW : Int)) (K : Int)) := by unfold psW; rw [if_neg (by decide), if_neg (by decide), hy0, hx0, hf]
  have hwant : (gL (fun f y x => win4Z a vs H K KH KW f ((y : Int) * SH - PH) ((x : Int) * SW - PW)) D1 D2 (o * D1 * D2))[i]?.getD 0 = win4Z a vs H K KH KW f y0 x0 := by
    unfold gL
    rw [map_at _ hi]
    unfold gI
    rw [hf]
    dsimp only
    rw [hy0, hx0]
  rw [hwant]
  obtain ⟨ps, hpse⟩ : ∃ ps, psW false C H K KH KW SH SW PH PW D1 D2 i = ps := ⟨_, rfl⟩
  rw [hpse] at ok hps ⊢
  have h0 : flZ 0 = 0 := by decide +kernel
  rw [← h0]
  refine rowG_map (zf := fun _ => a) (fun p hp => rfl) (fun p => ha) (by decide) ok.le2 ok.rise (fun p hp => ?_) ?_
  · obtain ⟨y1, y2, y3, _⟩ := ok.mem p hp
    obtain ⟨z1, z2, _⟩ := ixW_in (C := (C : Int)) y1 y2 y3
    rw [← Int.natCast_mul, ← Int.natCast_mul, hn] at z2
    exact ⟨z1, z2⟩
  · rw [SL_congr (g := fun p => a * atZ vs H K p.1 p.2.1 p.2.2) fun p hp => by
      obtain ⟨y1, y2, y3, _⟩ := ok.mem p hp
      rw [atZ_in (c := p.1) y2 y3]]
    rw [hps, c1_sum (fun p => a * atZ vs H K p.1 p.2.1 p.2.2) H K (fun c y x h => by dsimp only; rw [atZ_out h, Int.mul_zero]) (f : Int) y0 x0 KH KW, Int.zero_add]
    rfl
end Go.Proofs.Ytokglpemefkmjaa
