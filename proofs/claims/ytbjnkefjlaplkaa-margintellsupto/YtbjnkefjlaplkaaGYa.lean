import Derived.Test.YtbjnkefjlaplkaaGJc
namespace Go.Proofs.Ytbjnkefjlaplkaa
open Go.RowKit Go.Shelf
set_option linter.unusedVariables false
open Ieee

theorem fval_oneJ {a : Nat} (ha : a = 1074) : fval 4607182418800017408 = ((2 ^ a : Nat) : Int) := by subst ha; decide +kernel
theorem fval_minusJ {a : Nat} (ha : a = 1074) : fval 13830554455654793216 = -((2 ^ a : Nat) : Int) := by subst ha; decide +kernel
theorem pow92 {a b : Nat} (ha : a = 1166) (hb : b = 1074) : ((2 ^ b : Nat) : Int) * ((2 ^ ((0 : Int) + 92).toNat : Nat) : Int) = ((2 ^ a : Nat) : Int) := by
  rw [show ((0 : Int) + 92).toNat = 92 by decide]
  have : (2 : Nat) ^ a = 2 ^ b * 2 ^ 92 := by rw [← Nat.pow_add, show b + 92 = a by omega]
  rw [this, Int.natCast_mul]
/-- A number times s, s being 1 or -1. -/
def sgJ (b : Nat) (s : Int) : Prop := (b = 4607182418800017408 ∧ s = 1) ∨ (b = 13830554455654793216 ∧ s = -1)
theorem prodZ_sg {a b u : Nat} {s : Int} (ha : a = 1166) (h : sgJ b s) : prodZ b u 0 = s * fval u * ((2 ^ a : Nat) : Int) := by
  unfold prodZ
  obtain ⟨c, hc⟩ : ∃ c : Nat, c = 1074 := ⟨_, rfl⟩
  have hp := pow92 ha hc
  generalize ((2 ^ ((0 : Int) + 92).toNat : Nat) : Int) = Y at hp ⊢
  rcases h with ⟨rfl, rfl⟩ | ⟨rfl, rfl⟩
  · rw [fval_oneJ hc, ← hp]
    generalize ((2 ^ c : Nat) : Int) = X
    rw [Int.one_mul, Int.mul_comm X, Int.mul_assoc]
  · rw [fval_minusJ hc, ← hp]
    generalize ((2 ^ c : Nat) : Int) = X
    rw [Int.mul_comm (-X), Int.mul_assoc, Int.neg_mul, Int.mul_neg, Int.neg_mul, Int.one_mul, Int.neg_mul]
theorem prodZ_oneJ {a : Nat} (ha : a = 1166) (u : Nat) : prodZ u 4607182418800017408 0 = fval u * ((2 ^ a : Nat) : Int) := by
  have h : prodZ u 4607182418800017408 0 = prodZ 4607182418800017408 u 0 := by unfold prodZ; rw [Int.mul_comm (fval u)]
  rw [h, prodZ_sg ha (.inl ⟨rfl, rfl⟩), Int.one_mul]
theorem fval_zeroJ : fval 0 = 0 := by decide +kernel
theorem fval_absJ (u : Nat) : (fval u).natAbs = rmag (frung u) := by unfold fval; split <;> omega
theorem frung_frung (u : Nat) : frung (frung u) = frung u := by unfold frung; omega
theorem fneg_frung (u : Nat) : fneg (frung u) = false := by unfold fneg frung; simp
theorem fval_frung (u : Nat) : fval (frung u) = (rmag (frung u) : Int) := by unfold fval; rw [fneg_frung, frung_frung]; rfl
theorem fval_ltJ {u E : Nat} (hu : Fin u) (hE : E = 2098) : rmag (frung u) < 2 ^ E := by
  obtain ⟨F, hF⟩ : ∃ F : Nat, F = 2046 := ⟨_, rfl⟩
  have h1 := rmag_lt hu
  rw [rmag_inf hF] at h1
  have h3 : (2 : Nat) ^ E = 4503599627370496 * 2 ^ F := by
    rw [show (4503599627370496 : Nat) = 2 ^ 52 by decide, ← Nat.pow_add, show 52 + F = E by omega]
  rw [h3]; exact h1
theorem hold_sumJ {a E : Nat} {x : Int} (ha : a = 1166) (hE : E = 2140) (hx : x.natAbs < 2 ^ E) : holdZ (x * ((2 ^ a : Nat) : Int)) = some (x * ((2 ^ a : Nat) : Int)) := by
  unfold holdZ
  rw [if_pos]
  obtain ⟨Q, hQ⟩ : ∃ Q : Nat, Q = 4800 := ⟨_, rfl⟩
  have h2 : (2 : Nat) ^ E * 2 ^ a ≤ 2 ^ Q := by rw [← Nat.pow_add]; exact Nat.pow_le_pow_right (by omega) (by omega)
  have h3 : (x * ((2 ^ a : Nat) : Int)).natAbs < 2 ^ Q := by
    rw [Int.natAbs_mul, Int.natAbs_natCast]
    exact Nat.lt_of_lt_of_le (Nat.mul_lt_mul_of_pos_right hx (Nat.two_pow_pos _)) h2
  rw [hQ] at h3
  generalize x * ((2 ^ a : Nat) : Int) = X at *
  generalize 2 ^ 4800 = L at *
  omega
theorem fin_zeroJ : Fin 0 := by decide
theorem fin_frung {u : Nat} (h : Fin u) : Fin (frung u) := by unfold Fin at *; rw [frung_frung]; exact h
/-- A step of a sum. -/
theorem prodO_step {a E u b : Nat} {x y : Int} (ha : a = 1166) (hE : E = 2140) (hu : Fin u) (hb : Fin b) (hp : prodZ u b 0 = y * ((2 ^ a : Nat) : Int)) (hx : (x + y).natAbs < 2 ^ E) : prodO (some (x * ((2 ^ a : Nat) : Int))) u b 0 = some ((x + y) * ((2 ^ a : Nat) : Int)) := by
  unfold prodO
  simp only [Option.bind_some]
  rw [if_pos ⟨hu, hb, by decide, by decide⟩, hp, ← Int.add_mul, hold_sumJ ha hE hx]
theorem joinO_step {a E : Nat} {x y : Int} (ha : a = 1166) (hE : E = 2140) (hx : (x + y).natAbs < 2 ^ E) : joinO (some (x * ((2 ^ a : Nat) : Int))) (some (y * ((2 ^ a : Nat) : Int))) false = some ((x + y) * ((2 ^ a : Nat) : Int)) := by
  unfold joinO
  simp only [Option.bind_some, Bool.false_eq_true, if_false]
  rw [← Int.add_mul, hold_sumJ ha hE hx]
theorem joinO_back {a E : Nat} {x y : Int} (ha : a = 1166) (hE : E = 2140) (hx : (x - y).natAbs < 2 ^ E) : joinO (some (x * ((2 ^ a : Nat) : Int))) (some (y * ((2 ^ a : Nat) : Int))) true = some ((x - y) * ((2 ^ a : Nat) : Int)) := by
  unfold joinO
  simp only [Option.bind_some, if_true]
  rw [← Int.sub_eq_add_neg, ← Int.sub_mul, hold_sumJ ha hE hx]
def sumA {α : Type} (A : α → Nat) : List α → Nat
  | [] => 0
  | k :: ks => A k + sumA A ks
theorem sumA_le {α : Type} {A : α → Nat} {M : Nat} : ∀ (l : List α), (∀ k ∈ l, A k ≤ M) → sumA A l ≤ l.length * M
  | [], _ => Nat.zero_le _
  | k :: ks, h => by
    have h1 := sumA_le ks fun j hj => h j (List.mem_cons_of_mem _ hj)
    have h2 := h k List.mem_cons_self
    rw [sumA, List.length_cons, Nat.succ_mul]
    omega
theorem farC_sum {a E len j : Nat} {z : ZD} {A : _root_.Fin z.dn → Nat} (ha : a = 1166) (hE : E = 2140) (hj : j < len) :
    ∀ (pre : List (_root_.Fin z.dn)) (os : Nat → Option Int) (x : Int), os j = some (x * ((2 ^ a : Nat) : Int)) → (∀ k ∈ pre, Fin ((z.gs[k.val]?.getD [])[j]?.getD 0) ∧ rmag (frung ((z.gs[k.val]?.getD [])[j]?.getD 0)) = A k) → x.natAbs + sumA A pre < 2 ^ E →
      farC z len os pre j = some ((x + (sumA A pre : Nat)) * ((2 ^ a : Nat) : Int))
  | [], os, x, ho, _, _ => by simp [farC, sumA, ho]
  | k :: ks, os, x, ho, h, hb => by
    obtain ⟨hf, hA⟩ := h k List.mem_cons_self
    rw [sumA] at hb
    have hst : farC z len os (k :: ks) = farC z len (addJ (z.gs[k.val]?.getD []) os len) ks := rfl
    have hn : addJ (z.gs[k.val]?.getD []) os len j = some ((x + (A k : Nat)) * ((2 ^ a : Nat) : Int)) := by
      unfold addJ
      rw [if_pos hj, ho]
      exact prodO_step ha hE (fin_frung hf) (by decide) (by rw [prodZ_oneJ ha, fval_frung, hA]) (by omega)
    rw [hst, farC_sum ha hE hj ks _ (x + (A k : Nat)) hn (fun j hj => h j (List.mem_cons_of_mem _ hj)) (by omega), sumA, Int.natCast_add, Int.add_assoc]
/-- How far column k goes along the axis i. -/
def clA (z : ZD) (i : Nat) (k : _root_.Fin z.dn) : Nat := rmag (frung ((z.gs[k.val]?.getD [])[i]?.getD 0))
/-- How far a zonotope goes along the axis i, in units of 2^-1074. -/
def reA (z : ZD) (i : Nat) : Int := fval (z.rs[i]?.getD 0) + (sumA (clA z i) (List.finRange z.dn) : Nat)
/-- All numbers of a zonotope are numbers. -/
structure FnZ (z : ZD) : Prop where
  c : ∀ j : Nat, Fin (z.cs[j]?.getD 0)
  r : ∀ j : Nat, Fin (z.rs[j]?.getD 0)
  g : ∀ k j : Nat, Fin ((z.gs[k]?.getD [])[j]?.getD 0)
  few : z.dn ≤ 1050000
theorem sum_bound {z : ZD} (h : FnZ z) (i : Nat) {F : Nat} (hF : F = 2098) : sumA (clA z i) (List.finRange z.dn) ≤ 1050000 * 2 ^ F := by
  have h1 := sumA_le (A := clA z i) (M := 2 ^ F) (List.finRange z.dn) fun k _ => Nat.le_of_lt (fval_ltJ (h.g k.val i) hF)
  rw [List.length_finRange] at h1
  exact Nat.le_trans h1 (Nat.mul_le_mul_right _ h.few)
theorem great_bound {F E : Nat} (hF : F = 2098) (hE : E = 2140) : 2097152 * 2 ^ F ≤ 2 ^ E := by
  rw [show (2097152 : Nat) = 2 ^ 21 by decide, ← Nat.pow_add]
  exact Nat.pow_le_pow_right (by omega) (by omega)
theorem farZ_is {a i : Nat} {z : ZD} (ha : a = 1166) (h : FnZ z) (hi : i < z.rn) : farZ z i = some (reA z i * ((2 ^ a : Nat) : Int)) := by
  obtain ⟨F, hF⟩ : ∃ F : Nat, F = 2098 := ⟨_, rfl⟩
  obtain ⟨E, hE⟩ : ∃ E : Nat, E = 2140 := ⟨_, rfl⟩
  have hs := sum_bound h i hF
  have hg := great_bound hF hE
  have hr := fval_ltJ (h.r i) hF
  rw [← fval_absJ] at hr
  unfold farZ reA
  refine farC_sum ha hE hi _ _ _ ?_ (fun k _ => ⟨h.g k.val i, rfl⟩) (by generalize 2 ^ F = X at *; generalize 2 ^ E = Y at *; omega)
  unfold accB
  have := prodO_step (x := 0) ha hE (h.r i) (by decide) (prodZ_oneJ ha _) (by rw [Int.zero_add]; generalize 2 ^ F = X at *; generalize 2 ^ E = Y at *; omega)
  rw [Int.zero_mul, Int.zero_add] at this
  exact this
end Go.Proofs.Ytbjnkefjlaplkaa


namespace Go.Proofs.Ytbjnkefjlaplkaa
open Go.RowKit Go.Shelf
set_option linter.unusedVariables false
open Ieee

theorem rz_order {X Y : Int} {D : Nat} {p q : Nat × Bool} (hD : 0 < D) (h : RndZ 2 X D p) (h' : RndZ 1 Y D q) (hle : X ≤ Y) (hp : p.2 = true) (hq : q.2 = true) : srung p.1 ≤ srung q.1 := by
  obtain ⟨f, hf⟩ := Sf.some X hD
  obtain ⟨g, hg⟩ := Sf.some Y hD
  have hfg : f ≤ g := (floor_le hD hg f).1 (Int.le_trans hf.1 hle)
  have hgc : g ≤ ceilK Y D g := by unfold ceilK; split <;> omega
  rcases rz_down h hf with ⟨_, _, a⟩ | ⟨a, _⟩
  · rcases rz_up h' hg with ⟨_, _, b⟩ | ⟨b, _⟩
    · rw [a, b]; omega
    · rw [b] at hq; cases hq
  · rw [a] at hp; cases hp
theorem canon_plainM {x : Nat} (h : Canon x) : plainM x = x := by
  unfold plainM
  split
  · rename_i e
    unfold Canon at h
    rw [e] at h
    rw [h]; rfl
  · rfl
theorem RndO.some_iff {d : Int} {x : Int} {u a : Nat} {b : Bool} (ha : a = 1166) (h : RndO d (some x) u b) : RndZ d x (2 ^ a) (u, b) := h a ha
theorem one1_is {a c : Nat} (ha : a = 1166) (hc : Fin c) : one1 c = some (fval c * ((2 ^ a : Nat) : Int)) := by
  obtain ⟨F, hF⟩ : ∃ F : Nat, F = 2098 := ⟨_, rfl⟩
  obtain ⟨E, hE⟩ : ∃ E : Nat, E = 2140 := ⟨_, rfl⟩
  have hg := great_bound hF hE
  have hr := fval_ltJ hc hF
  rw [← fval_absJ] at hr
  unfold one1
  have := prodO_step (x := 0) ha hE hc (by decide) (prodZ_oneJ ha _) (by rw [Int.zero_add]; generalize 2 ^ F = X at *; generalize 2 ^ E = Y at *; omega)
  rw [Int.zero_mul, Int.zero_add] at this
  exact this
end Go.Proofs.Ytbjnkefjlaplkaa


namespace Go.Proofs.Ytbjnkefjlaplkaa
open Go.RowKit Go.Shelf
set_option linter.unusedVariables false
open Ieee

theorem fin_getD {us : List Nat} (h : ∀ u ∈ us, Fin u) (j : Nat) : Fin (us[j]?.getD 0) := by
  by_cases hj : j < us.length
  · rw [List.getElem?_eq_getElem hj]; exact h _ (List.getElem_mem hj)
  · rw [List.getElem?_eq_none (by omega)]; exact fin_zeroJ
theorem colsB_num {z : ZD} : ∀ {ks : List (_root_.Fin z.dn)} {last : Int}, colsB z last ks = true → ∀ k ∈ ks, numN (z.gs[k.val]?.getD []) z.N = true
  | [], _, _, k, hk => by cases hk
  | x :: ks, last, h, k, hk => by
    have h' : (colOk z last x && colsB z (idZ z x) ks) = true := h
    rw [Bool.and_eq_true] at h'
    rcases List.mem_cons.1 hk with rfl | hk
    · have := h'.1
      unfold colOk at this
      simp only [Bool.and_eq_true] at this
      exact this.2
    · exact colsB_num h'.2 k hk
/-- What a whole zonotope has. -/
structure WhF (z : ZD) : Prop where
  n1 : 1 ≤ z.rn
  n2 : z.rn ≤ 256
  N : z.N = (z.rn : Int)
  cn : z.cn = z.rn
  dg : z.dn = z.gn
  cl : z.cs.length = z.rn
  rl : z.rs.length = z.rn
  gl : ∀ k, k < z.dn → (z.gs[k]?.getD []).length = z.rn
  pos : ∀ i : Nat, 0 ≤ fval (z.rs[i]?.getD 0)
  fin : FnZ z
theorem WhF.of {w : World} {z : ZD} (hz : ZR w z) (hd : z.dn ≤ 1050000) (h : wholeB z = true) : WhF z := by
  unfold wholeB at h
  simp only [Bool.and_eq_true, decide_eq_true_eq] at h
  obtain ⟨⟨⟨⟨⟨⟨h1, h2⟩, h3⟩, h4⟩, h5⟩, h6⟩, h7⟩ := h
  obtain ⟨c1, c2⟩ := numN_fin h3
  obtain ⟨r1, r2⟩ := numN_fin h4
  have hl := hz.r.length
  have hlc := hz.c.length
  have hg := fun (k : Nat) (hk : k < z.dn) => numN_fin (colsB_num h7 ⟨k, hk⟩ (List.mem_finRange _))
  refine ⟨by omega, by omega, by omega, by omega, h5, by omega, hl, fun k hk => by have := (hg k hk).1; dsimp only at this; omega, fun i => ?_, ⟨fin_getD c2, fin_getD r2, fun k j => ?_, hd⟩⟩
  · by_cases hi : i < z.rs.length
    · rw [List.getElem?_eq_getElem hi]
      have h8 := List.all_eq_true.1 h6 _ (List.getElem_mem hi)
      have h9 : ¬ srung z.rs[i] < 0 := of_decide_eq_true h8
      have h10 := srung_le 0 z.rs[i]
      rw [fval_zeroJ, show srung 0 = 0 by decide] at h10
      exact h10.1 (by omega)
    · rw [List.getElem?_eq_none (by omega)]; exact Int.le_of_eq fval_zeroJ.symm
  · by_cases hk : k < z.dn
    · exact fin_getD (hg k hk).2 j
    · have e : z.gs[k]? = none := List.getElem?_eq_none (by have := hz.g.length; omega)
      rw [e]
      exact fin_zeroJ
end Go.Proofs.Ytbjnkefjlaplkaa

