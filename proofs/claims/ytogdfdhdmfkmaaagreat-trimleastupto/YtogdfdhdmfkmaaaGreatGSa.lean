import Derived.Test.YtogdfdhdmfkmaaaGreatGTd
import Derived.Test.YtogdfdhdmfkmaaaGreatJZv
import Derived.Test.YtogdfdhdmfkmaaaGreatGJi
import Derived.Test.YtogdfdhdmfkmaaaGreatGJe
import Derived.Test.YtogdfdhdmfkmaaaGreatGYa
namespace Go.Proofs.YtogdfdhdmfkmaaaGreat
open Go.RowKit Go.Shelf
set_option linter.unusedVariables false
set_option linter.unusedSimpArgs false
open Ieee

/-- Lists that rise and have the same members are the same. -/
theorem rise_eq {l m : List Nat} (hl : l.Pairwise (· < ·)) (hm : m.Pairwise (· < ·)) (h : ∀ a, a ∈ l ↔ a ∈ m) : l = m := by
  have e : ∀ i j : Nat, i < j ↔ ltL (fun _ => 0) i j := fun i j => by simp [ltL]
  refine sorted_eq (v := fun _ => 0) l m ((List.perm_ext_iff_of_nodup (hl.imp fun h => Nat.ne_of_lt h) (hm.imp fun h => Nat.ne_of_lt h)).2 h) (hl.imp fun h => (e _ _).1 h) (hm.imp fun h => (e _ _).1 h)
theorem pick_mem (f : Nat → Bool) (n a : Nat) : a ∈ pickL f n ↔ a < n ∧ f a = true := pickL_mem
theorem plN_nodup (v : Nat → Int) (n : Nat) : (plN v n).Nodup := (plN_perm v n).nodup_iff.2 List.nodup_range
theorem plN_mem (v : Nat → Int) (n a : Nat) : a ∈ plN v n ↔ a < n := by rw [(plN_perm v n).mem_iff, List.mem_range]
/-- The columns that stay, when low of them stay. -/
def keptL (v : Nat → Int) (n low : Nat) : List Nat := pickL (fun j => decide (j ∈ (plN v n).drop (n - low))) n
theorem keptL_mem (v : Nat → Int) (n low a : Nat) : a ∈ keptL v n low ↔ a ∈ (plN v n).drop (n - low) := by
  unfold keptL
  rw [pick_mem, decide_eq_true_eq]
  exact ⟨fun h => h.2, fun h => ⟨(plN_mem v n a).1 (List.mem_of_mem_drop h), h⟩⟩
theorem keptL_perm (v : Nat → Int) (n low : Nat) : (keptL v n low).Perm ((plN v n).drop (n - low)) :=
  (List.perm_ext_iff_of_nodup ((pick_rise _ _).imp fun h => Nat.ne_of_lt h) ((plN_nodup v n).sublist (List.drop_sublist _ _))).2 fun a => keptL_mem v n low a
theorem keptL_len {v : Nat → Int} {n low : Nat} (h : low ≤ n) : (keptL v n low).length = low := by
  rw [(keptL_perm v n low).length_eq, List.length_drop, plN_len]
  omega
theorem keptL_lt {v : Nat → Int} {n low a : Nat} (h : a ∈ keptL v n low) : a < n := (pick_lt _ _) a h
theorem goes_kept {v : Nat → Int} {n low : Nat} (h : low ≤ n) : pickL (fun j => !decide (j ∈ (plN v n).take (n - low))) n = keptL v n low := by
  refine rise_eq (pick_rise _ _) (pick_rise _ _) fun a => ?_
  rw [keptL_mem, pick_mem]
  have hn := plN_nodup v n
  rw [← List.take_append_drop (n - low) (plN v n), List.nodup_append] at hn
  constructor
  · rintro ⟨h1, h2⟩
    have h3 := (plN_mem v n a).2 h1
    rw [← List.take_append_drop (n - low) (plN v n), List.mem_append] at h3
    rcases h3 with h3 | h3
    · simp [h3] at h2
    · exact h3
  · intro h1
    refine ⟨(plN_mem v n a).1 (List.mem_of_mem_drop h1), ?_⟩
    have : a ∉ (plN v n).take (n - low) := fun h2 => hn.2.2 a h2 a h1 rfl
    simp [this]
theorem keptL_all (v : Nat → Int) (n : Nat) : keptL v n n = List.range n := by
  refine rise_eq (pick_rise _ _) List.pairwise_lt_range fun a => ?_
  rw [keptL_mem, Nat.sub_self, List.drop_zero, plN_mem, List.mem_range]
/-- The order of what stays is the order that was. -/
theorem order_sub {v u : Nat → Int} {n low : Nat} (h : low ≤ n) (hu : ∀ i, i < low → u i = v ((keptL v n low)[i]?.getD 0)) : (plN u low).map (fun i => (keptL v n low)[i]?.getD 0) = (plN v n).drop (n - low) := by
  have hl := keptL_len (v := v) h
  have hk : ∀ i j, i < low → j < low → i < j → (keptL v n low)[i]?.getD 0 < (keptL v n low)[j]?.getD 0 := fun i j hi hj hij => by
    rw [List.getElem?_eq_getElem (by omega), List.getElem?_eq_getElem (by omega)]
    exact List.pairwise_iff_getElem.1 (pick_rise _ _) i j (by unfold keptL at hl; omega) (by unfold keptL at hl; omega) hij
  refine sorted_eq (v := v) _ _ ?_ ?_ ((plN_sorted v n).sublist (List.drop_sublist _ _))
  · refine (((plN_perm u low).map _).trans ?_).trans (keptL_perm v n low)
    have e : (List.range low).map (fun i => (keptL v n low)[i]?.getD 0) = keptL v n low := by
      apply List.ext_getElem
      · simp [hl]
      · intro i h1 h2
        simp [List.getElem?_eq_getElem h2]
    rw [e]
  · rw [List.pairwise_map]
    refine List.Pairwise.imp_of_mem ?_ (plN_sorted u low)
    intro i j hi hj hij
    have hi' := (plN_mem u low i).1 hi
    have hj' := (plN_mem u low j).1 hj
    unfold ltL at hij ⊢
    rw [hu i hi', hu j hj'] at hij
    rcases hij with h1 | ⟨h1, h2⟩
    · exact .inl h1
    · exact .inr ⟨h1, hk i j hi' hj' h2⟩
theorem kept_inj {v : Nat → Int} {n low : Nat} (h : low ≤ n) {i j : Nat} (hi : i < low) (hj : j < low) (e : (keptL v n low)[i]?.getD 0 = (keptL v n low)[j]?.getD 0) : i = j := by
  have hl := keptL_len (v := v) h
  have hk : ∀ i j, i < low → j < low → i < j → (keptL v n low)[i]?.getD 0 < (keptL v n low)[j]?.getD 0 := fun i j hi hj hij => by
    rw [List.getElem?_eq_getElem (by omega), List.getElem?_eq_getElem (by omega)]
    exact List.pairwise_iff_getElem.1 (pick_rise _ _) i j (by unfold keptL at hl; omega) (by unfold keptL at hl; omega) hij
  rcases Nat.lt_trichotomy i j with c | c | c
  · have := hk i j hi hj c; omega
  · exact c
  · have := hk j i hj hi c; omega
theorem mem_take_sub {v u : Nat → Int} {n low a i : Nat} (h : low ≤ n) (hu : ∀ i, i < low → u i = v ((keptL v n low)[i]?.getD 0)) (hi : i < low) : i ∈ (plN u low).take a ↔ (keptL v n low)[i]?.getD 0 ∈ ((plN v n).drop (n - low)).take a := by
  rw [← order_sub h hu, ← List.map_take, List.mem_map]
  constructor
  · exact fun h1 => ⟨i, h1, rfl⟩
  · rintro ⟨j, h1, h2⟩
    have hj := (plN_mem u low j).1 (List.mem_of_mem_take h1)
    rw [kept_inj h hj hi h2] at h1
    exact h1
/-- What stays of what stayed. -/
theorem kept_sub {v u : Nat → Int} {n low a : Nat} (h : low ≤ n) (ha : a ≤ low) (hu : ∀ i, i < low → u i = v ((keptL v n low)[i]?.getD 0)) : (pickL (fun i => !decide (i ∈ (plN u low).take a)) low).map (fun i => (keptL v n low)[i]?.getD 0) = keptL v n (low - a) := by
  have hl := keptL_len (v := v) h
  have hk : ∀ i j, i < low → j < low → i < j → (keptL v n low)[i]?.getD 0 < (keptL v n low)[j]?.getD 0 := fun i j hi hj hij => by
    rw [List.getElem?_eq_getElem (by omega), List.getElem?_eq_getElem (by omega)]
    exact List.pairwise_iff_getElem.1 (pick_rise _ _) i j (by unfold keptL at hl; omega) (by unfold keptL at hl; omega) hij
  refine rise_eq ?_ (pick_rise _ _) fun b => ?_
  · rw [List.pairwise_map]
    exact List.Pairwise.imp_of_mem (fun hi hj hij => hk _ _ (pick_lt _ _ _ hi) (pick_lt _ _ _ hj) hij) (pick_rise _ _)
  · rw [List.mem_map, keptL_mem]
    have hD := (plN_nodup v n).sublist (List.drop_sublist (n - low) _)
    have e1 : (plN v n).drop (n - (low - a)) = ((plN v n).drop (n - low)).drop a := by rw [List.drop_drop]; congr 1; omega
    rw [e1]
    rw [← List.take_append_drop a ((plN v n).drop (n - low)), List.nodup_append] at hD
    constructor
    · rintro ⟨i, h1, rfl⟩
      rw [pick_mem] at h1
      have h2 : i ∉ (plN u low).take a := by simpa using h1.2
      have h3 : (keptL v n low)[i]?.getD 0 ∈ keptL v n low := by rw [List.getElem?_eq_getElem (by omega)]; exact List.getElem_mem _
      rw [keptL_mem, ← List.take_append_drop a ((plN v n).drop (n - low)), List.mem_append] at h3
      rcases h3 with h3 | h3
      · exact absurd ((mem_take_sub h hu h1.1).2 h3) h2
      · exact h3
    · intro h1
      have h2 : b ∈ keptL v n low := (keptL_mem v n low b).2 (List.mem_of_mem_drop h1)
      obtain ⟨i, hi, rfl⟩ := List.getElem_of_mem h2
      have hi' : i < low := by omega
      refine ⟨i, ?_, by rw [List.getElem?_eq_getElem hi]; rfl⟩
      rw [pick_mem]
      refine ⟨hi', ?_⟩
      have h3 : i ∉ (plN u low).take a := fun h4 => by
        have h5 := (mem_take_sub h hu hi').1 h4
        rw [List.getElem?_eq_getElem hi] at h5
        exact hD.2.2 _ h5 _ h1 rfl
      simpa using h3
/-- What goes of what stayed. -/
theorem gone_sub {v u : Nat → Int} {n low a : Nat} (h : low ≤ n) (hu : ∀ i, i < low → u i = v ((keptL v n low)[i]?.getD 0)) : ((pickL (fun i => decide (i ∈ (plN u low).take a)) low).map (fun i => (keptL v n low)[i]?.getD 0)).Perm (((plN v n).drop (n - low)).take a) := by
  have hp : (pickL (fun i => decide (i ∈ (plN u low).take a)) low).Perm ((plN u low).take a) := by
    refine (List.perm_ext_iff_of_nodup ((pick_rise _ _).imp fun h => Nat.ne_of_lt h) ((plN_nodup u low).sublist (List.take_sublist _ _))).2 fun b => ?_
    rw [pick_mem, decide_eq_true_eq]
    exact ⟨fun h => h.2, fun h => ⟨(plN_mem u low b).1 (List.mem_of_mem_take h), h⟩⟩
  have := hp.map (fun i => (keptL v n low)[i]?.getD 0)
  rw [List.map_take, order_sub h hu] at this
  exact this
/-- The sizes at coordinate j of the columns l, added. -/
def magS (gs : List (List Nat)) (j : Nat) (l : List Nat) : Nat := (l.map fun k => rmag (frung ((gs[k]?.getD [])[j]?.getD 0))).sum
theorem magS_perm {gs : List (List Nat)} {j : Nat} {l m : List Nat} (h : l.Perm m) : magS gs j l = magS gs j m := (h.map _).sum_nat
theorem magS_append (gs : List (List Nat)) (j : Nat) (l m : List Nat) : magS gs j (l ++ m) = magS gs j l + magS gs j m := by unfold magS; rw [List.map_append, List.sum_append]
theorem sumA_eq {α : Type} (A : α → Nat) : ∀ l : List α, sumA A l = (l.map A).sum
  | [] => rfl
  | a :: l => by rw [sumA, List.map_cons, List.sum_cons, sumA_eq A l]
theorem reA_pk (z : ZD) (io : Option Addr) (dc : Nat) (go : Option Addr) (gc : Nat) (l : List Nat) (j : Nat) : reA (pkZ z io dc go gc l) j = fval (z.rs[j]?.getD 0) + (magS z.gs j l : Nat) := by
  unfold reA
  rw [sumA_eq]
  have e : (List.finRange (pkZ z io dc go gc l).dn).map (clA (pkZ z io dc go gc l) j) = l.map fun k => rmag (frung ((z.gs[k]?.getD [])[j]?.getD 0)) := by
    have h := map_getD2 (l.map fun k => z.gs[k]?.getD []) [] (fun us : List Nat => rmag (frung (us[j]?.getD 0))) l.length (by simp)
    rw [List.map_map] at h
    exact h
  rw [e]
  rfl
theorem frung_plain (a : Nat) : frung (plainM a) = frung a := by
  unfold plainM
  split
  · rename_i h
    have h1 : frung a = 0 := by unfold srung at h; split at h <;> omega
    rw [h1]; decide
  · rfl
theorem plain0 : plainM 0 = 0 := by decide
theorem plain_idem (a : Nat) : plainM (plainM a) = plainM a := by
  by_cases h : srung a = 0
  · have e : plainM a = 0 := by unfold plainM; rw [if_pos h]
    rw [e, plain0]
  · have e : plainM a = a := by unfold plainM; rw [if_neg h]
    rw [e, e]
theorem plain_getD (us : List Nat) (k : Nat) : (us.map plainM)[k]?.getD 0 = plainM (us[k]?.getD 0) := by
  rw [List.getElem?_map]
  cases us[k]? with
  | none => exact plain0.symm
  | some x => rfl
theorem sumK_plain (us : List Nat) : ∀ k, sumK (us.map plainM) k = sumK us k
  | 0 => rfl
  | k + 1 => by rw [sumK, sumK, sumK_plain us k, plain_getD, frung_plain]
theorem grK_plain (us : List Nat) : ∀ k, grK (us.map plainM) k = grK us k
  | 0 => rfl
  | k + 1 => by rw [grK, grK, grK_plain us k, plain_getD, frung_plain]
theorem lossV_plain (us : List Nat) : lossV (us.map plainM) = lossV us := by unfold lossV; rw [List.length_map, sumK_plain, grK_plain]
theorem lossV_like {us vs : List Nat} (h : us.map plainM = vs.map plainM) : lossV us = lossV vs := by rw [← lossV_plain us, h, lossV_plain]
theorem mag_like {us vs : List Nat} (h : us.map plainM = vs.map plainM) (j : Nat) : rmag (frung (us[j]?.getD 0)) = rmag (frung (vs[j]?.getD 0)) := by
  rw [← frung_plain (us[j]?.getD 0), ← frung_plain (vs[j]?.getD 0), ← plain_getD, ← plain_getD, h]
end Go.Proofs.YtogdfdhdmfkmaaaGreat

namespace Go.Proofs.YtogdfdhdmfkmaaaGreat
open Go.RowKit Go.Shelf
set_option linter.unusedVariables false
set_option linter.unusedSimpArgs false
open Ieee

theorem up_leT {Y : Int} {D q : Nat} (hD : 0 < D) (h : RndZ 1 Y D (q, true)) : Y ≤ fval q * (D : Int) := by
  obtain ⟨f, hf⟩ := Sf.some Y hD
  rcases rz_up h hf with ⟨_, _, a⟩ | ⟨a, _⟩
  · have k : Y ≤ smag (ceilK Y D f) * (D : Int) := (ceil_le hD hf _).2 (Int.le_refl _)
    have a' : srung q = max (ceilK Y D f) (1 - (infK : Int)) := a
    have m : smag (ceilK Y D f) ≤ smag (srung q) := by
      rcases Int.lt_trichotomy (smag (ceilK Y D f)) (smag (srung q)) with c | c | c
      · omega
      · omega
      · have := lt_of_smag c; omega
    rw [fval_smag]
    exact Int.le_trans k (Int.mul_le_mul_of_nonneg_right m (Int.natCast_nonneg D))
  · have := congrArg Prod.snd a; cases this
theorem up_risesT {X Y : Int} {D : Nat} {p q : Nat × Bool} (hD : 0 < D) (h : RndZ 1 X D p) (h' : RndZ 1 Y D q) (hle : X ≤ Y) (hp : p.2 = true) (hq : q.2 = true) : srung p.1 ≤ srung q.1 := by
  obtain ⟨f, hf⟩ := Sf.some X hD
  obtain ⟨g, hg⟩ := Sf.some Y hD
  have hc : ceilK X D f ≤ ceilK Y D g := (ceil_le hD hf _).1 (Int.le_trans hle ((ceil_le hD hg _).2 (Int.le_refl _)))
  rcases rz_up h hf with ⟨_, _, a⟩ | ⟨a, _⟩
  · rcases rz_up h' hg with ⟨_, _, b⟩ | ⟨b, _⟩
    · rw [a, b]; omega
    · rw [b] at hq; cases hq
  · rw [a] at hp; cases hp
/-- Up tells where there is a number that is no less. -/
theorem up_tells {X Y : Int} {D : Nat} {p q : Nat × Bool} (hD : 0 < D) (h : RndZ 1 X D p) (h' : RndZ 1 Y D q) (hle : X ≤ Y) (hq : q.2 = true) : p.2 = true := by
  obtain ⟨f, hf⟩ := Sf.some X hD
  obtain ⟨g, hg⟩ := Sf.some Y hD
  have hc : ceilK X D f ≤ ceilK Y D g := (ceil_le hD hf _).1 (Int.le_trans hle ((ceil_le hD hg _).2 (Int.le_refl _)))
  rcases rz_up h hf with ⟨a, _, _⟩ | ⟨_, a⟩
  · exact a
  · rcases rz_up h' hg with ⟨_, b, _⟩ | ⟨b, _⟩
    · omega
    · rw [b] at hq; cases hq
theorem canon_plain {u : Nat} (h : Canon u) : plainM u = u := by
  unfold plainM
  split
  · rename_i h0
    unfold Canon at h
    rw [h, h0]
    decide
  · rfl
/-- What a rounding up of an exact sum tells. -/
theorem rnd_far {z : ZD} {j u : Nat} {b : Bool} (hF : FnZ z) (hj : j < z.rn) (h : RndO 1 (farZ z j) u b) {a : Nat} (ha : a = 1166) : RndZ 1 (reA z j * ((2 ^ a : Nat) : Int)) (2 ^ a) (u, b) := by
  rw [farZ_is ha hF hj] at h
  exact h a ha
theorem far_le {z : ZD} {j u : Nat} (hF : FnZ z) (hj : j < z.rn) (h : RndO 1 (farZ z j) u true) : reA z j ≤ fval u ∧ Fin u ∧ u < 18446744073709551616 ∧ plainM u = u := by
  obtain ⟨a, ha⟩ : ∃ a : Nat, a = 1166 := ⟨_, rfl⟩
  have h1 := rnd_far hF hj h ha
  have h2 := up_leT (Nat.two_pow_pos a) h1
  have h3 := rz_canon h1
  have hp : (0 : Int) < ((2 ^ a : Nat) : Int) := by have := Nat.two_pow_pos a; omega
  exact ⟨Int.le_of_mul_le_mul_right h2 hp, h3.1, h3.2.1, canon_plain h3.2.2⟩
theorem pk_fin {z : ZD} (h : FnZ z) {l : List Nat} (hl : l.length ≤ 1050000) (io : Option Addr) (dc : Nat) (go : Option Addr) (gc : Nat) : FnZ (pkZ z io dc go gc l) := by
  refine ⟨h.c, h.r, fun k j => ?_, hl⟩
  show Fin (((l.map fun j => z.gs[j]?.getD [])[k]?.getD [])[j]?.getD 0)
  rw [List.getElem?_map]
  cases l[k]? with
  | none => simp; decide
  | some x => exact h.g x j
theorem numN_plain (us : List Nat) (n : Int) (h : numN us n = true) (hl : ∀ u ∈ us, u < 18446744073709551616) : numN (us.map plainM) n = true := by
  obtain ⟨h1, h2⟩ := numN_fin h
  unfold numN numsB
  rw [List.length_map, decide_eq_true h1, Bool.true_and, List.all_eq_true]
  intro u hu
  obtain ⟨x, hx, rfl⟩ := List.mem_map.1 hu
  exact decide_eq_true (plain_fval (hl x hx) (h2 x hx)).2.1
/-- A zonotope without a nought's sign. -/
structure Pln (y : ZD) : Prop where
  c : y.cs.map plainM = y.cs
  g : ∀ i : Nat, (y.gs[i]?.getD []).map plainM = y.gs[i]?.getD []
  r : ∀ j, j < y.rn → plainM (y.rs[j]?.getD 0) = y.rs[j]?.getD 0
/-- x is what low columns of z leave. -/
structure StR (z x : ZD) (low : Nat) : Prop where
  le : low ≤ z.gn
  N : x.N = z.N
  bad : x.bad = false
  wh : wholeB x = true
  dn : x.dn = low
  gn : x.gn = low
  rn : x.rn = z.rn
  ids : x.ids = (keptL (lsZ z) z.gn low).map (fun j => z.ids[j]?.getD 0)
  gs : ∀ i, i < low → (x.gs[i]?.getD []).map plainM = (z.gs[(keptL (lsZ z) z.gn low)[i]?.getD 0]?.getD []).map plainM
  rs : ∀ j, j < z.rn → fval (z.rs[j]?.getD 0) + ((magS z.gs j ((plN (lsZ z) z.gn).take (z.gn - low)) : Nat) : Int) ≤ fval (x.rs[j]?.getD 0)
theorem StR.start {z : ZD} (hb : z.bad = false) (hw : wholeB z = true) (hdg : z.dn = z.gn) (hl : z.ids.length = z.gn) : StR z z z.gn := by
  refine ⟨Nat.le_refl _, rfl, hb, hw, hdg, rfl, rfl, ?_, fun i hi => ?_, fun j hj => ?_⟩
  · rw [keptL_all]
    apply List.ext_getElem
    · simp [hl]
    · intro i h1 h2
      simp [List.getElem?_eq_getElem h1]
  · rw [keptL_all]
    simp [hi]
  · rw [Nat.sub_self, List.take_zero]
    show _ + ((magS z.gs j [] : Nat) : Int) ≤ _
    have : magS z.gs j [] = 0 := rfl
    rw [this]
    omega
theorem StR.loss {z x : ZD} {low : Nat} (h : StR z x low) : ∀ i, i < low → lsZ x i = lsZ z ((keptL (lsZ z) z.gn low)[i]?.getD 0) := fun i hi => lossV_like (h.gs i hi)
theorem StR.idx {z x : ZD} {low : Nat} (h : StR z x low) {i : Nat} (hi : i < low) : x.ids[i]?.getD 0 = z.ids[(keptL (lsZ z) z.gn low)[i]?.getD 0]?.getD 0 := by
  have hl : i < (keptL (lsZ z) z.gn low).length := by rw [keptL_len h.le]; exact hi
  rw [h.ids, List.getElem?_map, List.getElem?_eq_getElem hl]
  rfl
theorem magS_map {gs hs : List (List Nat)} {j : Nat} {f : Nat → Nat} : ∀ (l : List Nat), (∀ i ∈ l, rmag (frung ((gs[i]?.getD [])[j]?.getD 0)) = rmag (frung ((hs[f i]?.getD [])[j]?.getD 0))) → magS gs j l = magS hs j (l.map f)
  | [], _ => rfl
  | i :: l, h => by
    have h1 := magS_map l fun k hk => h k (List.mem_cons_of_mem _ hk)
    unfold magS at h1 ⊢
    rw [List.map_cons, List.map_cons, List.map_cons, List.sum_cons, List.sum_cons, h i List.mem_cons_self, h1]
/-- One step. -/
theorem StR.step {z x y : ZD} {low : Nat} {s : Int} {W V : World} (h : StR z x low) (hx : WhF x) (hzx : ZR V x) (hzy : ZR W y) (hr : RdC x s y) : y = badN z.N ∨ (StR z y (min low (max s 0).toNat) ∧ Pln y) := by
  have hck : checkB x = true := by unfold checkB; rw [h.bad]; simpa using h.wh
  obtain ⟨a, ha⟩ : ∃ a, ((x.dn : Int) - max s 0).toNat = a := ⟨_, rfl⟩
  have hal : a ≤ low := by rw [← ha, h.dn]; omega
  have hlow : low - a = min low (max s 0).toNat := by rw [← ha, h.dn]; omega
  have hgo : goesF x ((x.dn : Int) - max s 0) = fun i => decide (i ∈ (plN (lsZ x) low).take a) := by
    funext i
    unfold goesF
    rw [ha, h.gn]
  rcases hr.is with ⟨h1, _⟩ | ⟨_, h1, _⟩ | ⟨_, _, _, h1⟩ | ⟨_, _, y3, y4, y5, y6, y7, y8, y9⟩
  · rw [hck] at h1; cases h1
  · rw [h.bad] at h1; cases h1
  · left; rw [h1, h.N]
  · right
    rw [hgo, h.gn] at y6 y7 y9
    obtain ⟨P, hP⟩ : ∃ P, pickL (fun i => !decide (i ∈ (plN (lsZ x) low).take a)) low = P := ⟨_, rfl⟩
    obtain ⟨G, hG⟩ : ∃ G, pickL (fun i => decide (i ∈ (plN (lsZ x) low).take a)) low = G := ⟨_, rfl⟩
    have hPK := kept_sub (a := a) h.le hal h.loss
    have hGK := gone_sub (a := a) h.le h.loss
    rw [hP] at hPK
    rw [hG] at hGK
    have hPl : ∀ i ∈ P, i < low := by rw [← hP]; exact pick_lt _ _
    have hGl : ∀ i ∈ G, i < low := by rw [← hG]; exact pick_lt _ _
    have hPr : P.Pairwise (· < ·) := by rw [← hP]; exact pick_rise _ _
    have hGn : G.length ≤ low := by rw [← hG]; exact pickL_len _ _
    have y6 : y.ids = P.map (fun j => x.ids[j]?.getD 0) := by rw [← hP]; exact y6
    have y7 : y.gs = P.map (fun j => (x.gs[j]?.getD []).map plainM) := by rw [← hP]; exact y7
    have y9 : ∀ j, j < x.rn → RndO 1 (farZ (pkZ x none 0 none 0 G) j) (y.rs[j]?.getD 0) true := by rw [← hG]; exact y9
    have hlen : P.length = low - a := by have := congrArg List.length hPK; rw [List.length_map, keptL_len (by have := h.le; omega)] at this; exact this
    have hfew : low ≤ 1050000 := by rw [← h.dn]; exact hx.fin.few
    have hf := fun j (hj : j < x.rn) => far_le (z := pkZ x none 0 none 0 G) (j := j) (pk_fin hx.fin (by omega) none 0 none 0) hj (y9 j hj)
    have hwp := (wholeB_iff _).1 (pk_whole h.wh hPr (fun j hj => by rw [h.gn]; exact hPl j hj) none 0 none 0)
    have hwx := (wholeB_iff x).1 h.wh
    have hydn : y.dn = low - a := by rw [← hzy.i.length, y6, List.length_map, hlen]
    have hygn : y.gn = low - a := by rw [← hzy.g.length, y7, List.length_map, hlen]
    have hyrn : y.rn = x.rn := hzy.r.length.symm.trans y8
    have hgi : ∀ i, i < low - a → y.gs[i]?.getD [] = (x.gs[P[i]?.getD 0]?.getD []).map plainM := fun i hi => by
      rw [y7, List.getElem?_map, List.getElem?_eq_getElem (by omega)]; rfl
    refine ⟨⟨by have := h.le; omega, y3.trans h.N, y4, ?_, by omega, by omega, hyrn.trans h.rn, ?_, fun i hi => ?_, fun j hj => ?_⟩, ⟨?_, fun i => ?_, fun j hj => ?_⟩⟩
    · rw [wholeB_iff, y3]
      refine ⟨hwx.1, hwx.2.1, ?_, ?_, by omega, ?_, fun j hj => ?_⟩
      · rw [y5]; exact numN_plain _ _ hwx.2.2.1 hzx.c.lt
      · unfold numN numsB
        rw [y8, hx.N, decide_eq_true rfl, Bool.true_and, List.all_eq_true]
        intro u hu
        obtain ⟨j, hj, rfl⟩ := List.getElem_of_mem hu
        have := (hf j (by omega)).2.1
        rw [List.getElem?_eq_getElem hj] at this
        exact decide_eq_true this
      · unfold posB
        rw [List.all_eq_true]
        intro u hu
        obtain ⟨j, hj, rfl⟩ := List.getElem_of_mem hu
        have h1 := (hf j (by omega)).1
        rw [List.getElem?_eq_getElem hj, reA_pk] at h1
        have h2 := hx.pos j
        have h3 : fval 0 ≤ fval y.rs[j] := by rw [fval_zeroJ]; have : (y.rs[j]?.getD 0) = y.rs[j] := by rw [List.getElem?_eq_getElem hj]; rfl
                                              simp only [Option.getD_some] at h1; omega
        have h4 := (srung_le 0 _).2 h3
        have h5 : srung 0 = 0 := by decide
        rw [h5] at h4
        exact decide_eq_true (by omega)
      · have hj' : j < P.length := by omega
        obtain ⟨q1, q2, q3⟩ := hwp.2.2.2.2.2.2 j hj'
        have e1 : ∀ i, i < P.length → y.ids[i]?.getD 0 = (pkZ x none 0 none 0 P).ids[i]?.getD 0 := fun i hi => by rw [y6]; rfl
        refine ⟨?_, ?_, ?_⟩
        · rw [e1 j hj']
          by_cases e : j = 0
          · rw [if_pos e] at q1 ⊢; exact q1
          · rw [if_neg e] at q1 ⊢; rw [e1 (j - 1) (by omega)]; exact q1
        · rw [e1 j hj']; exact q2
        · rw [hgi j (by omega)]
          have e2 : (pkZ x none 0 none 0 P).gs[j]?.getD [] = x.gs[P[j]?.getD 0]?.getD [] := by
            show (P.map fun j => x.gs[j]?.getD [])[j]?.getD [] = _
            rw [List.getElem?_map, List.getElem?_eq_getElem hj']; rfl
          rw [e2] at q3
          refine numN_plain _ _ q3 ?_
          exact (hzx.g.each (P[j]?.getD 0) (by rw [h.gn]; rw [List.getElem?_eq_getElem hj']; exact hPl _ (List.getElem_mem hj'))).lt
    · rw [y6, ← hlow, ← hPK, List.map_map]
      refine List.map_congr_left fun i hi => ?_
      exact h.idx (hPl i hi)
    · have hi' : i < low - a := by omega
      have hiP : i < P.length := by omega
      rw [hgi i hi', List.map_map]
      have e0 : plainM ∘ plainM = plainM := by funext b; exact plain_idem b
      rw [e0]
      have hPi : P[i]?.getD 0 < low := by rw [List.getElem?_eq_getElem hiP]; exact hPl _ (List.getElem_mem hiP)
      rw [h.gs _ hPi, ← hlow, ← hPK, List.getElem?_map, List.getElem?_eq_getElem hiP]
      rfl
    · have hj' : j < x.rn := by rw [h.rn]; exact hj
      have h1 := (hf j hj').1
      rw [reA_pk] at h1
      have h2 := h.rs j hj
      have e1 : magS x.gs j G = magS z.gs j (((plN (lsZ z) z.gn).drop (z.gn - low)).take a) := by
        rw [magS_map (hs := z.gs) (f := fun i => (keptL (lsZ z) z.gn low)[i]?.getD 0) G (fun i hi => mag_like (h.gs i (hGl i hi)) j)]
        exact magS_perm hGK
      have e2 : (plN (lsZ z) z.gn).take (z.gn - min low (max s 0).toNat) = (plN (lsZ z) z.gn).take (z.gn - low) ++ ((plN (lsZ z) z.gn).drop (z.gn - low)).take a := by
        rw [← List.take_add]
        congr 1
        have := h.le
        omega
      rw [e2, magS_append, ← e1]
      omega
    · rw [y5, List.map_map]
      have e0 : plainM ∘ plainM = plainM := by funext b; exact plain_idem b
      rw [e0]
    · rw [y7, List.getElem?_map]
      cases P[i]? with
      | none => rfl
      | some k =>
        simp only [Option.map_some, Option.getD_some]
        rw [List.map_map]
        have e0 : plainM ∘ plainM = plainM := by funext b; exact plain_idem b
        rw [e0]
    · exact (hf j (by omega)).2.2.2
end Go.Proofs.YtogdfdhdmfkmaaaGreat

namespace Go.Proofs.YtogdfdhdmfkmaaaGreat
open Go.RowKit Go.Shelf
set_option linter.unusedVariables false
set_option linter.unusedSimpArgs false
open Ieee

theorem rescaleT {d V : Int} {D : Nat} {p : Nat × Bool} (h : RndZ d V D p) (c : Nat) (hc : 0 < c) : RndZ d (V * c) (D * c) p := by
  have h1 : (V * (c : Int)).natAbs = V.natAbs * c := by rw [Int.natAbs_mul, Int.natAbs_natCast]
  have h2 : decide (V * (c : Int) < 0) = decide (V < 0) := by
    have hc' : (0 : Int) < c := by omega
    congr 1; apply propext
    constructor
    · intro h; rcases Int.lt_or_le V 0 with g | g
      · exact g
      · have := Int.mul_nonneg g (Int.le_of_lt hc'); omega
    · intro h; exact Int.mul_neg_of_neg_of_pos h hc'
  unfold RndZ; rw [h1, h2]; exact Rnd.scale h c hc
theorem exact_up {r a : Nat} (hr : r < 18446744073709551616) (hf : Fin r) : RndZ 1 (fval r * ((2 ^ a : Nat) : Int)) (2 ^ a) (plainM r, true) := by
  have h := rescaleT (RndZ.plain 1 hr hf (.inr (.inl rfl))) (2 ^ a) (Nat.two_pow_pos a)
  rw [Nat.one_mul] at h
  exact h
theorem range_map {α : Type} (l : List α) (d : α) (n : Nat) (h : l.length = n) : (List.range n).map (fun j => l[j]?.getD d) = l := by
  apply List.ext_getElem
  · simp [h]
  · intro i h1 h2
    simp [List.getElem?_eq_getElem h2]
theorem pick_none (n : Nat) : pickL (fun _ => false) n = [] := by unfold pickL; simp
theorem pick_all (n : Nat) : pickL (fun _ => true) n = List.range n := by unfold pickL; simp
/-- Reduced once more to as many: the same. -/
theorem StR.again {z y y2 : ZD} {low : Nat} {s : Int} {W V : World} (h : StR z y low) (hp : Pln y) (hle : low ≤ (max s 0).toNat) (hy : WhF y) (hzy : ZR W y) (hz2 : ZR V y2) (hr : RdC y s y2) : y2.N = y.N ∧ y2.bad = y.bad ∧ y2.cs = y.cs ∧ y2.rs = y.rs ∧ y2.ids = y.ids ∧ y2.gs = y.gs := by
  have hck : checkB y = true := by unfold checkB; rw [h.bad]; simpa using h.wh
  have hgo : goesF y ((y.dn : Int) - max s 0) = fun _ => false := by
    funext i
    unfold goesF
    rw [show ((y.dn : Int) - max s 0).toNat = 0 by rw [h.dn]; omega]
    simp
  obtain ⟨a, ha⟩ : ∃ a : Nat, a = 1166 := ⟨_, rfl⟩
  have hex : ∀ j, j < y.rn → ∀ u b, RndO 1 (farZ (pkZ y none 0 none 0 []) j) u b → u = plainM (y.rs[j]?.getD 0) ∧ b = true := by
    intro j hj u b h1
    have h2 := rnd_far (z := pkZ y none 0 none 0 []) (pk_fin hy.fin (Nat.zero_le _) none 0 none 0) hj h1 ha
    rw [reA_pk, show magS y.gs j [] = 0 from rfl] at h2
    rw [show fval (y.rs[j]?.getD 0) + ((0 : Nat) : Int) = fval (y.rs[j]?.getD 0) by omega] at h2
    have hlt : y.rs[j]?.getD 0 < 18446744073709551616 := by
      have hjl : j < y.rs.length := by rw [hzy.r.length]; exact hj
      rw [List.getElem?_eq_getElem hjl]
      exact hzy.r.lt _ (List.getElem_mem hjl)
    have h3 := RndZ.uniq h2 (exact_up hlt (hy.fin.r j))
    exact ⟨congrArg Prod.fst h3, congrArg Prod.snd h3⟩
  have hrl := hzy.r.length
  rcases hr.is with ⟨h1, _⟩ | ⟨_, h1, _⟩ | ⟨_, _, ⟨j, u, hj, h1⟩, _⟩ | ⟨_, _, y3, y4, y5, y6, y7, y8, y9⟩
  · rw [hck] at h1; cases h1
  · rw [h.bad] at h1; cases h1
  · rw [hgo, pick_none] at h1
    have := (hex j hj u false h1).2
    cases this
  · rw [hgo] at y6 y7 y9
    have y6 : y2.ids = (List.range y.gn).map (fun j => y.ids[j]?.getD 0) := by rw [← pick_all]; exact y6
    have y7 : y2.gs = (List.range y.gn).map (fun j => (y.gs[j]?.getD []).map plainM) := by rw [← pick_all]; exact y7
    rw [pick_none] at y9
    refine ⟨y3, y4.trans h.bad.symm, y5.trans hp.c, ?_, ?_, ?_⟩
    · apply List.ext_getElem
      · omega
      · intro j h1 h2
        have h3 := (hex j (by omega) _ _ (y9 j (by omega))).1
        rw [hp.r j (by omega), List.getElem?_eq_getElem h1, List.getElem?_eq_getElem h2] at h3
        exact h3
    · rw [y6]; exact range_map _ _ _ (by rw [hzy.i.length, h.dn, h.gn])
    · rw [y7]
      have e : (fun j : Nat => (y.gs[j]?.getD []).map plainM) = fun j : Nat => y.gs[j]?.getD [] := by funext j; exact hp.g j
      rw [e]
      exact range_map _ _ _ hzy.g.length
theorem bad_again {N s : Int} {y2 : ZD} (h1 : 0 ≤ N) (h2 : N ≤ 256) (hr : RdC (badN N) s y2) : y2 = badN N := by
  have hck : checkB (badN N) = true := by
    show bareB (badN N) = true
    unfold bareB badN
    simp [h1, h2]
  rcases hr.is with ⟨h, _⟩ | ⟨_, _, h⟩ | ⟨h, _⟩ | ⟨h, _⟩
  · rw [hck] at h; cases h
  · exact h
  · cases h
  · cases h
/-- Reduced at once. -/
theorem StR.once {z x y : ZD} {low : Nat} {W V U : World} (h : StR z x low) (hz : WhF z) (hb : z.bad = false) (hw : wholeB z = true) (hx : WhF x) (hzz : ZR U z) (hzx : ZR V x) (hzy : ZR W y) (hr : RdC z (low : Int) y) :
    y.bad = false ∧ y.ids = x.ids ∧ y.dn = low ∧ y.gn = low ∧ y.rn = x.rn ∧ (∀ i, i < low → y.gs[i]?.getD [] = (x.gs[i]?.getD []).map plainM) ∧ (∀ j, j < x.rn → Fin (y.rs[j]?.getD 0) ∧ srung (y.rs[j]?.getD 0) ≤ srung (x.rs[j]?.getD 0)) := by
  have hck : checkB z = true := by unfold checkB; rw [hb]; simpa using hw
  have hdg := hz.dg
  have hle := h.le
  have hgo : goesF z ((z.dn : Int) - max (low : Int) 0) = fun i => decide (i ∈ (plN (lsZ z) z.gn).take (z.gn - low)) := by
    funext i
    unfold goesF
    rw [show ((z.dn : Int) - max (low : Int) 0).toNat = z.gn - low by omega]
  obtain ⟨a, ha⟩ : ∃ a : Nat, a = 1166 := ⟨_, rfl⟩
  obtain ⟨G, hG⟩ : ∃ G, pickL (fun i => decide (i ∈ (plN (lsZ z) z.gn).take (z.gn - low))) z.gn = G := ⟨_, rfl⟩
  have hGl : G.length ≤ z.gn := by rw [← hG]; exact pickL_len _ _
  have hGp : G.Perm ((plN (lsZ z) z.gn).take (z.gn - low)) := by
    rw [← hG]
    refine (List.perm_ext_iff_of_nodup ((pick_rise _ _).imp fun h => Nat.ne_of_lt h) ((plN_nodup _ _).sublist (List.take_sublist _ _))).2 fun b => ?_
    rw [pick_mem, decide_eq_true_eq]
    exact ⟨fun h => h.2, fun h => ⟨(plN_mem _ _ b).1 (List.mem_of_mem_take h), h⟩⟩
  have hfew := hz.fin.few
  have hup : ∀ j, j < z.rn → ∀ u b, RndO 1 (farZ (pkZ z none 0 none 0 G) j) u b → b = true ∧ Fin u ∧ srung u ≤ srung (x.rs[j]?.getD 0) := by
    intro j hj u b h1
    have h2 := rnd_far (z := pkZ z none 0 none 0 G) (pk_fin hz.fin (by omega) none 0 none 0) hj h1 ha
    rw [reA_pk, magS_perm hGp] at h2
    have hjx : j < x.rn := by rw [h.rn]; exact hj
    have hlt : x.rs[j]?.getD 0 < 18446744073709551616 := by
      have hjl : j < x.rs.length := by rw [hzx.r.length]; exact hjx
      rw [List.getElem?_eq_getElem hjl]
      exact hzx.r.lt _ (List.getElem_mem hjl)
    have h3 := exact_up (a := a) hlt (hx.fin.r j)
    have h4 := Int.mul_le_mul_of_nonneg_right (h.rs j hj) (Int.natCast_nonneg (2 ^ a))
    have h5 : b = true := up_tells (Nat.two_pow_pos a) h2 h3 h4 rfl
    have h6 := up_risesT (Nat.two_pow_pos a) h2 h3 h4 h5 rfl
    have h7 := (srung_le _ _).2 (Int.le_of_eq (plain_fval hlt (hx.fin.r j)).1)
    exact ⟨h5, (rz_canon h2).1, Int.le_trans h6 h7⟩
  rcases hr.is with ⟨h1, _⟩ | ⟨_, h1, _⟩ | ⟨_, _, ⟨j, u, hj, h1⟩, _⟩ | ⟨_, _, y3, y4, y5, y6, y7, y8, y9⟩
  · rw [hck] at h1; cases h1
  · rw [hb] at h1; cases h1
  · rw [hgo, hG] at h1
    have := (hup j hj u false h1).1
    cases this
  · rw [hgo] at y6 y7 y9
    rw [hG] at y9
    have y6 : y.ids = (keptL (lsZ z) z.gn low).map (fun j => z.ids[j]?.getD 0) := by rw [← goes_kept hle]; exact y6
    have y7 : y.gs = (keptL (lsZ z) z.gn low).map (fun j => (z.gs[j]?.getD []).map plainM) := by rw [← goes_kept hle]; exact y7
    have hkl := keptL_len (v := lsZ z) hle
    refine ⟨y4, y6.trans h.ids.symm, by rw [← hzy.i.length, y6, List.length_map, hkl], by rw [← hzy.g.length, y7, List.length_map, hkl], by rw [← hzy.r.length, y8, h.rn], fun i hi => ?_, fun j hj => ?_⟩
    · rw [h.gs i hi, y7, List.getElem?_map, List.getElem?_eq_getElem (by omega)]
      rfl
    · have hj' : j < z.rn := by rw [← h.rn]; exact hj
      exact (hup j hj' _ _ (y9 j hj')).2
end Go.Proofs.YtogdfdhdmfkmaaaGreat

namespace Go.Proofs.YtogdfdhdmfkmaaaGreat
open Go.RowKit Go.Shelf
set_option linter.unusedVariables false
set_option linter.unusedSimpArgs false

theorem ltN_ord {u v : Nat} (hu : Fin u) (hv : Fin v) : (FloatKind.f64.format.order u v == some Ordering.lt) = decide (srung u < srung v) := by
  have ho := order_rung (x := u) (y := v) (Nat.le_of_lt hu) (Nat.le_of_lt hv)
  rw [f64_fmtJ, ho]
  by_cases h : srung u < srung v
  · rw [Int.compare_eq_lt.2 h, decide_eq_true h]; rfl
  · rw [decide_eq_false h]
    by_cases h2 : srung u = srung v
    · rw [Int.compare_eq_eq.2 h2]; rfl
    · rw [Int.compare_eq_gt.2 (by omega)]; rfl
theorem srung_plain (a : Nat) : srung (plainM a) = srung a := by
  unfold plainM
  split
  · rename_i h; rw [h]; decide
  · rfl
theorem fin_plainT {u : Nat} (h : Fin u) : Fin (plainM u) := by unfold Fin; rw [frung_plain]; exact h
/-- What the document's Of tells, in short. -/
structure OfS (z u : ZD) : Prop where
  N : u.N = z.N
  bad : u.bad = z.bad
  cs : u.cs = z.cs
  rs : u.rs = z.rs
  ids : u.ids = z.ids
  gs : u.gs = z.gs
  dn : u.dn = z.dn
  gn : u.gn = z.gn
  cn : u.cn = z.cn
  rn : u.rn = z.rn
theorem OfS.uw {z u : ZD} {W V : World} (k : OfS z u) (hz : ZR W z) (hw : ZW z) (hu : ZU V u) : UW u := by
  have hg : ∀ l ∈ z.gs, ∀ x ∈ l, x < 18446744073709551616 := fun l hl x hx => by
    obtain ⟨j, hj, rfl⟩ := List.getElem_of_mem hl
    have h1 := (hz.g.each j (by rw [← hz.g.length]; exact hj)).lt x
    rw [List.getElem?_eq_getElem hj] at h1
    exact h1 hx
  exact ⟨by rw [k.cn]; exact hw.cl, by rw [k.rn]; exact hw.rl, by rw [k.dn]; exact hw.il, by rw [k.gn]; exact hw.gl, fun j hj => by rw [← (hu.g.each j hj).length, k.gs, (hz.g.each j (by rw [← k.gn]; exact hj)).length]; exact hw.coll j (by rw [← k.gn]; exact hj), by rw [k.cs]; exact hz.c.lt, by rw [k.rs]; exact hz.r.lt, by rw [k.gs]; exact hg⟩
theorem OfS.check {z u : ZD} (k : OfS z u) : checkB u = checkB z := checkB_eq u z k.N k.bad k.cs k.rs k.ids k.gs k.cn k.dn k.gn k.rn
theorem ofT_any (z : ZD) (w : World) (hz : ZR w z) (hw : ZW z) : Calls Tryz.prog 7 #[.agg (zRow z)] w fun e w' => ∃ u : ZD, e = .returned (.agg (zRow u)) ∧ ZU w' u ∧ OfS z u ∧ Below w.heap.size w w' := by
  refine Calls.mono (of10_any z w hz hw) ?_
  rintro e w' ⟨u, rfl, hu, h1, h2, h3, h4, h5, h6, h7, h8, h9, h10, hb⟩
  exact ⟨u, rfl, hu, ⟨h1, h2, h3, h4, h5, h6, h7, h8, h9, h10⟩, hb⟩
set_option maxRecDepth 100000 in
set_option maxHeartbeats 1000000 in
theorem goodT_any (u : ZD) (w : World) (hu : ZU w u) (hw : UW u) : Calls Tryz.prog 6 #[.agg #[.int .i64 u.N, .slice u.co u.cn u.cc, .slice u.io u.dn u.dc, .slice u.go u.gn u.gc, .slice u.ro u.rn u.rc, .bool u.bad]] w fun e w' => e = .returned (.bool (checkB u && !u.bad)) ∧ Below w.heap.size w w' := by
  have HCk : Hid (∀ W', Below w.heap.size w W' → Calls Tryz.prog 20 #[.agg #[.int .i64 u.N, .slice u.co u.cn u.cc, .slice u.io u.dn u.dc, .slice u.go u.gn u.gc, .slice u.ro u.rn u.rc, .bool u.bad]] W' fun e w' => e = .returned (.int .i64 (if checkB u then 0 else 100)) ∧ Below W'.heap.size W' w') := fun W' hb => refCheck_any u W' (hu.later hb) hw
  have X0 : Below w.heap.size w (w.alloc (.cells #[.int .i64 u.N, .slice u.co u.cn u.cc, .slice u.io u.dn u.dc, .slice u.go u.gn u.gc, .slice u.ro u.rn u.rc, .bool u.bad] 33)) := (Below.refl _ w).alloc (Nat.le_refl _) _
  have Y0 : (w.alloc (.cells #[.int .i64 u.N, .slice u.co u.cn u.cc, .slice u.io u.dn u.dc, .slice u.go u.gn u.gc, .slice u.ro u.rn u.rc, .bool u.bad] 33)).heap[w.heap.size]? = some (.cells #[.int .i64 u.N, .slice u.co u.cn u.cc, .slice u.io u.dn u.dc, .slice u.go u.gn u.gc, .slice u.ro u.rn u.rc, .bool u.bad] 33) := heap_alloc_new w _
  have HV : Hid ((checkB u && !u.bad) = (checkB u && !u.bad)) := rfl
  cases hck : checkB u with
  | false =>
    rw [hck] at HCk
    simp only [Bool.false_eq_true, if_false] at HCk
    clear hck hu hw
    go_enter Tryz.func6, Tryz.ntmps6
    go_wp2_with (first
      | (refine wpList_load_row (by rfl) 33 _ (by rfl) w.heap.size _ (by rfl) Y0 _ Tryz.underlying33 rfl 6 Tryz.infoZu (by rfl) ?_)
      | (go_at_call 20; refine Calls.mono (HCk.out _ X0) ?_; rintro e w1 ⟨rfl, b1⟩))
    go_ret
    exact ⟨rfl, to_call X0 b1⟩
  | true =>
    rw [hck] at HCk
    simp only [if_true] at HCk
    cases hbd : u.bad with
    | false =>
      rw [hbd] at HCk X0 Y0
      clear hck hu hw hbd HV
      go_enter Tryz.func6, Tryz.ntmps6
      go_wp2_with (first
        | (refine wpList_load_row (by rfl) 33 _ (by rfl) w.heap.size _ (by rfl) Y0 _ Tryz.underlying33 rfl 6 Tryz.infoZu (by rfl) ?_)
        | (go_at_call 20; refine Calls.mono (HCk.out _ X0) ?_; rintro e w1 ⟨rfl, b1⟩; have q5 := cellAtJ (kept b1 Y0) 5 _ rfl))
      go_ret
      exact ⟨rfl, to_call X0 b1⟩
    | true =>
      rw [hbd] at HCk X0 Y0
      clear hck hu hw hbd HV
      go_enter Tryz.func6, Tryz.ntmps6
      go_wp2_with (first
        | (refine wpList_load_row (by rfl) 33 _ (by rfl) w.heap.size _ (by rfl) Y0 _ Tryz.underlying33 rfl 6 Tryz.infoZu (by rfl) ?_)
        | (go_at_call 20; refine Calls.mono (HCk.out _ X0) ?_; rintro e w1 ⟨rfl, b1⟩; have q5 := cellAtJ (kept b1 Y0) 5 _ rfl))
      go_ret
      exact ⟨rfl, to_call X0 b1⟩
theorem zrow_cells {z : ZD} {o : Nat} {v : Value} (h : (zRow z)[o]? = some v) : (∀ x, v ≠ .float .f64 x) := by
  intro x hx
  subst hx
  unfold zRow at h
  match o, h with
  | 0, h => simp at h
  | 1, h => simp at h
  | 2, h => simp at h
  | 3, h => simp at h
  | 4, h => simp at h
  | 5, h => simp at h
  | o + 6, h => simp at h
theorem RdF.storeZ {w W' : World} {B : Nat} {t : TypeId} {x : ZD} {ao : Option Addr} {len cap : Nat} {us : List Nat} (h : RdF w ao len cap us) (hB : w.heap[B]? = some (.cells (zRow x) t)) (ho : ∀ k, k ≠ B → W'.heap[k]? = w.heap[k]?) : RdF W' ao len cap us := by
  refine ⟨h.length, h.max, h.lt, ?_⟩
  rcases h.cells with h0 | ⟨b, off, ha, hc⟩
  · exact .inl h0
  · refine .inr ⟨b, off, ha, fun j hj => ?_⟩
    have h1 := hc j hj
    rw [← h1]
    refine cell_heapJ (ho b ?_) _
    rintro rfl
    rw [cell_of_row _ _ _ _ _ _ hB] at h1
    exact zrow_cells h1 _ rfl
/-- A zonotope whose lists lie in blocks of their types outlives a store into a zonotope's box. -/
theorem ZR.storeZ {w W' : World} {B : Nat} {x y : ZD} (h : ZR w y) (ht : TyG w y) (hB : w.heap[B]? = some (.cells (zRow x) 26)) (ho : ∀ k, k ≠ B → W'.heap[k]? = w.heap[k]?) : ZR W' y := by
  have hne : ∀ b (cur : Array Value) (t : TypeId), t ≠ 26 → w.heap[b]? = some (.cells cur t) → b ≠ B := by
    rintro b cur t h1 h2 rfl
    rw [hB] at h2
    exact h1 (ty_eq h2).symm
  refine ⟨h.c.storeZ hB ho, ⟨h.i.length, h.i.max, ?_⟩, ⟨h.g.length, h.g.max, ?_, fun j hj => (h.g.each j hj).storeZ hB ho⟩, h.r.storeZ hB ho⟩
  · rcases h.i.cells with h0 | ⟨b, off, ha, hc⟩
    · exact .inl h0
    · obtain ⟨cur, hcur⟩ := ht.i b off ha
      exact .inr ⟨b, off, ha, fun j hj => (cell_heapJ (ho b (hne b cur _ (by decide) hcur)) _).trans (hc j hj)⟩
  · rcases h.g.cells with h0 | ⟨b, off, ha, hc⟩
    · exact .inl h0
    · obtain ⟨cur, hcur⟩ := ht.g b off ha
      exact .inr ⟨b, off, ha, fun j hj => (cell_heapJ (ho b (hne b cur _ (by decide) hcur)) _).trans (hc j hj)⟩
theorem TyG.storeZ {w W' : World} {B : Nat} {x y : ZD} (ht : TyG w y) (hB : w.heap[B]? = some (.cells (zRow x) 26)) (ho : ∀ k, k ≠ B → W'.heap[k]? = w.heap[k]?) : TyG W' y :=
  ht.keep fun k cur t h1 hc => ho k (by rintro rfl; rw [hB] at hc; exact h1 (ty_eq hc).symm)
end Go.Proofs.YtogdfdhdmfkmaaaGreat
