import Derived.Test.YtigaggkipmcgeabZT
import Derived.Test.YtigaggkipmcgeabZW
import Derived.Test.YtigaggkipmcgeabZX
namespace Go.Proofs.Ytigaggkipmcgeab
open Go.RowKit
set_option linter.unusedVariables false

theorem near_mono {X Y : Int} {D : Nat} {f g : Int} (hD : 0 < D) (hf : Sf X D f) (hg : Sf Y D g) (hle : X ≤ Y) : nearS X D f ≤ nearS Y D g := by
  have hfg : f ≤ g := (floor_le hD hg f).1 (Int.le_trans hf.1 hle)
  by_cases e : f = g
  · subst e
    unfold nearS
    by_cases c : 2 * X < (smag f + smag (f + 1)) * D ∨ 2 * X = (smag f + smag (f + 1)) * D ∧ f % 2 = 0
    · rw [if_pos c]; split <;> omega
    · rw [if_neg c, if_neg (by omega)]; omega
  · unfold nearS; split <;> split <;> omega
theorem mid_in {lo hi u : Nat} {b : Bool} (hlo : lo < 18446744073709551616) (hhi : hi < 18446744073709551616) (fl : Fin lo) (fh : Fin hi) (hle : fval lo ≤ fval hi) (h : RndZ 0 (fval lo + fval hi) 2 (u, b)) : b = true ∧ Fin u ∧ fval lo ≤ fval u ∧ fval u ≤ fval hi := by
  have h1 := (RndZ.plain 0 hlo fl (by decide)).rescale 2 (by decide)
  have h2 := (RndZ.plain 0 hhi fh (by decide)).rescale 2 (by decide)
  rw [show (1 : Nat) * 2 = 2 from rfl] at h1 h2
  obtain ⟨f, hf⟩ := Sf.some (fval lo * ((2 : Nat) : Int)) (show 0 < 2 by decide)
  obtain ⟨g, hg⟩ := Sf.some (fval hi * ((2 : Nat) : Int)) (show 0 < 2 by decide)
  obtain ⟨k, hk⟩ := Sf.some (fval lo + fval hi) (show 0 < 2 by decide)
  have m1 := near_mono (by decide) hf hk (by omega)
  have m2 := near_mono (by decide) hk hg (by omega)
  rcases rz_near h1 hf with ⟨_, a2, a3⟩ | ⟨a1, _⟩
  · rcases rz_near h2 hg with ⟨_, b2, b3⟩ | ⟨b1, _⟩
    · rcases rz_near h hk with ⟨c1, c2, c3⟩ | ⟨c1, c2⟩
      · have p1 := plain_fval hlo fl
        have p2 := plain_fval hhi fh
        have s1 := srung_le (plainM lo) u
        have s2 := srung_le u (plainM hi)
        refine ⟨c1, (rz_canon h).1, ?_, ?_⟩
        · rw [← p1.1]; exact s1.1 (by have a3' : srung (plainM lo) = _ := a3; have c3' : srung u = _ := c3; omega)
        · rw [← p2.1]; exact s2.1 (by have b3' : srung (plainM hi) = _ := b3; have c3' : srung u = _ := c3; omega)
      · omega
    · have := congrArg Prod.snd b1; cases this
  · have := congrArg Prod.snd a1; cases this
theorem up_ge {V : Int} {u : Nat} (hV : 0 ≤ V) (h : RndZ 1 V 1 (u, true)) : V ≤ fval u ∧ (fval u = 0 ↔ V = 0) := by
  have h0 : V = 0 → fval u = 0 := by
    intro e
    subst e
    have := h.uniq (RndZ.plain (r := 0) 1 (by decide) (by decide) (by decide))
    have e2 : u = plainM 0 := congrArg Prod.fst this
    rw [e2]; decide
  have hge : V ≤ fval u := by
    obtain ⟨f, hf⟩ := Sf.some V (show 0 < 1 by decide)
    rcases rz_up h hf with ⟨_, _, a⟩ | ⟨a, _⟩
    · have k : V ≤ smag (ceilK V 1 f) * ((1 : Nat) : Int) := (ceil_le (by decide) hf _).2 (Int.le_refl _)
      rw [fval_smag]
      have a' : srung u = max (ceilK V 1 f) (1 - (infK : Int)) := a
      have m : smag (ceilK V 1 f) ≤ smag (srung u) := by
        rcases Int.lt_trichotomy (smag (ceilK V 1 f)) (smag (srung u)) with c | c | c
        · omega
        · omega
        · have := lt_of_smag c; omega
      omega
    · cases a
  exact ⟨hge, fun e => by omega, h0⟩
theorem hull_self {lo hi : Nat} {r : Nat × Nat × Bool} (hlo : lo < 18446744073709551616) (hhi : hi < 18446744073709551616) (hg : Good lo hi false) {X Y : Int} (hX : X = fval lo) (hY : Y = fval hi) (h : SpR X Y 1 r) : r = (plainM lo, plainM hi, false) := by
  subst hX hY
  exact h.uniq ⟨(plainM lo, true), (plainM hi, true), RndZ.plain 2 hlo hg.2.1 (by decide), RndZ.plain 1 hhi hg.2.2.1 (by decide), rfl⟩
theorem neg_self {lo hi : Nat} {r s : Nat × Nat × Bool} (hlo : lo < 18446744073709551616) (hhi : hi < 18446744073709551616) (hg : Good lo hi false) (h : UnR (SpR (-fval hi) (-fval lo) 1) lo hi false r) (k : UnR (SpR (-fval r.2.1) (-fval r.1) 1) r.1 r.2.1 r.2.2 s) : s = (plainM lo, plainM hi, false) := by
  have fl := fopp_parts hlo
  have fh := fopp_parts hhi
  have f1 : Fin (fopp lo) := by unfold Fin; rw [fl.1]; exact hg.2.1
  have f2 : Fin (fopp hi) := by unfold Fin; rw [fh.1]; exact hg.2.2.1
  unfold UnR at h
  rw [if_pos hg, ← fopp_fval hhi, ← fopp_fval hlo] at h
  have e : r = (plainM (fopp hi), plainM (fopp lo), false) := h.uniq ⟨(plainM (fopp hi), true), (plainM (fopp lo), true), RndZ.plain 2 fh.2.2 f2 (by decide), RndZ.plain 1 fl.2.2 f1 (by decide), rfl⟩
  have p1 := plain_fval fh.2.2 f2
  have p2 := plain_fval fl.2.2 f1
  have m := good_mono hg
  have gr : Good r.1 r.2.1 r.2.2 := by
    rw [e]
    refine ⟨rfl, p1.2.1, p2.2.1, (srung_le _ _).2 ?_⟩
    show fval (plainM (fopp hi)) ≤ fval (plainM (fopp lo))
    rw [p1.1, p2.1, fopp_fval hhi, fopp_fval hlo]; omega
  unfold UnR at k
  rw [if_pos gr] at k
  refine hull_self hlo hhi hg ?_ ?_ k
  · rw [e]; show -fval (plainM (fopp lo)) = _; rw [p2.1, fopp_fval hlo]; omega
  · rw [e]; show -fval (plainM (fopp hi)) = _; rw [p1.1, fopp_fval hhi]; omega
theorem ord_same {x y : Nat} (hx : Fin x) (hy : Fin y) (h : fval x = fval y) : (FloatKind.f64.format.order x y == some .eq) = true := by
  rw [f64_fmt, ord_eq (Nat.le_of_lt hx) (Nat.le_of_lt hy)]; exact decide_eq_true ((srung_eq x y).2 h)
theorem neg_lt {lo hi : Nat} {b : Bool} {r : Nat × Nat × Bool} {X Y : Int} (h : UnR (SpR X Y 1) lo hi b r) : r.1 < 18446744073709551616 ∧ r.2.1 < 18446744073709551616 := by
  unfold UnR at h; split at h
  · exact h.lt
  · rw [h]; exact ⟨by decide, by decide⟩
end Go.Proofs.Ytigaggkipmcgeab
