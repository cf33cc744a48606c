import Derived.Test.YtbjnkefjlaplkaaGYa
import Derived.Test.YtbjnkefjlaplkaaGJg
import Derived.Test.YtbjnkefjlaplkaaJZf
import Derived.Test.YtbjnkefjlaplkaaGJi
import Derived.Test.YtbjnkefjlaplkaaJYh
import Derived.Test.YtbjnkefjlaplkaaGJd
import Derived.Test.YtbjnkefjlaplkaaZX
namespace Go.Proofs.Ytbjnkefjlaplkaa
open Go.RowKit Go.Shelf
set_option linter.unusedVariables false
set_option linter.unusedSimpArgs false

theorem frung_of_srung {u : Nat} (h : srung u = 0) : frung u = 0 := by
  unfold srung at h
  split at h <;> omega
theorem frung_plainM (u : Nat) : frung (plainM u) = frung u := by
  unfold plainM
  split
  · rename_i h
    rw [frung_of_srung h]; decide
  · rfl
theorem rmag_zeroJ : rmag 0 = 0 := by decide
theorem fval_of_srung {u : Nat} (h : srung u = 0) : fval u = 0 := by
  unfold fval
  rw [frung_of_srung h, rmag_zeroJ]
  split <;> rfl
theorem fin_plainM {u : Nat} (h : Fin u) : Fin (plainM u) := by unfold Fin at *; rw [frung_plainM]; exact h
theorem hold_g {a E : Nat} {x : Int} (h : a + E ≤ 4800) (hx : x.natAbs < 2 ^ E) : holdZ (x * ((2 ^ a : Nat) : Int)) = some (x * ((2 ^ a : Nat) : Int)) := by
  unfold holdZ
  rw [if_pos]
  obtain ⟨Q, hQ⟩ : ∃ Q : Nat, Q = 4800 := ⟨_, rfl⟩
  have h2 : (2 : Nat) ^ E * 2 ^ a ≤ 2 ^ Q := by rw [← Nat.pow_add]; exact Nat.pow_le_pow_right (by omega) (by omega)
  have h3 : (x * ((2 ^ a : Nat) : Int)).natAbs < 2 ^ Q := by
    rw [Int.natAbs_mul, Int.natAbs_natCast]
    exact Nat.lt_of_lt_of_le (Nat.mul_lt_mul_of_pos_right hx (Nat.two_pow_pos _)) h2
  rw [hQ] at h3
  generalize x * ((2 ^ a : Nat) : Int) = X at *
  generalize 2 ^ 4800 = L at *
  omega
theorem prodO_g {a E u b : Nat} {x y : Int} (h : a + E ≤ 4800) (hu : Fin u) (hb : Fin b) (hp : prodZ u b 0 = y * ((2 ^ a : Nat) : Int)) (hx : (x + y).natAbs < 2 ^ E) : prodO (some (x * ((2 ^ a : Nat) : Int))) u b 0 = some ((x + y) * ((2 ^ a : Nat) : Int)) := by
  unfold prodO
  simp only [Option.bind_some]
  rw [if_pos ⟨hu, hb, by decide, by decide⟩, hp, ← Int.add_mul, hold_g h hx]
theorem prodZ_92 {a u v : Nat} (ha : a = 92) : prodZ u v 0 = fval u * fval v * ((2 ^ a : Nat) : Int) := by
  subst ha
  unfold prodZ
  rw [show ((0 : Int) + 92).toNat = 92 by decide]
theorem mul_bound {u v F : Nat} (hF : F = 4196) (hu : Fin u) (hv : Fin v) : (fval u * fval v).natAbs ≤ 2 ^ F := by
  obtain ⟨G, hG⟩ : ∃ G : Nat, G = 2098 := ⟨_, rfl⟩
  have h1 := fval_ltJ hu hG
  have h2 := fval_ltJ hv hG
  rw [Int.natAbs_mul, fval_absJ, fval_absJ, show F = G + G by omega, Nat.pow_add]
  exact Nat.mul_le_mul (Nat.le_of_lt h1) (Nat.le_of_lt h2)
theorem much_bound {F E : Nat} (hF : F = 4196) (hE : E = 4700) : 1073741824 * 2 ^ F < 2 ^ E := by
  rw [show (1073741824 : Nat) = 2 ^ 30 by decide, ← Nat.pow_add]
  exact Nat.pow_lt_pow_right (by omega) (by omega)
/-- A sum of products, exact, in units of 2^-2148. -/
def dotV (ds vs : List Nat) : Nat → Int
  | 0 => 0
  | k + 1 => dotV ds vs k + fval (ds[k]?.getD 0) * fval (vs[k]?.getD 0)
theorem dotV_bound {ds vs : List Nat} {F : Nat} (hF : F = 4196) (hd : ∀ j : Nat, Fin (ds[j]?.getD 0)) (hv : ∀ j : Nat, Fin (vs[j]?.getD 0)) : ∀ k, (dotV ds vs k).natAbs ≤ k * 2 ^ F
  | 0 => by simp [dotV]
  | k + 1 => by
    have ih := dotV_bound hF hd hv k
    have hp := mul_bound hF (hd k) (hv k)
    rw [dotV, Nat.succ_mul]
    generalize 2 ^ F = X at *
    generalize fval (ds[k]?.getD 0) * fval (vs[k]?.getD 0) = Y at *
    omega
/-- What the box gives, exact. -/
def boxV (ds rs : List Nat) : Nat → Int
  | 0 => 0
  | k + 1 => boxV ds rs k + fval (frung (ds[k]?.getD 0)) * fval (rs[k]?.getD 0)
theorem boxV_bound {ds rs : List Nat} {F : Nat} (hF : F = 4196) (hd : ∀ j : Nat, Fin (ds[j]?.getD 0)) (hv : ∀ j : Nat, Fin (rs[j]?.getD 0)) : ∀ k, (boxV ds rs k).natAbs ≤ k * 2 ^ F
  | 0 => by simp [boxV]
  | k + 1 => by
    have ih := boxV_bound hF hd hv k
    have hp := mul_bound hF (fin_frung (hd k)) (hv k)
    rw [boxV, Nat.succ_mul]
    generalize 2 ^ F = X at *
    generalize fval (frung (ds[k]?.getD 0)) * fval (rs[k]?.getD 0) = Y at *
    omega
theorem sumA_map {α : Type} (A : α → Nat) : ∀ l : List α, sumA A l = (l.map A).sum
  | [] => rfl
  | k :: ks => by rw [sumA, sumA_map A ks]; rfl
/-- A sum over columns. -/
def sumG (B : List Nat → Nat) (gs : List (List Nat)) : Nat := (gs.map B).sum
theorem sumG_append (B : List Nat → Nat) (l m : List (List Nat)) : sumG B (l ++ m) = sumG B l + sumG B m := by unfold sumG; rw [List.map_append, List.sum_append]
theorem sumG_one (B : List Nat → Nat) (g : List Nat) : sumG B [g] = B g := by simp [sumG]
theorem sumA_fin {n : Nat} {gs : List (List Nat)} (B : List Nat → Nat) (h : gs.length = n) : sumA (fun k : _root_.Fin n => B (gs[k.val]?.getD [])) (List.finRange n) = sumG B gs := by
  subst h
  unfold sumG
  rw [sumA_map]
  congr 1
  apply List.ext_getElem
  · simp
  · intro i h1 h2
    have hi : i < gs.length := by simpa using h1
    simp [List.getElem?_eq_getElem hi]
/-- How far a zonotope goes in a direction, exact, in units of 2^-2148. -/
def supV (ds cs rs : List Nat) (gs : List (List Nat)) (n : Nat) : Int := dotV ds cs n + (sumG (fun g => (dotV ds g n).natAbs) gs : Nat) + boxV ds rs n
theorem reA_is {z : ZD} (hg : z.gs.length = z.dn) (i : Nat) : reA z i = fval (z.rs[i]?.getD 0) + (sumG (fun g => rmag (frung (g[i]?.getD 0))) z.gs : Nat) := by
  unfold reA
  rw [← sumA_fin (n := z.dn) (gs := z.gs) (fun g => rmag (frung (g[i]?.getD 0))) hg]
  rfl
theorem RndO.finJ {d : Int} {o : Option Int} {u : Nat} {b : Bool} (h : RndO d o u b) : Fin u := by
  cases o with
  | none => rw [h.1]; decide
  | some z =>
    obtain ⟨a, ha⟩ : ∃ a : Nat, a = 1166 := ⟨_, rfl⟩
    exact (tell_fin (h a ha)).1
theorem AroR.uniq {c : Nat} {o : Option Int} {r s : Nat × Nat × Bool} (h : AroR c o r) (k : AroR c o s) : r = s := by
  obtain ⟨lo, low, hi, high, h1, h2, h3⟩ := h
  obtain ⟨lo', low', hi', high', k1, k2, k3⟩ := k
  obtain ⟨rfl, rfl⟩ := h1.uniq k1
  obtain ⟨rfl, rfl⟩ := h2.uniq k2
  rw [h3, k3]
theorem AroR.fin {c : Nat} {o : Option Int} {r : Nat × Nat × Bool} (h : AroR c o r) : Fin r.1 ∧ Fin r.2.1 := by
  obtain ⟨lo, low, hi, high, h1, h2, h3⟩ := h
  rw [h3]
  split
  · unfold makeS
    split
    · exact ⟨fin_plainM (RndO.finJ h1), fin_plainM (RndO.finJ h2)⟩
    · exact ⟨fin_zeroJ, fin_zeroJ⟩
  · exact ⟨fin_zeroJ, fin_zeroJ⟩
end Go.Proofs.Ytbjnkefjlaplkaa


namespace Go.Proofs.Ytbjnkefjlaplkaa
open Go.RowKit Go.Shelf
set_option linter.unusedVariables false
set_option linter.unusedSimpArgs false

theorem colsB_drop (z : ZD) : ∀ (m k : Nat) (last : Int), k + m = z.dn → (colsB z last ((List.finRange z.dn).drop k) = true ↔ ∀ j : Nat, k ≤ j → j < z.dn → (if j = k then last else z.ids[j - 1]?.getD 0) < z.ids[j]?.getD 0 ∧ z.ids[j]?.getD 0 ≤ 1073741824 ∧ numN (z.gs[j]?.getD []) z.N = true)
  | 0, k, last, h => by
    rw [List.drop_of_length_le (by rw [List.length_finRange]; omega)]
    exact ⟨fun _ j h1 h2 => by omega, fun _ => rfl⟩
  | m + 1, k, last, h => by
    have hk : k < (List.finRange z.dn).length := by rw [List.length_finRange]; omega
    rw [List.drop_eq_getElem_cons hk]
    have ih := colsB_drop z m (k + 1) (z.ids[k]?.getD 0) (by omega)
    have hst : colsB z last ((List.finRange z.dn)[k] :: (List.finRange z.dn).drop (k + 1)) = (colOk z last (List.finRange z.dn)[k] && colsB z (idZ z (List.finRange z.dn)[k]) ((List.finRange z.dn).drop (k + 1))) := rfl
    have he : ((List.finRange z.dn)[k]).val = k := by simp
    have hid : idZ z (List.finRange z.dn)[k] = z.ids[k]?.getD 0 := by unfold idZ; rw [he]
    rw [hst, Bool.and_eq_true, hid, ih]
    unfold colOk
    rw [hid, he]
    simp only [Bool.and_eq_true, decide_eq_true_eq]
    constructor
    · rintro ⟨⟨⟨a1, a2⟩, a3⟩, a4⟩ j h1 h2
      by_cases e : j = k
      · subst e; rw [if_pos rfl]; exact ⟨a1, a2, a3⟩
      · have := a4 j (by omega) h2
        rw [if_neg e]
        by_cases e' : j = k + 1
        · subst e'; rw [if_pos rfl] at this; rw [Nat.add_sub_cancel]; exact this
        · rw [if_neg e'] at this; exact this
    · intro H
      have h0 := H k (Nat.le_refl _) (by omega)
      rw [if_pos rfl] at h0
      refine ⟨⟨⟨h0.1, h0.2.1⟩, h0.2.2⟩, fun j h1 h2 => ?_⟩
      have := H j (by omega) h2
      rw [if_neg (by omega)] at this
      by_cases e' : j = k + 1
      · subst e'; rw [if_pos rfl]; rw [Nat.add_sub_cancel] at this; exact this
      · rw [if_neg e']; exact this
end Go.Proofs.Ytbjnkefjlaplkaa


namespace Go.Proofs.Ytbjnkefjlaplkaa
open Go.RowKit Go.Shelf
set_option linter.unusedVariables false
set_option linter.unusedSimpArgs false

/-- Two zonotopes have the same numbers. -/
structure SmZ (u z : ZD) : Prop where
  N : u.N = z.N
  bad : u.bad = z.bad
  cs : u.cs = z.cs
  rs : u.rs = z.rs
  ids : u.ids = z.ids
  gs : u.gs = z.gs
  dn : u.dn = z.dn
  gn : u.gn = z.gn
  cn : u.cn = z.cn
  rn : u.rn = z.rn
theorem ofU (z : ZD) (w : World) (hz : ZR w z) (hw : ZW z) :
    Calls Try.prog 6 #[.agg (zRow z)] w fun e w' => ∃ u : ZD, e = .returned (.agg (zRow u)) ∧ ZU w' u ∧ SmZ u z ∧ Below w.heap.size w w' := by
  refine Calls.mono (of10_any z w hz hw) ?_
  rintro e w1 ⟨u, he, hu, u1, u2, u3, u4, u5, u6, u7, u8, u9, u10, b1⟩
  exact ⟨u, he, hu, ⟨u1, u2, u3, u4, u5, u6, u7, u8, u9, u10⟩, b1⟩
theorem realsU {w0 : World} (z u : ZD) (E : Nat) (hE : E = 1074) (W : World) (hz : ZR w0 z) (hw : ZW z) (hu : ZU W u) (k : SmZ u z) :
    Calls Try.prog 18 #[.agg (zRow u)] W fun e w' => ∃ N' a1 l1 c1 a2 l2 c2 a3 l3 c3 a4 l4 c4, e = .returned (.tuple #[.agg #[.int .i64 N', .slice a1 l1 c1, .slice a2 l2 c2, .slice a3 l3 c3, .slice a4 l4 c4], .bool (!z.bad && wholeB z)]) ∧ ((!z.bad && wholeB z) = true → N' = z.N ∧ ∃ gl, RlS w' W.heap.size E z.cs z.rs z.ids z.gs (.slice a1 l1 c1) (.slice a4 l4 c4) (.slice a2 l2 c2) (.slice a3 l3 c3) gl) ∧ Below W.heap.size W w' := by
  have h64 := zr_fin64 hz
  have huw : UW u := ⟨by rw [k.cn]; exact hw.cl, by rw [k.rn]; exact hw.rl, by rw [k.dn]; exact hw.il, by rw [k.gn]; exact hw.gl, fun j hj => by rw [← (hu.g.each j hj).length, k.gs, (hz.g.each j (by rw [← k.gn]; exact hj)).length]; exact hw.coll j (by rw [← k.gn]; exact hj), by rw [k.cs]; exact h64.1, by rw [k.rs]; exact h64.2.1, by rw [k.gs]; exact h64.2.2⟩
  have hge := good_eq k.bad (checkB_eq u z k.N k.bad k.cs k.rs k.ids k.gs k.cn k.dn k.gn k.rn)
  have h := reals_any u E hE W hu huw
  rw [hge] at h
  refine Calls.mono h ?_
  rintro e w' ⟨⟨N', a1, l1, c1, a2, l2, c2, a3, l3, c3, a4, l4, c4, he, hN⟩, hb⟩
  refine ⟨N', a1, l1, c1, a2, l2, c2, a3, l3, c3, a4, l4, c4, he, fun g => ?_, hb⟩
  have h2 := hN g
  rw [k.cs, k.rs, k.ids, k.gs, k.N] at h2
  exact h2
theorem range3 {w : World} {b o : Nat} {x y z : Value} (h1 : w.cell? ⟨b, o, none⟩ = some x) (h2 : w.cell? ⟨b, o + 1, none⟩ = some y) (h3 : w.cell? ⟨b, o + 2, none⟩ = some z) : w.rangeAt b o [x, y, z] := by
  intro j v hv
  match j, hv with
  | 0, hv => simp only [List.getElem?_cons_zero, Option.some.injEq] at hv; subst hv; exact h1
  | 1, hv => simp only [List.getElem?_cons_succ, List.getElem?_cons_zero, Option.some.injEq] at hv; subst hv; exact h2
  | 2, hv => simp only [List.getElem?_cons_succ, List.getElem?_cons_zero, Option.some.injEq] at hv; subst hv; exact h3
  | j + 3, hv => simp at hv
theorem RowN.range {w : World} {base E : Nat} {v : Value} {us : List Nat} (h : RowN w base v E us) {k : Nat} (hk : k < us.length) : ∃ b cap n o l c e, v = .slice (some ⟨b, 0, none⟩) us.length cap ∧ w.rangeAt b (k * 3) [.bool n, .slice o l c, .int .i64 e] ∧ NumC w (.agg #[.bool n, .slice o l c, .int .i64 e]) E 1024 (fval (us[k]?.getD 0)) := by
  obtain ⟨b, cap, hv, n, o, l, c, e, c1, c2, c3, hz⟩ := h.at hk
  exact ⟨b, cap, n, o, l, c, e, hv, range3 c1 c2 c3, hz⟩
theorem range_later {w w' : World} {b o : Nat} {cs : List Value} (h : w.rangeAt b o cs) (hb : Below w.heap.size w w') : w'.rangeAt b o cs := fun j v hv => (hb.cell (World.block_lt_of_cell? _ _ (h j v hv))).trans (h j v hv)
end Go.Proofs.Ytbjnkefjlaplkaa

