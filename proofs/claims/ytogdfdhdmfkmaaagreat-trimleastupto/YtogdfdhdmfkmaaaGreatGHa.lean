import Derived.Test.YtogdfdhdmfkmaaaGreatGSa
import Derived.Test.YtogdfdhdmfkmaaaGreatJXd
import Derived.Test.YtogdfdhdmfkmaaaGreatNCc
import Derived.Test.YtogdfdhdmfkmaaaGreatJZx
import Derived.Deep.Slices
import Derived.OpenShut
import Derived.Lib.SmallJoins
import Derived.ChangeSame
namespace Go.Proofs.YtogdfdhdmfkmaaaGreat
open Go.RowKit Go.Shelf
set_option linter.unusedVariables false
set_option linter.unusedSimpArgs false

/-- A word's number; what is none counts as nought. -/
def fz (u : Nat) : Nat := if Fin u then u else 0
theorem fz_fin (u : Nat) : Fin (fz u) := by
  unfold fz
  split
  · assumption
  · exact fin_zeroJ
theorem fz_is {u : Nat} (h : Fin u) : fz u = u := if_pos h
theorem ofH_any (u : Nat) (hu : u < 18446744073709551616) (w : World) (E : Nat) (hE : E = 1074) :
    Calls Tryz.prog 46 #[.int .u64 u] w fun e' w' => ∃ v b, e' = .returned (.tuple #[v, .bool b]) ∧ NumC w' v E 1024 (fval (fz u)) ∧ Below w.heap.size w w' := by
  by_cases hf : Fin u
  · refine (ofC_any u hu w E hE).mono ?_
    rintro e' w' ⟨v, rfl, ⟨z, hz, hv⟩, hB⟩
    exact ⟨v, _, rfl, by rw [fz_is hf, ← hv hf]; exact hz, hB⟩
  · refine (ofE_any u hu w).mono ?_
    rintro e' w' ⟨v, rfl, ⟨neg, e, hN, hne, h1, h2, h3⟩, hB⟩
    rw [if_neg hf] at hN h3
    have h4 := h3 rfl
    subst h4
    refine ⟨v, _, rfl, ⟨neg, 0, 0, hN, by omega, by rw [bl_zero]; omega, ?_, fun _ => rfl⟩, hB⟩
    unfold fz
    rw [if_neg hf, zv_zero, fval_zeroJ]
set_option maxRecDepth 100000 in
set_option maxHeartbeats 3000000 in
/-- The law's nums. -/
theorem numsT_any (ao : Option Addr) (len cap : Nat) (us : List Nat) (E : Nat) (hE : E = 1074) (w : World) (h : RdF w ao len cap us) (hf : ∀ j : Nat, Fin (us[j]?.getD 0)) (hl : len ≤ 1050000) :
    Calls Tryz.prog 26 #[.slice ao len cap] w fun e w' => ∃ v, e = .returned v ∧ RowN w' w.heap.size v E us ∧ Below w.heap.size w w' := by
  have HR : Hid _ := h
  have HLN : Hid (us.length = len) := h.length
  have HLT : Hid _ := h.lt
  have HF : Hid (∀ j : Nat, Fin (us[j]?.getD 0)) := hf
  clear h hf
  go_enter Tryz.func26, Tryz.ntmps26
  go_wp2_with fail
  go_loopg [3, 4] len (fun g v iv wx => ∃ k : Nat, iv = .int .i64 k ∧ k + g = len ∧ Hid (RowN wx w.heap.size v E (us.take k)) ∧ Hid (Below w.heap.size w wx))
  case atStart => exact ⟨0, rfl, by omega, RowN.nil _ _ _, Below.refl _ _⟩
  case round =>
    obtain ⟨k, rfl, hk, HO, HB⟩ := hrel
    have hsr := HB.out.size
    by_cases hlt : k < len
    · have hd : decide ((k : Int) < (len : Int)) = true := decide_eq_true (by omega)
      obtain ⟨g, rfl⟩ : ∃ g, gk = g + 1 := ⟨gk - 1, by omega⟩
      have HIG : Hid _ := hk
      rcases (HR.out.later HB.out).cells with h0 | ⟨ab, aoff, rfl, hca⟩
      · omega
      have ga := hca k hlt
      have hkl : k < us.length := by rw [HLN.out]; exact hlt
      have hux := HLT.out _ (getD_mem (us := us) (j := k) hkl)
      have HTS : Hid _ := take_snocJ (us := us) (k := k) hkl
      have hfx := HF.out k
      obtain ⟨x, hx⟩ : ∃ x, us[k]?.getD 0 = x := ⟨_, rfl⟩
      rw [hx] at ga hux HTS hfx
      have HOF : Hid _ := ofH_any x hux wr E hE
      rw [fz_is hfx] at HOF
      clear hca hx hk hkl hfx
      go_upto_region 6 with (first
        | (go_at_call 43; refine Calls.mono (apiBits_any x _) ?_; rintro e w0 ⟨rfl, hw0⟩; rw [hw0]; clear hw0 w0)
        | (go_at_call 46; refine Calls.mono HOF.out ?_; rintro e w1 ⟨v1, b0, rfl, hz1, b1⟩; obtain ⟨n1, m1, e1, ⟨o1, l1, c1, xs1, rfl, hr1⟩, hr2⟩ := id hz1; clear hr1 hr2))
      have N1 : Hid (NumC w1 (.agg #[.bool n1, .slice o1 l1 c1, .int .i64 e1]) E 1024 (fval x)) := hz1
      clear hz1 HOF
      have B1 : Hid (Below wr.heap.size wr w1) := b1
      have s1 := b1.size
      clear b1
      obtain ⟨xs, hxo, hxj⟩ := (HO.out.later B1.out).own
      have HXJ : Hid _ := hxj
      have hxl : (us.take k).length = k := by rw [List.length_take, HLN.out]; omega
      rw [hxl] at hxo
      have HX2 : Hid _ := hxo
      clear hxo hxj
      have HC2 : Hid (∀ g, u3.ownBlock = some g → Cl noU ((w1.alloc (.cells #[.bool n1, .slice o1 l1 c1, .int .i64 e1] 37)).alloc (.cells #[.bool n1, .slice o1 l1 c1, .int .i64 e1] 37)) g) := fun g hg => ((HO.out.cl g hg).later B1.out).later (((Below.refl _ w1).alloc (Nat.le_refl _) _).alloc (by simp only [alloc_size]; omega) _)
      go_wp2_with (first
        | (at_builtin; refine append_clJ noU Tryz.underlying62 Tryz.infoNumJ rfl (by decide) (by decide) zero_noU _ (by rfl) _ _ (by rfl) w.heap.size _ k xs (by rfl) (World.ownsRow.alloc (World.ownsRow.alloc HX2.out _) _) HC2.out ⟨w1.heap.size + 1, 0, none⟩ 1 1 [.bool n1, .slice o1 l1 c1, .int .i64 e1] (by rfl) (by decide) rfl (news_threeJ (heap_at _ _ (w1.heap.size + 1) (by simp only [alloc_size]))) (three_one n1 o1 l1 c1 e1) (three_noU n1 o1 l1 c1 e1) (by omega) (by simp only [alloc_size]; omega) ?_; intro v5 w5 o5 g5 cl5))
      have A1 : Below w1.heap.size w1 ((w1.alloc (.cells #[.bool n1, .slice o1 l1 c1, .int .i64 e1] 37)).alloc (.cells #[.bool n1, .slice o1 l1 c1, .int .i64 e1] 37)) := ((Below.refl _ w1).alloc (Nat.le_refl _) _).alloc (by simp only [alloc_size]; omega) _
      have R5 : Hid (RowN w5 w.heap.size v5 E (us.take k ++ [x])) := by
        refine RowN.push (xs := xs) (by rw [hxl]; exact World.ownsRow.alloc (World.ownsRow.alloc HX2.out _) _) (fun j hj => ?_) HC2.out (NumC.later N1.out A1) (by rw [hxl]; exact o5) g5 cl5
        obtain ⟨n2, o2, l2, c2, e2, a1, a2, a3, a4⟩ := HXJ.out j hj
        exact ⟨n2, o2, l2, c2, e2, a1, a2, a3, a4.later A1⟩
      have B5 : Hid (Below w.heap.size w w5) := (to_call (to_call HB.out B1.out) A1).trans (g5.below (fun k hk => (World.ownsRow.lt HX2.out k hk).1) (by simp only [alloc_size]; omega))
      clear o5 g5 cl5 A1 HC2 HX2 HXJ
      go_roundg g
      case measure => omega
      case rel => exact ⟨k + 1, by go_num, by have := HIG.out; omega, by unfold Hid; rw [HTS.out]; exact R5.out, B5⟩
    · have hd : decide ((k : Int) < (len : Int)) = false := decide_eq_false (by omega)
      have HO2 : Hid (RowN wr w.heap.size u3 E us) := by
        have := HO.out
        rw [List.take_of_length_le (by rw [HLN.out]; omega)] at this
        exact this
      go_wp2_with fail
      go_ret
      exact ⟨_, rfl, HO2.out, HB.out⟩
end Go.Proofs.YtogdfdhdmfkmaaaGreat

namespace Go.Proofs.YtogdfdhdmfkmaaaGreat
open Go.RowKit Go.Shelf
set_option linter.unusedVariables false
set_option linter.unusedSimpArgs false

theorem RowN.stored {w w' : World} {base E B : Nat} {v : Value} {us : List Nat} (h : RowN w base v E us) (hc : Cl noU w B) (ho : ∀ b, b ≠ B → w'.heap[b]? = w.heap[b]?) (hB : ∀ g, v.ownBlock = some g → g ≠ B) : RowN w' base v E us := by
  obtain ⟨xs, h1, h2⟩ := h.own
  refine ⟨⟨xs, owns_keep h1 fun k hk => ho k (hB k hk), fun j hj => ?_⟩, fun g hg => ?_⟩
  · obtain ⟨n, o, l, c, e, a1, a2, a3, a4⟩ := h2 j hj
    exact ⟨n, o, l, c, e, a1, a2, a3, a4.cl hc (fun b hb _ => ho b hb)⟩
  · obtain ⟨cur, t, h3, h4⟩ := h.cl g hg
    exact ⟨cur, t, (ho g (hB g hg)).trans h3, h4⟩
/-- The direction's numbers. -/
def dirL (ds : List Nat) (n : Nat) : List Nat := (List.range n).map fun i => fz (ds[i]?.getD 0)
theorem dirL_len (ds : List Nat) (n : Nat) : (dirL ds n).length = n := by unfold dirL; rw [List.length_map, List.length_range]
theorem dirL_fin (ds : List Nat) (n j : Nat) : Fin ((dirL ds n)[j]?.getD 0) := by
  unfold dirL
  rw [List.getElem?_map]
  cases (List.range n)[j]? with
  | none => exact fin_zeroJ
  | some x => exact fz_fin _
theorem dirL_take (ds : List Nat) (n : Nat) : dirL ds (n + 1) = dirL ds n ++ [fz (ds[n]?.getD 0)] := by
  unfold dirL
  rw [List.range_succ, List.map_append]
  rfl
end Go.Proofs.YtogdfdhdmfkmaaaGreat

namespace Go.Proofs.YtogdfdhdmfkmaaaGreat
open Go.RowKit Go.Shelf
set_option linter.unusedVariables false
set_option linter.unusedSimpArgs false

theorem sumG_twoH {B C D : List Nat → Nat} {c : Nat} : ∀ (gs : List (List Nat)), (∀ g, B g ≤ C g + c * D g) → sumG B gs ≤ sumG C gs + c * sumG D gs
  | [], _ => by simp [sumG]
  | g :: gs, h => by
    have h1 := sumG_twoH gs h
    have h2 := h g
    have e1 : sumG B (g :: gs) = B g + sumG B gs := rfl
    have e2 : sumG C (g :: gs) = C g + sumG C gs := rfl
    have e3 : sumG D (g :: gs) = D g + sumG D gs := rfl
    rw [e1, e2, e3, Nat.mul_add]
    omega
theorem sumG_noughtH {B : List Nat → Nat} (h : ∀ g, B g = 0) : ∀ gs : List (List Nat), sumG B gs = 0
  | [] => rfl
  | g :: gs => by
    have e1 : sumG B (g :: gs) = B g + sumG B gs := rfl
    rw [e1, h g, sumG_noughtH h gs]
theorem sumG_permH {B : List Nat → Nat} {l m : List (List Nat)} (h : l.Perm m) : sumG B l = sumG B m := (h.map B).sum_nat
/-- A box that is wider by what columns go goes no less far than they. -/
theorem box_moreH {ds rs ys : List Nat} {gs : List (List Nat)} {n : Nat} (h : ∀ j, j < n → fval (rs[j]?.getD 0) + (sumG (fun g => rmag (frung (g[j]?.getD 0))) gs : Nat) ≤ fval (ys[j]?.getD 0)) : ∀ k, k ≤ n → (sumG (fun g => (dotV ds g k).natAbs) gs : Nat) + boxV ds rs k ≤ boxV ds ys k
  | 0, _ => by
    rw [sumG_noughtH (B := fun g => (dotV ds g 0).natAbs) (fun g => rfl)]
    simp [boxV]
  | k + 1, hk => by
    have ih := box_moreH (ds := ds) h k (by omega)
    have h1 := h k (by omega)
    have h2 := sumG_twoH (B := fun g => (dotV ds g (k + 1)).natAbs) (C := fun g => (dotV ds g k).natAbs) (D := fun g => rmag (frung (g[k]?.getD 0))) (c := rmag (frung (ds[k]?.getD 0))) gs fun g => by
      have e1 : dotV ds g (k + 1) = dotV ds g k + fval (ds[k]?.getD 0) * fval (g[k]?.getD 0) := rfl
      have e2 : (fval (ds[k]?.getD 0) * fval (g[k]?.getD 0)).natAbs = rmag (frung (ds[k]?.getD 0)) * rmag (frung (g[k]?.getD 0)) := by rw [Int.natAbs_mul, fval_absJ, fval_absJ]
      rw [e1, ← e2]
      exact Int.natAbs_add_le _ _
    have e3 : boxV ds rs (k + 1) = boxV ds rs k + fval (frung (ds[k]?.getD 0)) * fval (rs[k]?.getD 0) := rfl
    have e4 : boxV ds ys (k + 1) = boxV ds ys k + fval (frung (ds[k]?.getD 0)) * fval (ys[k]?.getD 0) := rfl
    rw [e3, e4, fval_frung]
    have h3 := Int.mul_le_mul_of_nonneg_left h1 (Int.natCast_nonneg (rmag (frung (ds[k]?.getD 0))))
    rw [Int.mul_add, ← Int.natCast_mul] at h3
    omega
/-- What is left goes no less far than what was. -/
theorem StR.more {z y : ZD} {low : Nat} (h : StR z y low) (hcs : y.cs = z.cs.map plainM) (hg : z.gs.length = z.gn) (hy : y.gs.length = low) (ds : List Nat) : supV ds z.cs z.rs z.gs z.rn ≤ supV ds y.cs y.rs y.gs z.rn := by
  obtain ⟨P, hP⟩ : ∃ P, plN (lsZ z) z.gn = P := ⟨_, rfl⟩
  obtain ⟨F, hF⟩ : ∃ F : Nat → List Nat, F = fun j => z.gs[j]?.getD [] := ⟨_, rfl⟩
  obtain ⟨B, hB⟩ : ∃ B : List Nat → Nat, B = fun g => (dotV ds g z.rn).natAbs := ⟨_, rfl⟩
  have hBp : ∀ g, B (g.map plainM) = B g := fun g => by rw [hB]; simp only [dotV_plain]
  have e1 : sumG B z.gs = sumG B ((P.take (z.gn - low)).map F) + sumG B ((keptL (lsZ z) z.gn low).map F) := by
    have h1 : z.gs = (List.range z.gn).map F := by rw [hF]; exact (range_map z.gs [] z.gn hg).symm
    have h2 : ((List.range z.gn).map F).Perm (P.map F) := by rw [← hP]; exact ((plN_perm _ _).symm).map F
    rw [h1, sumG_permH h2]
    conv => lhs; rw [← List.take_append_drop (z.gn - low) P, List.map_append, sumG_append]
    congr 1
    refine sumG_permH (List.Perm.map F ?_)
    rw [← hP]
    exact (keptL_perm _ _ _).symm
  have e2 : sumG B y.gs = sumG B ((keptL (lsZ z) z.gn low).map F) := by
    have h1 : y.gs = (List.range low).map (fun i => y.gs[i]?.getD []) := (range_map y.gs [] low hy).symm
    have h2 : keptL (lsZ z) z.gn low = (List.range low).map (fun i => (keptL (lsZ z) z.gn low)[i]?.getD 0) := (range_map _ 0 low (keptL_len h.le)).symm
    have h4 : sumG B ((keptL (lsZ z) z.gn low).map F) = sumG B (((List.range low).map (fun i => (keptL (lsZ z) z.gn low)[i]?.getD 0)).map F) := by rw [← h2]
    rw [h4]
    conv => lhs; rw [h1]
    unfold sumG
    rw [List.map_map, List.map_map, List.map_map]
    congr 1
    refine List.map_congr_left fun i hi => ?_
    have hi' := List.mem_range.1 hi
    have h3 := h.gs i hi'
    show B (y.gs[i]?.getD []) = B (F ((keptL (lsZ z) z.gn low)[i]?.getD 0))
    rw [← hBp (y.gs[i]?.getD []), h3, hBp, hF]
  have e3 := box_moreH (ds := ds) (rs := z.rs) (ys := y.rs) (gs := (P.take (z.gn - low)).map F) (n := z.rn) (fun j hj => by
    have h4 := h.rs j hj
    have e4 : sumG (fun g => rmag (frung (g[j]?.getD 0))) ((P.take (z.gn - low)).map F) = magS z.gs j (P.take (z.gn - low)) := by
      unfold sumG magS
      rw [List.map_map, hF]
      rfl
    rw [e4, ← hP]
    exact h4) z.rn (Nat.le_refl _)
  have e5 : sumG (fun g => (dotV ds g z.rn).natAbs) ((P.take (z.gn - low)).map F) = sumG B ((P.take (z.gn - low)).map F) := by rw [hB]
  have e6 : sumG (fun g => (dotV ds g z.rn).natAbs) z.gs = sumG B z.gs := by rw [hB]
  have e7 : sumG (fun g => (dotV ds g z.rn).natAbs) y.gs = sumG B y.gs := by rw [hB]
  rw [e5] at e3
  unfold supV
  rw [e6, e7, e1, e2, hcs, dotV_plain]
  omega
/-- What Reduce tells of a good zonotope. -/
theorem RdC.good {z y : ZD} {s : Int} {W V : World} (hb : z.bad = false) (hw : wholeB z = true) (hf : WhF z) (hz : ZR V z) (hy : ZR W y) (hr : RdC z s y) : (y = badN z.N ∧ max s 0 < (z.dn : Int)) ∨ (StR z y (min z.gn (max s 0).toNat) ∧ y.cs = z.cs.map plainM ∧ ∀ i, i < min z.gn (max s 0).toNat → y.gs[i]?.getD [] = (z.gs[(keptL (lsZ z) z.gn (min z.gn (max s 0).toNat))[i]?.getD 0]?.getD []).map plainM) := by
  have h0 := StR.start hb hw hf.dg (by rw [hz.i.length]; exact hf.dg)
  have h1 := h0.step hf hz hy hr
  have hck : checkB z = true := by unfold checkB; rw [hb]; simpa using hw
  rcases hr.is with ⟨k1, _⟩ | ⟨_, k1, _⟩ | ⟨_, _, ⟨j, u, hj, k1⟩, k2⟩ | ⟨_, _, y3, y4, y5, y6, y7, y8, y9⟩
  · rw [hck] at k1; cases k1
  · rw [hb] at k1; cases k1
  · refine .inl ⟨k2, ?_⟩
    rcases Int.lt_or_le (max s 0) (z.dn : Int) with c | c
    · exact c
    · exfalso
      have hgo : goesF z ((z.dn : Int) - max s 0) = fun _ => false := by
        funext i
        unfold goesF
        rw [show ((z.dn : Int) - max s 0).toNat = 0 by omega]
        simp
      rw [hgo, pick_none] at k1
      obtain ⟨a, ha⟩ : ∃ a : Nat, a = 1166 := ⟨_, rfl⟩
      have k3 := rnd_far (z := pkZ z none 0 none 0 []) (pk_fin hf.fin (Nat.zero_le _) none 0 none 0) hj k1 ha
      rw [reA_pk, show magS z.gs j [] = 0 from rfl] at k3
      rw [show fval (z.rs[j]?.getD 0) + ((0 : Nat) : Int) = fval (z.rs[j]?.getD 0) by omega] at k3
      have hlt : z.rs[j]?.getD 0 < 18446744073709551616 := by
        have hjl : j < z.rs.length := by rw [hz.r.length]; exact hj
        rw [List.getElem?_eq_getElem hjl]
        exact hz.r.lt _ (List.getElem_mem hjl)
      have k4 := RndZ.uniq k3 (exact_up hlt (hf.fin.r j))
      have := congrArg Prod.snd k4
      cases this
  · rcases h1 with h1 | ⟨h1, _⟩
    · rw [h1] at y4; cases y4
    · refine .inr ⟨h1, y5, fun i hi => ?_⟩
      obtain ⟨a, ha⟩ : ∃ a, ((z.dn : Int) - max s 0).toNat = a := ⟨_, rfl⟩
      have hdg := hf.dg
      have hal : z.gn - a = min z.gn (max s 0).toNat := by omega
      have hgo : pickL (fun j => !goesF z ((z.dn : Int) - max s 0) j) z.gn = keptL (lsZ z) z.gn (z.gn - a) := by
        have e := goes_kept (v := lsZ z) (n := z.gn) (low := z.gn - a) (by omega)
        rw [← e, show z.gn - (z.gn - a) = a by omega]
        congr 1
        funext j
        unfold goesF
        rw [ha]
      rw [hgo, hal] at y7
      have hl : i < (keptL (lsZ z) z.gn (min z.gn (max s 0).toNat)).length := by rw [keptL_len (by omega)]; exact hi
      rw [y7, List.getElem?_map, List.getElem?_eq_getElem hl]
      rfl
theorem keptL_up {v : Nat → Int} {n low i j : Nat} (h : low ≤ n) (hij : i + 1 ≤ j) (hj : j < low) : (keptL v n low)[i]?.getD 0 < (keptL v n low)[j]?.getD 0 := by
  have hl := keptL_len (v := v) h
  rw [List.getElem?_eq_getElem (by omega), List.getElem?_eq_getElem (by omega)]
  exact List.pairwise_iff_getElem.1 (pick_rise _ _) i j (by unfold keptL at hl; omega) (by unfold keptL at hl; omega) (by omega)
/-- The names of a whole zonotope rise. -/
theorem ids_riseH {z : ZD} (h : wholeB z = true) : ∀ {a b : Nat}, a < b → b < z.dn → z.ids[a]?.getD 0 < z.ids[b]?.getD 0 := by
  have hw := ((wholeB_iff z).1 h).2.2.2.2.2.2
  intro a b hab
  induction b with
  | zero => omega
  | succ b ih =>
    intro hb
    have h1 := (hw (b + 1) hb).1
    rw [if_neg (by omega), Nat.add_sub_cancel] at h1
    by_cases e : a = b
    · rw [e]; exact h1
    · have := ih (by omega) (by omega)
      omega
theorem ids_ne {z : ZD} (h : wholeB z = true) {a b : Nat} (hab : a ≠ b) (ha : a < z.dn) (hb : b < z.dn) : z.ids[a]?.getD 0 ≠ z.ids[b]?.getD 0 := by
  rcases Nat.lt_or_gt_of_ne hab with c | c
  · exact Int.ne_of_lt (ids_riseH h c hb)
  · exact Int.ne_of_gt (ids_riseH h c ha)
end Go.Proofs.YtogdfdhdmfkmaaaGreat

namespace Go.Proofs.YtogdfdhdmfkmaaaGreat
open Go.RowKit Go.Shelf
set_option linter.unusedVariables false
set_option linter.unusedSimpArgs false

end Go.Proofs.YtogdfdhdmfkmaaaGreat


namespace Go.Proofs.YtogdfdhdmfkmaaaGreat
open Go.ChangeShapes Go.WideShapes Go.ChangeAt Go.RowKit Go.Joins Go.Deep
set_option linter.unusedVariables false

end Go.Proofs.YtogdfdhdmfkmaaaGreat

