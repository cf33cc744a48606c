import Derived.Test.YtjeghdmclmelfaaGreatJXl
namespace Go.Proofs.YtjeghdmclmelfaaGreat
open Go.RowKit Go.Shelf
set_option linter.unusedVariables false
set_option linter.unusedSimpArgs false
theorem plainM_pos {r : Nat} (h : 0 < srung r) : plainM r = r := by unfold plainM; rw [if_neg (by omega)]
theorem plainM_nought {r : Nat} (h : srung r = 0) : plainM r = 0 := by unfold plainM; rw [if_pos h]
theorem lfS_plain (n : Nat) (rs : List Nat) (next : Int) : ∀ k, lfS n (rs.map plainM) next k = lfS n rs next k
 | 0 => rfl
 | k + 1 => by
  have ih := lfS_plain n rs next k
  unfold lfS
  rw [ih, getD_plain, srung_plainM]
  split
  ·rename_i h
   rw [plainM_pos h]
  ·rfl
theorem zrL_zeros {rs : List Nat} {n : Nat} (hl : rs.length = n) (hp : ∀ j : Nat, 0 ≤ fval (rs[j]?.getD 0)) : zrL (rs.map plainM) n = List.replicate n 0 := by
 rw [zrL_all _ n (by rw [List.length_map]; exact hl), List.map_map]
 apply List.ext_getElem
 ·simp [hl]
 ·intro i h1 h2
  have hi : i < rs.length := by simpa using h1
  have h3 := hp i
  rw [List.getElem?_eq_getElem hi, Option.getD_some] at h3
  rw [List.getElem_map, List.getElem_replicate]
  simp only [Function.comp]
  rw [srung_plainM]
  split
  ·rfl
  ·rename_i h
   have h4 := mt (fval_pos_iff _).1 h
   exact plainM_nought ((fval_zero_iff _).1 (by omega))
theorem map_plainW {us : List Nat} (h : ∀ u ∈ us, u < 18446744073709551616) : us.map plainW = us.map plainM := List.map_congr_left fun u hu => plainW_eq (h u hu)
theorem map_plainsW {gs : List (List Nat)} (h : ∀ l ∈ gs, ∀ u ∈ l, u < 18446744073709551616) : gs.map (·.map plainW) = gs.map (·.map plainM) := List.map_congr_left fun l hl => map_plainW (h l hl)
theorem SmZ.tkN {u x : ZD} (m : SmZ u x) : (tkZ u).N = (tkZ x).N := by
 unfold tkZ
 rw [checkB_eq u x m.N m.bad m.cs m.rs m.ids m.gs m.cn m.dn m.gn m.rn]
 split
 ·exact m.N
 ·rfl
theorem mayB_eq {u x : ZD} (m : SmZ u x) (next : Int) : mayB u next = mayB x next := by unfold mayB lastB; rw [m.dn, m.ids, m.rs]
structure LfA (x : ZD) (next : Int) (y : ZD) (n : Int) : Prop where
 is : ((!x.bad && wholeB x) = true ∧ mayB x next = true ∧ LfR x next y ∧ n = next + (madeN x.rs : Nat)) ∨ (((!x.bad && wholeB x) = false ∨ mayB x next = false) ∧ y = (⟨(tkZ x).N, none, 0, 0, none, 0, 0, none, 0, 0, none, 0, 0, true, [], [], fun _ => (none, 0, 0), [], []⟩ : ZD) ∧ n = next)
theorem badR (n : Int) (W : World) : ZR W (⟨n, none, 0, 0, none, 0, 0, none, 0, 0, none, 0, 0, true, [], [], fun _ => (none, 0, 0), [], []⟩ : ZD) := ⟨⟨rfl, Nat.zero_le _, fun u hu => (by cases hu), .inl rfl⟩, ⟨rfl, Nat.zero_le _, .inl rfl⟩, ⟨rfl, Nat.zero_le _, .inl rfl, fun j hj => absurd hj (Nat.not_lt_zero _)⟩, ⟨rfl, Nat.zero_le _, fun u hu => (by cases hu), .inl rfl⟩⟩
theorem liftA_any (x : ZD) (next : Int) (w : World) (hx : ZR w x) (hd : x.dn ≤ 1049000) (hnx : -9223372036854775808 ≤ next ∧ next < 9223372036854775808) :
  Calls Tryz.prog 6 #[.agg (zRow x), .int .i64 next] w fun e w' => ∃ (y : ZD) (n : Int), e = .returned (.tuple #[.agg (zRow y), .int .i64 n]) ∧ ZR w' y ∧ LfA x next y n ∧ Below w.heap.size w w' := by
 cases hg : (!x.bad && wholeB x) with
 | false =>
  refine Calls.mono (lift_bad x next w hx (tk_bad hg)) ?_
  rintro e w' ⟨he, hb⟩
  exact ⟨(⟨(tkZ x).N, none, 0, 0, none, 0, 0, none, 0, 0, none, 0, 0, true, [], [], fun _ => (none, 0, 0), [], []⟩ : ZD), next, he, badR _ _, ⟨.inr ⟨.inl hg, rfl, rfl⟩⟩, hb⟩
 | true =>
  obtain ⟨hb0, hw, hc⟩ := tk_good hg
  have hf := WhF.of hx (by omega) hw
  cases hm : mayB x next with
  | true =>
   refine Calls.mono (lift_okY x next w hx hb0 hw hf hd hnx hm) ?_
   rintro e w' ⟨y, he, h1, _, h3, h4⟩
   exact ⟨y, _, he, h1, ⟨.inl ⟨hg, hm, h3, rfl⟩⟩, h4⟩
  | false =>
   have ht := tk_self hc
   have h2 := hf.n2
   refine Calls.mono (lift_no x next w hx (by rw [ht]; exact hb0) hnx (by rw [ht]; omega) (by rw [ht]; omega) (by rw [ht]; exact hm)) ?_
   rintro e w' ⟨he, hb'⟩
   exact ⟨(⟨(tkZ x).N, none, 0, 0, none, 0, 0, none, 0, 0, none, 0, 0, true, [], [], fun _ => (none, 0, 0), [], []⟩ : ZD), next, he, badR _ _, ⟨.inr ⟨.inr hm, rfl, rfl⟩⟩, hb'⟩
theorem LfA.doc {w : World} {x u y v : ZD} {next n m : Int} (h : LfA x next y n) (k : LfD u next v m) (hx : ZR w x) (hd : x.dn ≤ 1050000) (s : SmZ u x) : m = n ∧ bitsB y v = true := by
 have h64 := zr_fin64 hx
 rcases h.is with ⟨h1, h2, h3, h4⟩ | ⟨h1, rfl, rfl⟩
 ·obtain ⟨_, hw, _⟩ := tk_good h1
  have hf := WhF.of hx hd hw
  rcases k.is with ⟨k1, k2, k3, k4, k5, k6, k7, k8, k9⟩ | ⟨k1, _⟩
  ·refine ⟨by rw [k9, h4, s.rs], ?_⟩
   unfold bitsB
   rw [h3.N, h3.bad, h3.cs, h3.rs, h3.ids, h3.gs, k3, k4, k5, k6, k7, k8, s.N, s.cs, s.rs, s.ids, s.gs, s.rn, map_plainW h64.1, map_plainsW h64.2.2, zrL_zeros hf.rl hf.pos, lfS_plain]
   simp
  ·rcases k1 with k1 | k1
   ·rw [s.good, h1] at k1; cases k1
   ·rw [mayB_eq s, h2] at k1; cases k1
 ·rcases k.is with ⟨k1, k2, _⟩ | ⟨_, k3, k4, k5, k6, k7, k8, k9⟩
  ·rcases h1 with h1 | h1
   ·rw [s.good, h1] at k1; cases k1
   ·rw [mayB_eq s, h1] at k2; cases k2
  ·refine ⟨k9, ?_⟩
   unfold bitsB
   rw [k3, k4, k5, k6, k7, k8, s.tkN]
   simp
theorem BxR.doc {w : World} {x u y v : ZD} (h : BxR x y) (k : BxD u v) (hx : ZR w x) (hd : x.dn ≤ 1050000) (s : SmZ u x) : bitsB y v = true := by
 have h64 := zr_fin64 hx
 obtain ⟨a, ha⟩ : ∃ a : Nat, a = 1166 := ⟨_, rfl⟩
 have conv : ∀ (hf : WhF x) (j r : Nat) (b : Bool), j < x.rn → RndO 1 (farZ x j) r b → RndZ 1 (farV u.rs u.gs j) 1 (r, b) := fun hf j r b hj hr => by
  rw [farZ_is ha hf.fin hj] at hr
  have e : farV u.rs u.gs j = reA x j := by rw [s.rs, s.gs, reA_is (by rw [hx.g.length, hf.dg])]; rfl
  rw [e]
  exact RndZ.of_ratio (RndO.some_iff ha hr) (by omega) (by rw [Int.natCast_one, Int.mul_one])
 rcases h.is with ⟨h1, h2, h3, h4, h5, h6, h7, h8, _⟩ | ⟨h1, rfl⟩
 ·obtain ⟨_, hw, _⟩ := tk_good h1
  have hf := WhF.of hx hd hw
  rcases k.is with ⟨k1, k2, k3, k4, k5, k6, k7, k8⟩ | ⟨k1, _⟩
  ·have er : y.rs = v.rs := by
    apply List.ext_getElem
    ·rw [h5, k5, s.rn]
    ·intro i p1 p2
     have q1 := conv hf i _ _ (by omega) (h6 i (by omega))
     have q2 := k6 i (by rw [s.rn]; omega)
     rw [List.getElem?_eq_getElem p1, Option.getD_some] at q1
     rw [List.getElem?_eq_getElem p2, Option.getD_some] at q2
     have q3 := RndZ.uniq q1 q2
     simp only [Prod.mk.injEq] at q3
     exact q3.1
   unfold bitsB
   rw [h2, h3, h4, er, h7, h8, k2, k3, k4, k7, k8, s.N, s.cs, map_plainW h64.1]
   simp
  ·exfalso
   rcases k1 with k1 | ⟨j, r, hj, k1⟩
   ·rw [s.good, h1] at k1; cases k1
   ·rw [s.rn] at hj
    have q3 := RndZ.uniq (conv hf j _ _ hj (h6 j hj)) k1
    simp only [Prod.mk.injEq] at q3
    exact absurd q3.2 (by decide)
 ·rcases k.is with ⟨k1, k2, k3, k4, k5, k6, k7, k8⟩ | ⟨_, k3, k4, k5, k6, k7, k8⟩
  ·exfalso
   rcases h1 with h1 | ⟨j, r, hj, h1⟩
   ·rw [s.good, h1] at k1; cases k1
   ·have hg : (!x.bad && wholeB x) = true := by rw [← s.good]; exact k1
    obtain ⟨_, hw, _⟩ := tk_good hg
    have hf := WhF.of hx hd hw
    have q3 := RndZ.uniq (conv hf j _ _ hj h1) (k6 j (by rw [s.rn]; exact hj))
    simp only [Prod.mk.injEq] at q3
    exact absurd q3.2 (by decide)
  ·unfold bitsB
   rw [k3, k4, k5, k6, k7, k8, s.tkN]
   simp
end Go.Proofs.YtjeghdmclmelfaaGreat
