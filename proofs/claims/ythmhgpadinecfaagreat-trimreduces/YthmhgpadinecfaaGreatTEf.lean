import Derived.Test.YthmhgpadinecfaaGreatTEb6
import Derived.Test.YthmhgpadinecfaaGreatTEe
set_option linter.unusedVariables false
set_option linter.unusedSimpArgs false
namespace Go.Proofs.YthmhgpadinecfaaGreat
open Go.RowKit Go.Shelf
def ordD (u : ZD) : List Value := if gdZ u = true then (plN (lsZ u) u.gn).map (fun x : Nat => Value.int .i64 (u.ids[x]?.getD 0)) else []
theorem gdZ_whole {u : ZD} (h : gdZ u = true) : u.bad = false /\ wholeB u = true := by
 unfold gdZ at h
 simp only [Bool.and_eq_true, Bool.not_eq_true'] at h
 exact h
theorem placesU_any (u : ZD) (E : Nat) (hE : E = 1074) (w : World) (hu : ZU w u) (hw : UW u) (hg : gdZ u = true) :
  Calls Tryz.prog 24 #[.agg (zRow u)] w fun e w' => ∃ v, e = .returned v /\ w'.ownsRow w.heap.size 3 1 v (plN (lsZ u) u.gn).length ((plN (lsZ u) u.gn).map fun x : Nat => Value.int .i64 (x : Int)) /\ Below w.heap.size w w' := by
 have hf := WhF.ofU hu hw.il (gdZ_whole hg).2
 refine Calls.mono (placesZ_any u E hE w hu hw hf.fin.g) ?_
 rintro e w' ⟨v, p, rfl, ho, hp, hs, hb⟩
 have hpl : plN (lsZ u) u.gn = p := plN_unique hp hs
 rw [hpl]
 exact ⟨v, rfl, ho, hb⟩
theorem refOrder_any (u : ZD) (E : Nat) (hE : E = 1074) (w : World) (hu : ZU w u) (hw : UW u) :
  Calls Tryz.prog 8 #[.agg (zRow u)] w fun e w' => ∃ v : Value, e = .returned v /\ w'.ownsRow w.heap.size 3 1 v (ordD u).length (ordD u) /\ Below w.heap.size w w' := by
 cases hg : gdZ u with
 | false =>
  refine orderD_any u.N u.co u.cn u.cc u.io u.dn u.dc u.go u.gn u.gc u.ro u.rn u.rc u.bad u.ids w false [] (fun W hb => by have h := goodZ_any u W (hu.later hb) hw; rw [hg] at h; exact h) (fun h => by cases h) (fun W hb => (hu.later hb).i) (fun x hx => by cases hx) (by simp) hw.il (ordD u) ?_
  unfold Hid ordD
  rw [hg]; rfl
 | true =>
  have hf := WhF.ofU hu hw.il (gdZ_whole hg).2
  refine orderD_any u.N u.co u.cn u.cc u.io u.dn u.dc u.go u.gn u.gc u.ro u.rn u.rc u.bad u.ids w true (plN (lsZ u) u.gn) (fun W hb => by have h := goodZ_any u W (hu.later hb) hw; rw [hg] at h; exact h) (fun _ W hb => placesU_any u E hE W (hu.later hb) hw hg) (fun W hb => (hu.later hb).i) (fun x hx => by rw [hf.dg]; exact plN_lt _ _ hx) (by rw [plN_len]; exact hw.gl) hw.il (ordD u) ?_
  unfold Hid ordD
  rw [hg]
def goD (u : ZD) (most : Int) (j : Nat) : Bool := decide (j ∈ (plN (lsZ u) u.gn).take (u.gn - (max most 0).toNat))
theorem getD_lt {us : List Nat} (h : ∀ u ∈ us, u < 18446744073709551616) (j : Nat) : us[j]?.getD 0 < 18446744073709551616 := by
 by_cases hj : j < us.length
 ·rw [List.getElem?_eq_getElem hj]; exact h _ (List.getElem_mem hj)
 ·rw [List.getElem?_eq_none (by omega)]; decide
theorem refReduceT_any (u : ZD) (E : Nat) (hE : E = 1074) (most : Int) (hm2 : most <= 9223372036854775807) (w : World) (hu : ZU w u) (hw : UW u) :
  Calls Tryz.prog 9 #[.agg (zRow u), .int .i64 most] w fun e w' => ∃ y : ZD, e = .returned (.agg (zRow y)) /\ ZUT w' y /\ RdD (gdZ u) (if checkB u then 0 else 100) u.N u.gn u.rn u.cs u.rs u.ids u.gs (goD u most) y /\ Below w.heap.size w w' := by
 refine reduceD_any u.N u.co u.cn u.cc u.io u.dn u.dc u.go u.gn u.gc u.ro u.rn u.rc u.bad u.cs u.ids u.gv u.gs u.rs E hE w (gdZ u) (if checkB u then 0 else 100) (plN (lsZ u) u.gn) most (max most 0).toNat (by omega) (by omega) (goD u most) rfl (fun W hb => goodZ_any u W (hu.later hb) hw) (fun W hb => refCheck_any u W (hu.later hb) hw) (fun hg W hb => placesU_any u E hE W (hu.later hb) hw hg) (fun W hb => (hu.later hb).c) (fun W hb => (hu.later hb).i) (fun W hb => (hu.later hb).g) (fun W hb => (hu.later hb).r) (fun hg => ?_) ⟨getD_lt hw.r, fun k j => ?_⟩ hw.cl hw.gl hw.rl hw.ll
 ·have hf := WhF.ofU hu hw.il (gdZ_whole hg).2
  exact ⟨hf.N, hf.dg, plN_len _ _, fun x hx => plN_lt _ _ hx, fun k hk => by rw [<- (hu.g.each k hk).length]; exact hf.gl k (by rw [hf.dg]; exact hk), hf.fin.r, hf.fin.g⟩
 ·by_cases hk : k < u.gs.length
  ·rw [List.getElem?_eq_getElem hk]; exact getD_lt (hw.g _ (List.getElem_mem hk)) j
  ·rw [show u.gs[k]?.getD [] = [] by rw [List.getElem?_eq_none (by omega)]; rfl]; exact getD_lt (us := []) (fun x hx => by cases hx) j
theorem pk_fin {z : ZD} (h : FnZ z) {l : List Nat} (hl : l.length <= 1050000) (io : Option Addr) (dc : Nat) (go : Option Addr) (gc : Nat) : FnZ (pkZ z io dc go gc l) := by
 refine ⟨h.c, h.r, fun k j => ?_, hl⟩
 show Fin (((l.map fun j => z.gs[j]?.getD [])[k]?.getD [])[j]?.getD 0)
 rw [List.getElem?_map]
 cases l[k]? with
 | none => simp; decide
 | some x => exact h.g x j
theorem plD_eq {u : Nat} (h : u < 18446744073709551616) : plD u = plainM u := by
 have hr : srung u = 0 ↔ (u = 0 \/ u = 9223372036854775808) := by
  unfold srung fneg frung
  split <;> rename_i hc <;> simp at hc <;> omega
 unfold plD plainM
 by_cases h1 : u = 9223372036854775808
 ·rw [if_pos h1, if_pos (hr.2 (.inr h1))]
 ·rw [if_neg h1]
  by_cases h2 : u = 0
  ·rw [if_pos (hr.2 (.inl h2)), h2]
  ·rw [if_neg (fun c => by rcases hr.1 c with c | c <;> omega)]
theorem gdZ_of {u z : ZD} (s : SmZ u z) (hu : checkB u = checkB z) : gdZ u = (!z.bad && checkB z) := by
 rw [<- hu, <- s.bad]
 unfold gdZ checkB
 cases u.bad <;> simp
theorem goD_eq {u z : ZD} (s : SmZ u z) (hdg : z.dn = z.gn) (most : Int) : goD u most = goesF z ((z.dn : Int) - max most 0) := by
 have e1 : lsZ u = lsZ z := by funext k; unfold lsZ; rw [s.gs]
 have e2 : u.gn - (max most 0).toNat = ((z.dn : Int) - max most 0).toNat := by rw [s.gn, <- hdg]; omega
 funext j
 unfold goD goesF
 rw [e1, e2, s.gn]
theorem RdC.doc {w : World} {u z y v : ZD} {most : Int} (h : RdC z most y) (k : RdD (gdZ u) (if checkB u then 0 else 100) u.N u.gn u.rn u.cs u.rs u.ids u.gs (goD u most) v) (hz : ZR w z) (hd : z.dn <= 1050000) (s : SmZ u z) : bitsB y v = true := by
 have hck : checkB u = checkB z := checkB_eq u z s.N s.bad s.cs s.rs s.ids s.gs s.cn s.dn s.gn s.rn
 have hgd := gdZ_of s hck
 obtain ⟨h64c, h64r, h64g⟩ := zr_fin64 hz
 obtain ⟨a, ha⟩ : ∃ a : Nat, a = 1166 := ⟨_, rfl⟩
 have conv : ∀ (hf : WhF z) (j r : Nat) (b : Bool), j < z.rn -> RndO 1 (farZ (pkZ z none 0 none 0 (pickL (goesF z ((z.dn : Int) - max most 0)) z.gn)) j) r b -> RndZ 1 (vlD u.rs u.gs (goD u most) j u.gn) 1 (r, b) := fun hf j r b hj hr => by
  have hF : FnZ (pkZ z none 0 none 0 (pickL (goesF z ((z.dn : Int) - max most 0)) z.gn)) := pk_fin hf.fin (Nat.le_trans (pickL_len _ _) (by rw [<- hf.dg]; exact hd)) _ _ _ _
  rw [farZ_is ha hF hj] at hr
  have e : vlD u.rs u.gs (goD u most) j u.gn = reA (pkZ z none 0 none 0 (pickL (goesF z ((z.dn : Int) - max most 0)) z.gn)) j := by
   rw [reA_pk, s.rs, s.gs, s.gn, goD_eq s hf.dg]
   rfl
  rw [e]
  exact RndZ.of_ratio (RndO.some_iff ha hr) (by omega) (by rw [Int.natCast_one, Int.mul_one])
 rcases h.is with ⟨c1, rfl⟩ | ⟨c1, c2, rfl⟩ | ⟨c1, c2, ⟨j, r, hj, hr⟩, rfl⟩ | ⟨c1, c2, y1, y2, y3, y4, y5, y6, y7⟩
 ·rw [c1, Bool.and_false] at hgd
  rw [hck, c1] at k
  rcases k.is with ⟨_, _, rfl⟩ | ⟨_, e, _⟩ | ⟨e, _⟩ | ⟨e, _⟩
  ·rfl
  ·simp at e
  ·rw [hgd] at e; cases e
  ·rw [hgd] at e; cases e
 ·rw [c2, Bool.not_true, Bool.false_and] at hgd
  rw [hck, c1] at k
  rcases k.is with ⟨_, e, _⟩ | ⟨_, _, rfl⟩ | ⟨e, _⟩ | ⟨e, _⟩
  ·simp at e
  ·rw [s.N]; unfold bitsB badN bdD; simp
  ·rw [hgd] at e; cases e
  ·rw [hgd] at e; cases e
 ·have hf := WhF.of hz hd c2
  have hch : checkB z = true := by unfold checkB; rw [c1]; exact c2
  rw [c1, hch] at hgd
  rcases k.is with ⟨e, _⟩ | ⟨e, _⟩ | ⟨_, _, rfl⟩ | ⟨_, _, _, _, _, _, _, v7⟩
  ·rw [hgd] at e; cases e
  ·rw [hgd] at e; cases e
  ·rw [s.N]; unfold bitsB badN bdD; simp
  ·have e := RndZ.uniq (conv hf j r false hj hr) (v7 j (by rw [s.rn]; exact hj))
   cases congrArg Prod.snd e
 ·have hf := WhF.of hz hd c2
  have hch : checkB z = true := by unfold checkB; rw [c1]; exact c2
  rw [c1, hch] at hgd
  rcases k.is with ⟨e, _⟩ | ⟨e, _⟩ | ⟨_, ⟨j, r, hj, hr⟩, _⟩ | ⟨_, v1, v2, v3, v4, v5, v6, v7⟩
  ·rw [hgd] at e; cases e
  ·rw [hgd] at e; cases e
  ·have hj' : j < z.rn := by rw [<- s.rn]; exact hj
   have e := RndZ.uniq (conv hf j _ true hj' (y7 j hj')) hr
   cases congrArg Prod.snd e
  ·have er : y.rs = v.rs := by
    apply List.ext_getElem
    ·rw [y6, v6, s.rn]
    ·intro j h1 h2
     have hj : j < z.rn := by omega
     have e := congrArg Prod.fst (RndZ.uniq (conv hf j _ true hj (y7 j hj)) (v7 j (by rw [s.rn]; exact hj)))
     rw [List.getElem?_eq_getElem h1, List.getElem?_eq_getElem h2] at e
     exact e
   have ec : y.cs = v.cs := by rw [y3, v3, s.cs]; exact List.map_congr_left fun x hx => (plD_eq (h64c x hx)).symm
   have ei : y.ids = v.ids := by rw [y4, v4, s.ids, s.gn, goD_eq s hf.dg]; rfl
   have eg : y.gs = v.gs := by
    rw [y5, v5, s.gs, s.gn, goD_eq s hf.dg]
    refine List.map_congr_left fun j hj => ?_
    refine List.map_congr_left fun x hx => (plD_eq ?_).symm
    by_cases hjl : j < z.gs.length
    ·rw [List.getElem?_eq_getElem hjl] at hx; exact h64g _ (List.getElem_mem hjl) x hx
    ·rw [List.getElem?_eq_none (by omega)] at hx; cases hx
   unfold bitsB
   rw [y1, y2, v1, v2, er, ec, ei, eg, s.N]
   simp
theorem ord_doc {u z : ZD} {w : World} (hz : ZR w z) (s : SmZ u z) : ordD u = (ordL z).map (Value.int .i64) := by
 have hck : checkB u = checkB z := checkB_eq u z s.N s.bad s.cs s.rs s.ids s.gs s.cn s.dn s.gn s.rn
 have hgd := gdZ_of s hck
 have e1 : lsZ u = lsZ z := by funext k; unfold lsZ; rw [s.gs]
 unfold ordD ordL
 rw [hgd]
 cases hc : checkB z with
 | false => simp
 | true =>
  cases hb : z.bad with
  | false => simp only [Bool.not_false, Bool.and_self, if_true, List.map_map]; rw [e1, s.gn, s.ids]; rfl
  | true =>
   have h0 := (bare_none hz hc hb).1
   have hp : plN (lsZ z) z.gn = [] := List.eq_nil_of_length_eq_zero (by rw [plN_len]; exact h0)
   rw [hp]
   simp
end Go.Proofs.YthmhgpadinecfaaGreat
