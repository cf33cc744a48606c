import Derived.Test.YthmhgpadinecfaaGreatTDj
import Derived.RangeFuncNested
import Derived.RangeFuncBound
import Derived.RangeFuncCalls
import Derived.RangeFuncLeaves
import Derived.RangeFuncFrom
import Derived.RangeFuncWrites
import Derived.Shelf.RegionOpen
import Derived.OwnWalkIn
import Derived.TacticsInMore
import Derived.LoopNIn
import Derived.LoopIn
set_option maxRecDepth 100000
set_option maxHeartbeats 8000000
set_option linter.unusedVariables false
set_option linter.unusedSimpArgs false
namespace Go.Proofs.YthmhgpadinecfaaGreat
open Ieee
theorem icmp (x y : Int) : compare x y = if x < y then .lt else if x = y then .eq else .gt := rfl
theorem fval_srung (x y : Nat) : compare (fval x) (fval y) = compare (srung x) (srung y) := by
 have key : (fval x < fval y ↔ srung x < srung y) /\ (fval x = fval y ↔ srung x = srung y) := by
  unfold fval srung
  have l1 : rmag (frung x) < rmag (frung y) ↔ frung x < frung y := ⟨lt_of_rmag, rmag_lt⟩
  have l2 : rmag (frung y) < rmag (frung x) ↔ frung y < frung x := ⟨lt_of_rmag, rmag_lt⟩
  have z1 : frung x <= rmag (frung x) := le_rmag _
  have z2 : frung y <= rmag (frung y) := le_rmag _
  have z3 : rmag (frung x) = 0 ↔ frung x = 0 := ⟨fun h => by omega, fun h => by rw [h]; rfl⟩
  have z4 : rmag (frung y) = 0 ↔ frung y = 0 := ⟨fun h => by omega, fun h => by rw [h]; rfl⟩
  generalize rmag (frung x) = a at *
  generalize rmag (frung y) = b at *
  cases fneg x <;> cases fneg y <;> simp only [Bool.false_eq_true, if_false, if_true] <;> omega
 rw [icmp, icmp]
 simp only [key.1, key.2]
theorem srung_pos (x : Nat) : 0 < srung x ↔ 0 < fval x := by
 have h := fval_srung 0 x
 have z1 : fval 0 = 0 := rfl
 have z2 : srung 0 = 0 := rfl
 rw [z1, z2, icmp, icmp] at h
 by_cases h1 : 0 < fval x <;> by_cases h2 : 0 < srung x <;> simp [h1, h2] at h ⊢
 all_goals (split at h <;> cases h)
theorem srung_neg (x : Nat) : srung x < 0 ↔ fval x < 0 := by
 have h := fval_srung x 0
 have z1 : fval 0 = 0 := rfl
 have z2 : srung 0 = 0 := rfl
 rw [z1, z2, icmp, icmp] at h
 by_cases h1 : fval x < 0 <;> by_cases h2 : srung x < 0 <;> simp [h1, h2] at h ⊢
 all_goals (split at h <;> cases h)
end Go.Proofs.YthmhgpadinecfaaGreat
namespace Go.Proofs.YthmhgpadinecfaaGreat
open Ieee
end Go.Proofs.YthmhgpadinecfaaGreat
namespace Go.Proofs.YthmhgpadinecfaaGreat
open Ieee
end Go.Proofs.YthmhgpadinecfaaGreat
namespace Go.Proofs.YthmhgpadinecfaaGreat
open Go.RowKit
theorem numsB_drop (us : List Nat) {k : Nat} (h : k < us.length) : numsB (us.drop k) = (decide (Fin (us[k]?.getD 0)) && numsB (us.drop (k + 1))) := by
 unfold numsB
 rw [List.drop_eq_getElem_cons h, List.all_cons, List.getElem?_eq_getElem h]
 rfl
open Go.RowKit Go.Shelf
attribute [local go_sem] Oper.semAt_some
def uptoZ (z : ZD) (k : Nat) : List (_root_.Fin z.dn) := (List.finRange z.dn).take k
theorem uptoZ_succ (z : ZD) (k : Nat) (h : k < z.dn) : uptoZ z (k + 1) = uptoZ z k ++ [⟨k, h⟩] := by
 unfold uptoZ
 rw [List.take_add_one, List.getElem?_eq_getElem (by rw [List.length_finRange]; exact h)]
 simp
theorem uptoZ_all (z : ZD) : uptoZ z z.dn = List.finRange z.dn := by unfold uptoZ; rw [List.take_of_length_le (by rw [List.length_finRange]; exact Nat.le_refl _)]
attribute [local go_sem] Oper.semAt_some
def lastZ (z : ZD) : Int -> List (_root_.Fin z.dn) -> Int
 | last, [] => last
 | _, k :: ks => lastZ z (idZ z k) ks
theorem lastZ_snoc (z : ZD) : ∀ (ks : List (_root_.Fin z.dn)) (last : Int) (x : _root_.Fin z.dn), lastZ z last (ks ++ [x]) = idZ z x
 | [], _, _ => rfl
 | k :: ks, _, x => lastZ_snoc z ks _ x
theorem colsB_snoc (z : ZD) : ∀ (ks : List (_root_.Fin z.dn)) (last : Int) (x : _root_.Fin z.dn), colsB z last (ks ++ [x]) = (colsB z last ks && colOk z (lastZ z last ks) x)
 | [], last, x => by show (colOk z last x && true) = (true && colOk z last x); simp
 | k :: ks, last, x => by
  show (colOk z last k && colsB z (idZ z k) (ks ++ [x])) = (colOk z last k && colsB z (idZ z k) ks && colOk z (lastZ z (idZ z k) ks) x)
  rw [colsB_snoc z ks, Bool.and_assoc]
theorem colsB_append (z : ZD) : ∀ (ks js : List (_root_.Fin z.dn)) (last : Int), colsB z last ks = false -> colsB z last (ks ++ js) = false
 | [], js, last, h => by cases h
 | k :: ks, js, last, h => by
  show (colOk z last k && colsB z (idZ z k) (ks ++ js)) = false
  have h' : (colOk z last k && colsB z (idZ z k) ks) = false := h
  rcases Bool.and_eq_false_iff.1 h' with h1 | h1
  ·rw [h1]; rfl
  ·rw [colsB_append z ks js _ h1]; simp
theorem posB_drop (us : List Nat) {k : Nat} (h : k < us.length) : posB (us.drop k) = (decide (¬ srung (us[k]?.getD 0) < 0) && posB (us.drop (k + 1))) := by
 unfold posB
 rw [List.drop_eq_getElem_cons h, List.all_cons, List.getElem?_eq_getElem h]
 rfl
theorem numN_fin {us : List Nat} {n : Int} (h : numN us n = true) : (us.length : Int) = n /\ ∀ u ∈ us, Fin u := by
 unfold numN numsB at h
 simp at h
 exact h
end Go.Proofs.YthmhgpadinecfaaGreat
namespace Go.Proofs.YthmhgpadinecfaaGreat
open Go.RowKit
theorem to_call {w X w1 : World} (h : Below w.heap.size w X) (hb : Below X.heap.size X w1) : Below w.heap.size w w1 := h.trans (hb.mono h.size)
theorem cells5 {W : World} {B : Nat} {v0 v1 v2 v3 v4 : Value} {t : TypeId} (h : W.heap[B]? = some (.cells #[v0, v1, v2, v3, v4] t)) :
  W.cell? ⟨B, 0, none⟩ = some v0 /\ W.cell? ⟨B, 1, none⟩ = some v1 /\ W.cell? ⟨B, 2, none⟩ = some v2 /\ W.cell? ⟨B, 3, none⟩ = some v3 /\ W.cell? ⟨B, 4, none⟩ = some v4 :=
 ⟨cell_of_row _ _ 0 _ _ _ h, cell_of_row _ _ 1 _ _ _ h, cell_of_row _ _ 2 _ _ _ h, cell_of_row _ _ 3 _ _ _ h, cell_of_row _ _ 4 _ _ _ h⟩
open Go.RowKit Go.Shelf
theorem res_ctJ (f : Func) (i j : Nat) (ty : TypeId) (hf : f.results = #[ResultVar.cell i ty, ResultVar.tmp j]) (tmps : Array Value) (W : World) (B : Nat) (c : Array Value) (v : Value) (hp : tmps[i]? = some (.pointer (some ⟨B, 0, none⟩))) (hv : tmps[j]? = some v)
  (u : TypeDesc) (hu : Tryz.prog.underlying ty = some u) (hd : u.isRow = true) (n : Nat) (hi : (Tryz.prog.info? ty).map (·.size) = some n)
  (hc : c.size = n) (h : W.heap[B]? = some (.cells c ty)) : (results f tmps).run Tryz.prog W = .ok (.tuple #[.agg c, v]) W := by
 have hr : W.rangeAt B 0 c.toList := by
  have := World.rangeAt_of_block h 0 c.size
  simpa using this
 have hl := run_loadVar_mid (P := Tryz.prog) W B 0 ty c.toList _ hr hu hd (by rw [hi]; simp [hc])
 have hl2 : (loadVar ty ⟨B, 0, none⟩).run Tryz.prog W = .ok (.agg c) W := by simpa using hl
 simp [results, hf, hp, hv, hl2, asAddr]
theorem wpList_load_rowG {P : Program} {ops : Array Oper} {rest : List Oper} {op : Oper} {a : Act} {w : World} {Q : Exit -> Act -> World -> Prop} (hgd : Region.wanted op (yielded ops a.tmps) = true) (ty : TypeId) (x : Operand) (ho : op.op = .load ty x)
  (B : Nat) (c : Array Value) (hx : a.eval x = .pointer (some ⟨B, 0, none⟩)) (hB : w.heap[B]? = some (.cells c ty)) (d : TypeDesc) (hu : P.underlying ty = some d) (hd : d.isRow = true)
  (n : Nat) (hi : (P.info? ty).map (·.size) = some n) (hn : c.size = n)
  (h : wpList P ops Q rest (a.put op.dst (.agg c)) w) : wpList P ops Q (op :: rest) a w := by
 have hr : w.rangeAt B 0 c.toList := by
  have := World.rangeAt_of_block hB 0 c.size
  simpa using this
 refine wpList_step fun K hK => ?_
 rw [if_pos hgd]
 refine wp_load_mid ty x ho B 0 hx c.toList d hr hu hd (by simpa [hn] using hi) ?_
 refine hK _ _ ?_
 simpa using h
def emptyB (bad : Bool) (N : Int) (cn dn gn rn : Nat) : Bool := bad && decide (0 <= N) && decide (N <= 256) && decide (cn + dn + gn + rn = 0)
theorem refEmpty_any (N : Int) (co io go ro : Option Addr) (cn cc dn dc gn gc rn rc : Nat) (bad : Bool) (h1 : cn <= 1000000000) (h2 : dn <= 1000000000) (h3 : gn <= 1000000000) (h4 : rn <= 1000000000) (w : World) :
  Calls Tryz.prog 45 #[.agg #[.int .i64 N, .slice co cn cc, .slice io dn dc, .slice go gn gc, .slice ro rn rc, .bool bad]] w fun e w' => e = .returned (.bool (emptyB bad N cn dn gn rn)) /\ Below w.heap.size w w' := by
 have HB : Hid (∀ x, Below w.heap.size w (w.alloc x)) := fun x => (Below.refl _ w).alloc (Nat.le_refl _) _
 obtain ⟨eb, heb⟩ : ∃ eb, emptyB bad N cn dn gn rn = eb := ⟨_, rfl⟩
 rw [heb]
 have HE : Hid (eb = (bad && decide (0 <= N) && decide (N <= 256) && decide (cn + dn + gn + rn = 0))) := heb.symm
 clear heb
 cases bad with
 | false =>
  have HS : Hid (eb = false) := by unfold Hid; rw [HE.out]; rfl
  go_enter Tryz.func45, Tryz.ntmps45
  go_wp2_with fail
  go_ret
  exact ⟨by rw [HS.out]; rfl, HB.out _⟩
 | true =>
  by_cases q0 : 0 <= N
  case neg =>
   have d0 : decide (0 <= N) = false := decide_eq_false q0
   have HS : Hid (eb = false) := by unfold Hid; rw [HE.out, d0]; rfl
   go_enter Tryz.func45, Tryz.ntmps45
   go_wp2_with fail
   go_ret
   exact ⟨by rw [HS.out]; rfl, HB.out _⟩
  have d0 : decide (0 <= N) = true := decide_eq_true q0
  by_cases q1 : N <= 256
  case neg =>
   have d1 : decide (N <= 256) = false := decide_eq_false q1
   have HS : Hid (eb = false) := by unfold Hid; rw [HE.out, d0, d1]; rfl
   go_enter Tryz.func45, Tryz.ntmps45
   go_wp2_with fail
   go_ret
   exact ⟨by rw [HS.out]; rfl, HB.out _⟩
  have d1 : decide (N <= 256) = true := decide_eq_true q1
  have HS : Hid (eb = ((cn : Int) + (dn : Int) + (gn : Int) + (rn : Int) == 0)) := by
   unfold Hid; rw [HE.out, d0, d1]
   by_cases q : cn + dn + gn + rn = 0
   ·rw [decide_eq_true q]
    have : (cn : Int) + (dn : Int) + (gn : Int) + (rn : Int) = 0 := by omega
    rw [this]; rfl
   ·rw [decide_eq_false q]
    have : ¬ (cn : Int) + (dn : Int) + (gn : Int) + (rn : Int) = 0 := by omega
    simpa using this
  go_enter Tryz.func45, Tryz.ntmps45
  go_wp2_with fail
  go_ret
  exact ⟨by rw [HS.out]; rfl, HB.out _⟩
end Go.Proofs.YthmhgpadinecfaaGreat
namespace Go.Proofs.YthmhgpadinecfaaGreat
open Go.RowKit
open Go.RowKit Go.Shelf
end Go.Proofs.YthmhgpadinecfaaGreat
namespace Go.Proofs.YthmhgpadinecfaaGreat
open Go.RowKit
open Go.RowKit Go.Shelf
theorem numbers10_any (ao : Option Addr) (len cap : Nat) (us : List Nat) (n : Int) (E : Nat) (hE : E = 1074) (w : World) (h : RdUs w ao len cap us) (hlt : ∀ u ∈ us, u < 18446744073709551616) (hl : len <= 1050000) :
  Calls Tryz.prog 75 #[.slice ao len cap, .int .i64 n] w fun e w' => (∃ v, e = .returned (.tuple #[v, .bool (numN us n)]) /\ (numN us n = true -> RowN w' w.heap.size v E us)) /\ Below w.heap.size w w' := by
 have HR : Hid _ := h
 have hln := h.length
 have HLT : Hid _ := hlt
 clear h hlt
 by_cases hn : (len : Int) = n
 ·subst hn
  have HE : Hid (numN us (len : Int) = numsB us) := by unfold Hid numN; rw [hln, decide_eq_true rfl, Bool.true_and]
  obtain ⟨nn, hnn⟩ : ∃ nn, numN us (len : Int) = nn := ⟨_, rfl⟩
  rw [hnn] at HE ⊢
  have HLN : Hid (us.length = len) := hln
  clear hln hnn
  go_enter Tryz.func75, Tryz.ntmps75
  go_wp2_with fail
  go_loopg [6, 7] len (fun g v iv wx => ∃ k : Nat, iv = .int .i64 k /\ k + g = len /\ Hid (RowN wx w.heap.size v E (us.take k)) /\ Hid (Below w.heap.size w wx) /\ Hid (nn = numsB (us.drop k)))
  case atStart => exact ⟨0, rfl, by omega, RowN.nil _ _ _, Below.refl _ _, HE.out⟩
  case round =>
   obtain ⟨k, rfl, hk, HO, HB, HD⟩ := hrel
   clear HE
   have hsr := HB.out.size
   by_cases hlt : k < len
   ·have hd : decide ((k : Int) < (len : Int)) = true := decide_eq_true (by omega)
    obtain ⟨g, rfl⟩ : ∃ g, gk = g + 1 := ⟨gk - 1, by omega⟩
    have HIG : Hid _ := hk
    rcases (HR.out.later HB.out).cells with h0 | ⟨ab, aoff, rfl, hca⟩
    ·omega
    have ga := hca k hlt
    have hkl : k < us.length := by rw [HLN.out]; exact hlt
    have hux := HLT.out _ (getD_mem (us := us) (j := k) hkl)
    have HTS : Hid _ := take_snocJ (us := us) (k := k) hkl
    have HDS : Hid _ := numsB_drop us hkl
    obtain ⟨x, hx⟩ : ∃ x, us[k]?.getD 0 = x := ⟨_, rfl⟩
    rw [hx] at ga hux HTS HDS
    have HOF : Hid _ := ofC_any x hux wr E hE
    clear hca hx hk hkl
    go_upto_region 8 with (first
     | (go_at_call 47; refine Calls.mono HOF.out ?_; rintro e w1 ⟨v1, rfl, ⟨z1, hz1, hv1⟩, b1⟩; obtain ⟨n1, m1, e1, ⟨o1, l1, c1, xs1, rfl, hr1⟩, hr2⟩ := id hz1; clear hr1 hr2))
    have N1 : Hid (NumC w1 (.agg #[.bool n1, .slice o1 l1 c1, .int .i64 e1]) E 1024 z1 /\ (Fin x -> z1 = fval x)) := ⟨hz1, hv1⟩
    clear hz1 hv1 HOF
    have B1 : Hid (Below wr.heap.size wr w1) := b1
    have s1 := b1.size
    clear b1
    by_cases hf : Fin x
    ·have hfd : decide (Fin x) = true := decide_eq_true hf
     rw [hfd] at HDS ⊢
     have HF : Hid _ := hf
     clear hf hfd
     obtain ⟨xs, hxo, hxj⟩ := (HO.out.later B1.out).own
     have HXO : Hid _ := hxo
     have HXJ : Hid _ := hxj
     have hxl : (us.take k).length = k := by rw [List.length_take, HLN.out]; omega
     rw [hxl] at hxo
     have HX2 : Hid _ := hxo
     clear hxo hxj
     have HC2 : Hid (∀ g, u6.ownBlock = some g -> Cl noU ((w1.alloc (.cells #[.bool n1, .slice o1 l1 c1, .int .i64 e1] 65)).alloc (.cells #[.bool n1, .slice o1 l1 c1, .int .i64 e1] 65)) g) := fun g hg => ((HO.out.cl g hg).later B1.out).later (((Below.refl _ w1).alloc (Nat.le_refl _) _).alloc (by simp only [alloc_size]; omega) _)
     go_wp2_with (first
      | (at_builtin; refine append_clJ noU Tryz.underlying83 Tryz.infoNumJ rfl (by decide) (by decide) zero_noU _ (by rfl) _ _ (by rfl) w.heap.size _ k xs (by rfl) (World.ownsRow.alloc (World.ownsRow.alloc HX2.out _) _) HC2.out ⟨w1.heap.size + 1, 0, none⟩ 1 1 [.bool n1, .slice o1 l1 c1, .int .i64 e1] (by rfl) (by decide) rfl (news_threeJ (heap_at _ _ (w1.heap.size + 1) (by simp only [alloc_size]))) (three_one n1 o1 l1 c1 e1) (three_noU n1 o1 l1 c1 e1) (by omega) (by simp only [alloc_size]; omega) ?_; intro v5 w5 o5 g5 cl5))
     have A1 : Below w1.heap.size w1 ((w1.alloc (.cells #[.bool n1, .slice o1 l1 c1, .int .i64 e1] 65)).alloc (.cells #[.bool n1, .slice o1 l1 c1, .int .i64 e1] 65)) := ((Below.refl _ w1).alloc (Nat.le_refl _) _).alloc (by simp only [alloc_size]; omega) _
     have R5 : Hid (RowN w5 w.heap.size v5 E (us.take k ++ [x])) := by
      have hz := N1.out.2 HF.out
      have h3 := (HO.out.later B1.out).later A1
      obtain ⟨xs', hx', hj'⟩ := h3.own
      refine RowN.push (xs := xs) (by rw [hxl]; exact World.ownsRow.alloc (World.ownsRow.alloc HX2.out _) _) (fun j hj => ?_) HC2.out (hz ▸ N1.out.1.later A1) (by rw [hxl]; exact o5) g5 cl5
      obtain ⟨n2, o2, l2, c2, e2, a1, a2, a3, a4⟩ := HXJ.out j hj
      exact ⟨n2, o2, l2, c2, e2, a1, a2, a3, a4.later A1⟩
     have B5 : Hid (Below w.heap.size w w5) := (to_call (to_call HB.out B1.out) A1).trans (g5.below (fun k hk => (World.ownsRow.lt HX2.out k hk).1) (by simp only [alloc_size]; omega))
     clear o5 g5 cl5 A1 HC2 HX2 HXO HXJ
     go_roundg g
     case measure => omega
     case rel => exact ⟨k + 1, by go_num, by have := HIG.out; omega, by unfold Hid; rw [HTS.out]; exact R5.out, B5, by unfold Hid; rw [HD.out, HDS.out, Bool.true_and]⟩
    ·have hfd : decide (Fin x) = false := decide_eq_false hf
     rw [hfd] at HDS ⊢
     have HN0 : Hid (nn = false) := by unfold Hid; rw [HD.out, HDS.out, Bool.false_and]
     have HB9 : Hid (Below w.heap.size w (w1.alloc (.cells #[.bool n1, .slice o1 l1 c1, .int .i64 e1] 65))) := (to_call HB.out B1.out).alloc (to_call HB.out B1.out).size _
     clear hf hfd
     go_wp2_with fail
     refine bodyPost_ret (results_tmp2 rfl _ _ _) rfl ?_
     exact ⟨⟨_, by rw [HN0.out]; rfl, fun h => by rw [HN0.out] at h; cases h⟩, HB9.out⟩
   ·have hd : decide ((k : Int) < (len : Int)) = false := decide_eq_false (by omega)
    have HO2 : Hid (RowN wr w.heap.size u6 E us) := by
     have := HO.out
     rw [List.take_of_length_le (by rw [HLN.out]; omega)] at this
     exact this
    have HN1 : Hid (nn = true) := by unfold Hid; rw [HD.out, List.drop_eq_nil_of_le (by rw [HLN.out]; omega)]; rfl
    go_wp2_with fail
    refine bodyPost_ret (results_tmp2 rfl _ _ _) rfl ?_
    exact ⟨⟨_, by rw [HN1.out]; rfl, fun _ => HO2.out⟩, HB.out⟩
 ·have HE : Hid (numN us n = false) := by unfold Hid numN; rw [hln, decide_eq_false hn, Bool.false_and]
  have hb : ((len : Int) != n) = true := by simpa using hn
  have hb2 : ((len : Int) == n) = false := by simpa using hn
  go_enter Tryz.func75, Tryz.ntmps75
  go_wp2_with fail
  refine bodyPost_ret (results_tmp2 rfl _ _ _) rfl ?_
  exact ⟨⟨_, by rw [HE.out]; rfl, fun h => by rw [HE.out] at h; cases h⟩, Below.refl _ _⟩
theorem NumC.grw {w w' : World} {v v' y : Value} {s : Nat} {T z : Int} (h : NumC w y s T z) (hg : Grw w w' v.ownBlock v'.ownBlock) (hcl : ∀ g, v.ownBlock = some g -> Cl noU w g) : NumC w' y s T z := by
 cases hv : v.ownBlock with
 | none => exact h.later ⟨hg.by'.os, hg.by'.tape, hg.by'.output, hg.by'.size, fun k hk => hg.by'.block k hk (by rw [hv]; simp)⟩
 | some g => exact h.cl (hcl g hv) fun b hb hlt => hg.by'.block b hlt (by rw [hv]; intro e; cases e; exact hb rfl)
theorem RowN.grw {w w' : World} {base base' E size n : Nat} {t : TypeId} {u v v' : Value} {us : List Nat} {xs : List Value} (h : RowN w base u E us) (ht : t ≠ 65) (ho : w.ownsRow base' t size v n xs) (hg : Grw w w' v.ownBlock v'.ownBlock) (hcl : ∀ g, v.ownBlock = some g -> Cl noU w g) : RowN w' base u E us := by
 obtain ⟨ys, h1, h2⟩ := h.own
 have hk := grw_types ho hg
 refine ⟨⟨ys, owns_keepT h1 fun k cur hc => hk k cur _ (fun e => ht e.symm) hc, fun j hj => ?_⟩, fun g hgu => ?_⟩
 ·obtain ⟨a, b, c, d, e, a1, a2, a3, a4⟩ := h2 j hj
  exact ⟨a, b, c, d, e, a1, a2, a3, a4.grw hg hcl⟩
 ·obtain ⟨cur, hc⟩ := owns_type h1 hgu
  exact (h.cl g hgu).same (hk g cur _ (fun e => ht e.symm) hc)
theorem RowN.box {w w' : World} {base E B : Nat} {t : TypeId} {cur : Array Value} {u : Value} {us : List Nat} (h : RowN w base u E us) (ht : t ≠ 65) (hB : w.heap[B]? = some (.cells cur t)) (hcl : Cl noU w B) (hk : ∀ k, k ≠ B -> w'.heap[k]? = w.heap[k]?) : RowN w' base u E us := by
 obtain ⟨ys, h1, h2⟩ := h.own
 have hne : ∀ (k : Nat) (c : Array Value), w.heap[k]? = some (.cells c 65) -> w'.heap[k]? = w.heap[k]? := fun k c hc => hk k (by rintro rfl; rw [hB] at hc; cases hc; exact ht rfl)
 refine ⟨⟨ys, owns_keepT h1 hne, fun j hj => ?_⟩, fun g hgu => ?_⟩
 ·obtain ⟨a, b, c, d, e, a1, a2, a3, a4⟩ := h2 j hj
  exact ⟨a, b, c, d, e, a1, a2, a3, a4.cl hcl fun b hb _ => hk b hb⟩
 ·obtain ⟨cur', hc⟩ := owns_type h1 hgu
  exact (h.cl g hgu).same (hne g cur' hc)
structure RlS (w : World) (base E : Nat) (cs rs : List Nat) (ids : List Int) (gs : List (List Nat)) (vc vr vi vg : Value) (gl : List Value) : Prop where
 c : RowN w base vc E cs
 r : RowN w base vr E rs
 i : w.ownsRow base 3 1 vi ids.length (ids.map (Value.int .i64))
 icl : ∀ g, vi.ownBlock = some g -> Cl noU w g
 g : w.ownsRow base 83 1 vg gl.length gl
 gcl : ∀ g, vg.ownBlock = some g -> Cl noU w g
 len : gl.length = gs.length
 col : ∀ (j : Nat) (u : Value), gl[j]? = some u -> RowN w base u E (gs[j]?.getD [])
theorem RlS.later {w w' : World} {base E : Nat} {cs rs : List Nat} {ids : List Int} {gs : List (List Nat)} {vc vr vi vg : Value} {gl : List Value} (h : RlS w base E cs rs ids gs vc vr vi vg gl) (hb : Below w.heap.size w w') : RlS w' base E cs rs ids gs vc vr vi vg gl :=
 ⟨h.c.later hb, h.r.later hb, owns_keepT h.i fun k cur hc => hb.block k (blk_lt hc), fun g hg => (h.icl g hg).later hb, owns_keepT h.g fun k cur hc => hb.block k (blk_lt hc), fun g hg => (h.gcl g hg).later hb, h.len, fun j u hj => (h.col j u hj).later hb⟩
theorem RlS.box {w w' : World} {base E B : Nat} {t : TypeId} {cur : Array Value} {cs rs : List Nat} {ids : List Int} {gs : List (List Nat)} {vc vr vi vg : Value} {gl : List Value} (h : RlS w base E cs rs ids gs vc vr vi vg gl) (h1 : t ≠ 65) (h2 : t ≠ 3) (h3 : t ≠ 83) (hB : w.heap[B]? = some (.cells cur t)) (hcl : Cl noU w B) (hk : ∀ k, k ≠ B -> w'.heap[k]? = w.heap[k]?) : RlS w' base E cs rs ids gs vc vr vi vg gl := by
 have ki : ∀ (k : Nat) (c : Array Value), w.heap[k]? = some (.cells c 3) -> w'.heap[k]? = w.heap[k]? := fun k c hc => hk k (by rintro rfl; rw [hB] at hc; cases hc; exact h2 rfl)
 have kg : ∀ (k : Nat) (c : Array Value), w.heap[k]? = some (.cells c 83) -> w'.heap[k]? = w.heap[k]? := fun k c hc => hk k (by rintro rfl; rw [hB] at hc; cases hc; exact h3 rfl)
 exact ⟨h.c.box h1 hB hcl hk, h.r.box h1 hB hcl hk, owns_keepT h.i ki, fun g hg => by obtain ⟨c, hc⟩ := owns_type h.i hg; exact (h.icl g hg).same (ki g c hc), owns_keepT h.g kg, fun g hg => by obtain ⟨c, hc⟩ := owns_type h.g hg; exact (h.gcl g hg).same (kg g c hc), h.len, fun j u hj => (h.col j u hj).box h1 hB hcl hk⟩
theorem RlS.pushI {w w' : World} {base E : Nat} {cs rs : List Nat} {ids is : List Int} {gs : List (List Nat)} {vc vr vi vg vi' : Value} {gl : List Value} (h : RlS w base E cs rs ids gs vc vr vi vg gl) (hg : Grw w w' vi.ownBlock vi'.ownBlock) (ho : w'.ownsRow base 3 1 vi' is.length (is.map (Value.int .i64))) (hcl : ∀ g, vi'.ownBlock = some g -> Cl noU w' g) : RlS w' base E cs rs is gs vc vr vi' vg gl := by
 have hk := grw_types h.i hg
 exact ⟨h.c.grw (by decide) h.i hg h.icl, h.r.grw (by decide) h.i hg h.icl, ho, hcl, owns_keepT h.g fun k cur hc => hk k cur _ (by decide) hc, fun g hgg => by obtain ⟨c, hc⟩ := owns_type h.g hgg; exact (h.gcl g hgg).same (hk g c _ (by decide) hc), h.len, fun j u hj => (h.col j u hj).grw (by decide) h.i hg h.icl⟩
theorem RlS.pushG {w w' : World} {base E : Nat} {cs rs us : List Nat} {ids : List Int} {gs : List (List Nat)} {vc vr vi vg vg' v : Value} {gl : List Value} (h : RlS w base E cs rs ids gs vc vr vi vg gl) (hg : Grw w w' vg.ownBlock vg'.ownBlock) (ho : w'.ownsRow base 83 1 vg' (gl.length + 1) (gl ++ [v])) (hcl : ∀ g, vg'.ownBlock = some g -> Cl noU w' g) (hv : RowN w base v E us) : RlS w' base E cs rs ids (gs ++ [us]) vc vr vi vg' (gl ++ [v]) := by
 have hk := grw_types h.g hg
 refine ⟨h.c.grw (by decide) h.g hg h.gcl, h.r.grw (by decide) h.g hg h.gcl, owns_keepT h.i fun k cur hc => hk k cur _ (by decide) hc, fun g hgg => by obtain ⟨c, hc⟩ := owns_type h.i hgg; exact (h.icl g hgg).same (hk g c _ (by decide) hc), by simpa using ho, hcl, by simp [h.len], fun j u hj => ?_⟩
 by_cases e : j < gl.length
 ·rw [List.getElem?_append_left e] at hj
  rw [List.getElem?_append_left (by rw [<- h.len]; exact e)]
  exact (h.col j u hj).grw (by decide) h.g hg h.gcl
 ·have hl := (List.getElem?_eq_some_iff.1 hj).1
  have ej : j = gl.length := by simp at hl; omega
  subst ej
  rw [List.getElem?_append_right (Nat.le_refl _), Nat.sub_self, List.getElem?_cons_zero] at hj
  cases hj
  rw [List.getElem?_append_right (by rw [h.len]; exact Nat.le_refl _), h.len, Nat.sub_self, List.getElem?_cons_zero]
  exact hv.grw (by decide) h.g hg h.gcl
theorem signF_any (v : Value) (E : Nat) (u : Nat) (w : World) (h : NumC w v E 1024 (fval u)) : Calls Tryz.prog 74 #[v] w fun e' w' => (∃ s : Int, e' = .returned (.int .i64 s) /\ -1 <= s /\ s <= 1 /\ (s < 0 ↔ srung u < 0) /\ (s = 0 ↔ srung u = 0)) /\ Below w.heap.size w w' := by
 obtain ⟨neg, m, e, h1, h2, h3, h4, _⟩ := h
 refine Calls.mono (sign_any v neg m e w h1) ?_
 rintro e' w' ⟨rfl, hb⟩
 refine ⟨⟨_, rfl, ?_⟩, hb⟩
 have hz0 : srung 0 = 0 := by decide
 have hpow : (0 : Int) < ((2 ^ (e + E).toNat : Nat) : Int) := by have := Nat.two_pow_pos (e + E).toNat; omega
 have hneg := srung_neg u
 have hpos := srung_pos u
 rw [<- h4] at hneg hpos
 unfold zv sv at hneg hpos
 by_cases hm : m = 0
 ·subst hm
  simp at hneg hpos
  simp
  omega
 ·have hm' : (0 : Int) < (m : Int) := by omega
  rw [if_neg hm]
  cases neg
  ·have hp : (0 : Int) < (m : Int) * ((2 ^ (e + E).toNat : Nat) : Int) := Int.mul_pos hm' hpow
   simp only [Bool.false_eq_true, if_false] at hneg hpos ⊢
   have := hpos.2 hp
   omega
  ·have hp : (-(m : Int)) * ((2 ^ (e + E).toNat : Nat) : Int) < 0 := Int.mul_neg_of_neg_of_pos (by omega) hpow
   simp only [if_true] at hneg hpos ⊢
   have := hneg.2 hp
   omega
theorem Tryz.infoRl : (Tryz.prog.info? 88).map (·.size) = some 5 := by kernel_rfl
theorem Tryz.szNs : (Tryz.prog.info? 83).map (·.size) = some 1 := by kernel_rfl
theorem Tryz.szNss : (Tryz.prog.info? 86).map (·.size) = some 1 := by kernel_rfl
theorem oneRl (N : Int) (a b c d : Value) (h1 : a.oneCell' = true) (h2 : b.oneCell' = true) (h3 : c.oneCell' = true) (h4 : d.oneCell' = true) : (#[.int .i64 N, a, b, c, d] : Array Value).all (·.oneCell') = true := by
 simp only [Array.all_eq_true_iff_forall_mem]
 intro v hv
 simp only [List.mem_toArray, List.mem_cons, List.not_mem_nil, or_false] at hv
 rcases hv with rfl | rfl | rfl | rfl | rfl <;> first | rfl | assumption
theorem reals_no (u : ZD) (E : Nat) (w : World) (h : u.bad = true \/ u.N < 1 \/ 256 < u.N \/ u.dn ≠ u.gn) (hmi : u.dn <= 1050000) (hmg : u.gn <= 1050000) :
  Calls Tryz.prog 44 #[.agg (zRow u)] w fun e w' => (∃ N' a1 l1 c1 a2 l2 c2 a3 l3 c3 a4 l4 c4, e = .returned (.tuple #[.agg #[.int .i64 N', .slice a1 l1 c1, .slice a2 l2 c2, .slice a3 l3 c3, .slice a4 l4 c4], .bool (!u.bad && wholeB u)]) /\ ((!u.bad && wholeB u) = true -> N' = u.N /\ ∃ gl, RlS w' w.heap.size E u.cs u.rs u.ids u.gs (.slice a1 l1 c1) (.slice a4 l4 c4) (.slice a2 l2 c2) (.slice a3 l3 c3) gl)) /\ Below w.heap.size w w' := by
 have HF : Hid ((!u.bad && wholeB u) = false) := by
  unfold Hid wholeB
  rcases h with h | h | h | h
  ·rw [h]; rfl
  ·rw [decide_eq_false (p := 1 <= u.N) (by omega)]; simp
  ·rw [decide_eq_false (p := u.N <= 256) (by omega)]; simp
  ·rw [decide_eq_false h]; simp
 obtain ⟨okv, hok⟩ : ∃ okv, (!u.bad && wholeB u) = okv := ⟨_, rfl⟩
 rw [hok] at HF ⊢
 clear hok
 obtain ⟨N, co, cn, cc, io, dn, dc, go, gn, gc, ro, rn, rc, bad, cs, ids, gv, gs, rs⟩ := u
 unfold zRow
 dsimp only at h hmi hmg ⊢
 have X0 : Below w.heap.size w ((w.alloc (.cells #[.int .i64 N, .slice co cn cc, .slice io dn dc, .slice go gn gc, .slice ro rn rc, .bool bad] 32)).alloc (.cells #[.int .i64 0, .slice none 0 0, .slice none 0 0, .slice none 0 0, .slice none 0 0] 88)) := ((Below.refl _ w).alloc (Nat.le_refl _) _).alloc (by simp only [alloc_size]; omega) _
 have Y0 : ((w.alloc (.cells #[.int .i64 N, .slice co cn cc, .slice io dn dc, .slice go gn gc, .slice ro rn rc, .bool bad] 32)).alloc (.cells #[.int .i64 0, .slice none 0 0, .slice none 0 0, .slice none 0 0, .slice none 0 0] 88)).heap[w.heap.size]? = some (.cells #[.int .i64 N, .slice co cn cc, .slice io dn dc, .slice go gn gc, .slice ro rn rc, .bool bad] 32) := alloc_kept (heap_alloc_new w _) _
 have Y1 : ((w.alloc (.cells #[.int .i64 N, .slice co cn cc, .slice io dn dc, .slice go gn gc, .slice ro rn rc, .bool bad] 32)).alloc (.cells #[.int .i64 0, .slice none 0 0, .slice none 0 0, .slice none 0 0, .slice none 0 0] 88)).heap[w.heap.size + 1]? = some (.cells #[.int .i64 0, .slice none 0 0, .slice none 0 0, .slice none 0 0, .slice none 0 0] 88) := heap_at _ _ (w.heap.size + 1) (by simp only [alloc_size])
 have HK : Hid _ := And.intro X0 Y1
 have H' : Hid _ := h
 clear X0 Y0 Y1 h
 cases bad
 case true =>
  go_enter Tryz.func44, Tryz.ntmps44
  go_wp2_with (first | (refine wpList_store_row (by rfl) 88 _ _ (by rfl) w w.heap.size (w.heap.size + 1) #[.int .i64 0, .slice none 0 0, .slice none 0 0, .slice none 0 0, .slice none 0 0] _ (by rfl) (by rfl) HK.out.2 HK.out.1 (Nat.le_succ _) 5 Tryz.infoRl (by rfl) (by rfl) (oneRl _ _ _ _ _ rfl rfl rfl rfl) ?_; intro W9 e9 b9 s9 o9))
  refine bodyPost_ret (res_ctJ _ 2 3 88 (by kernel_rfl) _ _ (w.heap.size + 1) _ _ (by rfl) (by rfl) _ Tryz.underlying88 rfl 5 Tryz.infoRl rfl e9) rfl ?_
  exact ⟨⟨0, none, 0, 0, none, 0, 0, none, 0, 0, none, 0, 0, by rw [HF.out]; rfl, fun h => by rw [HF.out] at h; cases h⟩, b9⟩
 case false =>
 by_cases h1 : N < 1
 ·have d1 : decide (N < 1) = true := decide_eq_true h1
  clear h1
  go_enter Tryz.func44, Tryz.ntmps44
  go_wp2_with (first | (refine wpList_store_row (by rfl) 88 _ _ (by rfl) w w.heap.size (w.heap.size + 1) #[.int .i64 0, .slice none 0 0, .slice none 0 0, .slice none 0 0, .slice none 0 0] _ (by rfl) (by rfl) HK.out.2 HK.out.1 (Nat.le_succ _) 5 Tryz.infoRl (by rfl) (by rfl) (oneRl _ _ _ _ _ rfl rfl rfl rfl) ?_; intro W9 e9 b9 s9 o9))
  refine bodyPost_ret (res_ctJ _ 2 3 88 (by kernel_rfl) _ _ (w.heap.size + 1) _ _ (by rfl) (by rfl) _ Tryz.underlying88 rfl 5 Tryz.infoRl rfl e9) rfl ?_
  exact ⟨⟨0, none, 0, 0, none, 0, 0, none, 0, 0, none, 0, 0, by rw [HF.out]; rfl, fun h => by rw [HF.out] at h; cases h⟩, b9⟩
 have d1 : decide (N < 1) = false := decide_eq_false h1
 by_cases h2 : 256 < N
 ·have d2 : decide (256 < N) = true := decide_eq_true h2
  clear h1 h2
  go_enter Tryz.func44, Tryz.ntmps44
  go_wp2_with (first | (refine wpList_store_row (by rfl) 88 _ _ (by rfl) w w.heap.size (w.heap.size + 1) #[.int .i64 0, .slice none 0 0, .slice none 0 0, .slice none 0 0, .slice none 0 0] _ (by rfl) (by rfl) HK.out.2 HK.out.1 (Nat.le_succ _) 5 Tryz.infoRl (by rfl) (by rfl) (oneRl _ _ _ _ _ rfl rfl rfl rfl) ?_; intro W9 e9 b9 s9 o9))
  refine bodyPost_ret (res_ctJ _ 2 3 88 (by kernel_rfl) _ _ (w.heap.size + 1) _ _ (by rfl) (by rfl) _ Tryz.underlying88 rfl 5 Tryz.infoRl rfl e9) rfl ?_
  exact ⟨⟨0, none, 0, 0, none, 0, 0, none, 0, 0, none, 0, 0, by rw [HF.out]; rfl, fun h => by rw [HF.out] at h; cases h⟩, b9⟩
 have d2 : decide (256 < N) = false := decide_eq_false h2
 have hne : dn ≠ gn := by
  rcases H'.out with h | h | h | h
  ·cases h
  ·omega
  ·omega
  ·exact h
 have d3 : ((dn : Int) != (gn : Int)) = true := by simp; omega
 have d4 : ((dn : Int) == (gn : Int)) = false := by simp; omega
 have d5 : (dn == gn) = false := by simpa using hne
 clear h1 h2
 go_enter Tryz.func44, Tryz.ntmps44
 go_wp2_with (first | (refine wpList_store_row (by rfl) 88 _ _ (by rfl) w w.heap.size (w.heap.size + 1) #[.int .i64 0, .slice none 0 0, .slice none 0 0, .slice none 0 0, .slice none 0 0] _ (by rfl) (by rfl) HK.out.2 HK.out.1 (Nat.le_succ _) 5 Tryz.infoRl (by rfl) (by rfl) (oneRl _ _ _ _ _ rfl rfl rfl rfl) ?_; intro W9 e9 b9 s9 o9))
 refine bodyPost_ret (res_ctJ _ 2 3 88 (by kernel_rfl) _ _ (w.heap.size + 1) _ _ (by rfl) (by rfl) _ Tryz.underlying88 rfl 5 Tryz.infoRl rfl e9) rfl ?_
 exact ⟨⟨0, none, 0, 0, none, 0, 0, none, 0, 0, none, 0, 0, by rw [HF.out]; rfl, fun h => by rw [HF.out] at h; cases h⟩, b9⟩
theorem rl_cl {w : World} {D : Nat} {N : Int} {a b c d : Value} (ha : noU a = true) (hb : noU b = true) (hc : noU c = true) (hd : noU d = true) (h : w.heap[D]? = some (.cells #[.int .i64 N, a, b, c, d] 88)) : Cl noU w D := by
 refine ⟨_, _, h, fun i v hv => ?_⟩
 match i, hv with
 | 0, hv => cases hv; rfl
 | 1, hv => cases hv; exact ha
 | 2, hv => cases hv; exact hb
 | 3, hv => cases hv; exact hc
 | 4, hv => cases hv; exact hd
theorem own_noU {w : World} {E : TypeId} {base size n : Nat} {v : Value} {xs : List Value} (h : w.ownsRow base E size v n xs) : noU v = true := by
 rcases h.2 with ⟨rfl, _⟩ | ⟨g, cap, cur, rfl, _⟩ <;> rfl
theorem rdGu_at {w : World} {b off len cap : Nat} {gv : Nat -> Option Addr × Nat × Nat} {gs : List (List Nat)} (h : RdGu w (some ⟨b, off, none⟩) len cap gv gs) {k : Nat} (hk : k < len) : w.cell? ⟨b, off + k, none⟩ = some (.slice (gv k).1 (gv k).2.1 (gv k).2.2) := by
 rcases h.cells with h0 | ⟨b', off', e, hc⟩
 ·omega
 ·cases e
  exact hc k hk
theorem dec2_false {p q : Prop} [Decidable p] [Decidable q] (h : ¬ (p /\ q)) : (decide p && decide q) = false := by
 by_cases hp : p
 ·have hq : ¬ q := fun hq => h ⟨hp, hq⟩
  rw [decide_eq_false hq, Bool.and_false]
 ·rw [decide_eq_false hp, Bool.false_and]
theorem Tryz.infoNsJ : (Tryz.prog.info? 83).map (fun i => (i.zero, i.size, i.bytes)) = some (some (.slice none 0 0), 1, 24) := by kernel_rfl
theorem take_snocI {us : List Int} {k : Nat} (h : k < us.length) : us.take (k + 1) = us.take k ++ [us[k]?.getD 0] := by
 rw [List.take_succ_eq_append_getElem h, List.getElem?_eq_getElem h]; rfl
theorem lastZ_ge (z : ZD) : ∀ k, k <= z.dn -> colsB z (-1) (uptoZ z k) = true -> -1 <= lastZ z (-1) (uptoZ z k)
 | 0, _, _ => Int.le_refl _
 | k + 1, hk, h => by
  rw [uptoZ_succ z k (by omega), colsB_snoc, Bool.and_eq_true] at h
  have ih := lastZ_ge z k (by omega) h.1
  rw [uptoZ_succ z k (by omega), lastZ_snoc]
  have h2 := h.2
  unfold colOk at h2
  simp only [Bool.and_eq_true, decide_eq_true_eq] at h2
  omega
theorem lastZ_at (z : ZD) (k : Nat) (hk : k <= z.dn) : (k = 0 -> lastZ z (-1) (uptoZ z k) = -1) /\ (0 < k -> lastZ z (-1) (uptoZ z k) = z.ids[k - 1]?.getD 0) := by
 refine ⟨fun h => by subst h; rfl, fun h => ?_⟩
 obtain ⟨j, rfl⟩ : ∃ j, k = j + 1 := ⟨k - 1, by omega⟩
 rw [uptoZ_succ z j (by omega), lastZ_snoc]
 rfl
theorem reals_yes (n : Nat) (co : Option Addr) (cn cc : Nat) (io : Option Addr) (dn dc : Nat) (go : Option Addr) (gc : Nat) (ro : Option Addr) (rn rc : Nat) (cs : List Nat) (ids : List Int) (gv : Nat -> Option Addr × Nat × Nat) (gs : List (List Nat)) (rs : List Nat) (E : Nat) (hE : E = 1074) (w : World) (hu : ZU w ⟨(n : Int), co, cn, cc, io, dn, dc, go, dn, gc, ro, rn, rc, false, cs, ids, gv, gs, rs⟩) (hn : 1 <= n /\ n <= 256)
  (hcl : cn <= 1050000) (hrl : rn <= 1050000) (hil : dn <= 1050000) (hll : ∀ k, k < dn -> (gv k).2.1 <= 1050000) (hc64 : ∀ x ∈ cs, x < 18446744073709551616) (hr64 : ∀ x ∈ rs, x < 18446744073709551616) (hg64 : ∀ l ∈ gs, ∀ x ∈ l, x < 18446744073709551616) :
  Calls Tryz.prog 44 #[.agg #[.int .i64 (n : Int), .slice co cn cc, .slice io dn dc, .slice go dn gc, .slice ro rn rc, .bool false]] w fun e w' => (∃ N' a1 l1 c1 a2 l2 c2 a3 l3 c3 a4 l4 c4, e = .returned (.tuple #[.agg #[.int .i64 N', .slice a1 l1 c1, .slice a2 l2 c2, .slice a3 l3 c3, .slice a4 l4 c4], .bool (wholeB ⟨(n : Int), co, cn, cc, io, dn, dc, go, dn, gc, ro, rn, rc, false, cs, ids, gv, gs, rs⟩)]) /\ ((wholeB ⟨(n : Int), co, cn, cc, io, dn, dc, go, dn, gc, ro, rn, rc, false, cs, ids, gv, gs, rs⟩) = true -> N' = (n : Int) /\ ∃ gl, RlS w' w.heap.size E cs rs ids gs (.slice a1 l1 c1) (.slice a4 l4 c4) (.slice a2 l2 c2) (.slice a3 l3 c3) gl)) /\ Below w.heap.size w w' := by
 have HU : Hid (∀ W', Below w.heap.size w W' -> ZU W' ⟨(n : Int), co, cn, cc, io, dn, dc, go, dn, gc, ro, rn, rc, false, cs, ids, gv, gs, rs⟩) := fun W' hb => hu.later hb
 have HNC : Hid (∀ W', Below w.heap.size w W' -> _) := fun W' hb => numbers10_any co cn cc cs (n : Int) E hE W' (hu.later hb).c hc64 hcl
 have HNR : Hid (∀ W', Below w.heap.size w W' -> _) := fun W' hb => numbers10_any ro rn rc rs (n : Int) E hE W' (hu.later hb).r hr64 hrl
 have HNG : Hid (∀ k, k < dn -> ∀ W', Below w.heap.size w W' -> _) := fun k hk W' hb => numbers10_any (gv k).1 (gv k).2.1 (gv k).2.2 (gs[k]?.getD []) (n : Int) E hE W' ((hu.later hb).g.each k hk) (fun x hx => hg64 _ (by have := hu.g.length; rw [List.getElem?_eq_getElem (by dsimp only at this; omega)]; exact List.getElem_mem _) x hx) (hll k hk)
 have HW : Hid (wholeB ⟨(n : Int), co, cn, cc, io, dn, dc, go, dn, gc, ro, rn, rc, false, cs, ids, gv, gs, rs⟩ = (numN cs (n : Int) && numN rs (n : Int) && posB rs && colsB ⟨(n : Int), co, cn, cc, io, dn, dc, go, dn, gc, ro, rn, rc, false, cs, ids, gv, gs, rs⟩ (-1) (List.finRange dn))) := by
  unfold Hid wholeB
  dsimp only
  rw [decide_eq_true (p := 1 <= (n : Int)) (by omega), decide_eq_true (p := (n : Int) <= 256) (by omega), decide_eq_true (p := dn = dn) rfl]
  simp only [Bool.true_and, Bool.and_true]
 obtain ⟨okv, hok⟩ : ∃ okv, wholeB ⟨(n : Int), co, cn, cc, io, dn, dc, go, dn, gc, ro, rn, rc, false, cs, ids, gv, gs, rs⟩ = okv := ⟨_, rfl⟩
 rw [hok] at HW ⊢
 obtain ⟨cb, hcb⟩ : ∃ cb, numN cs (n : Int) = cb := ⟨_, rfl⟩
 obtain ⟨rb, hrb⟩ : ∃ rb, numN rs (n : Int) = rb := ⟨_, rfl⟩
 have HNL : Hid ((cb = true -> cs.length = n) /\ (rb = true -> rs.length = n)) := ⟨fun h => by have := (numN_fin (hcb.trans h)).1; omega, fun h => by have := (numN_fin (hrb.trans h)).1; omega⟩
 have HRF : Hid (rb = true -> ∀ x ∈ rs, Fin x) := fun h => (numN_fin (hrb.trans h)).2
 rw [hcb] at HW
 rw [hrb] at HW
 have HCB : Hid _ := hcb
 have HRB : Hid _ := hrb
 have HLI : Hid (ids.length = dn /\ gs.length = dn) := ⟨hu.i.length, hu.g.length⟩
 clear hok hcb hrb hu hc64 hr64 hg64 hcl hrl hll
 have d1 : decide ((n : Int) < 1) = false := decide_eq_false (by omega)
 have d1' : decide (n < 1) = false := decide_eq_false (by omega)
 have d2 : decide (256 < (n : Int)) = false := decide_eq_false (by omega)
 have d2' : decide (256 < n) = false := decide_eq_false (by omega)
 have X0 : Below w.heap.size w (((w.alloc (.cells #[.int .i64 (n : Int), .slice co cn cc, .slice io dn dc, .slice go dn gc, .slice ro rn rc, .bool false] 32)).alloc (.cells #[.int .i64 0, .slice none 0 0, .slice none 0 0, .slice none 0 0, .slice none 0 0] 88)).alloc (.cells #[.int .i64 (n : Int), .slice none 0 0, .slice none 0 0, .slice none 0 0, .slice none 0 0] 88)) := (((Below.refl _ w).alloc (Nat.le_refl _) _).alloc (by simp only [alloc_size]; omega) _).alloc (by simp only [alloc_size]; omega) _
 have Y0 : (((w.alloc (.cells #[.int .i64 (n : Int), .slice co cn cc, .slice io dn dc, .slice go dn gc, .slice ro rn rc, .bool false] 32)).alloc (.cells #[.int .i64 0, .slice none 0 0, .slice none 0 0, .slice none 0 0, .slice none 0 0] 88)).alloc (.cells #[.int .i64 (n : Int), .slice none 0 0, .slice none 0 0, .slice none 0 0, .slice none 0 0] 88)).heap[w.heap.size]? = some (.cells #[.int .i64 (n : Int), .slice co cn cc, .slice io dn dc, .slice go dn gc, .slice ro rn rc, .bool false] 32) := alloc_kept (alloc_kept (heap_alloc_new w _) _) _
 have Y1 : (((w.alloc (.cells #[.int .i64 (n : Int), .slice co cn cc, .slice io dn dc, .slice go dn gc, .slice ro rn rc, .bool false] 32)).alloc (.cells #[.int .i64 0, .slice none 0 0, .slice none 0 0, .slice none 0 0, .slice none 0 0] 88)).alloc (.cells #[.int .i64 (n : Int), .slice none 0 0, .slice none 0 0, .slice none 0 0, .slice none 0 0] 88)).heap[w.heap.size + 1]? = some (.cells #[.int .i64 0, .slice none 0 0, .slice none 0 0, .slice none 0 0, .slice none 0 0] 88) := alloc_kept (heap_at _ _ (w.heap.size + 1) (by simp only [alloc_size])) _
 have Y2 : (((w.alloc (.cells #[.int .i64 (n : Int), .slice co cn cc, .slice io dn dc, .slice go dn gc, .slice ro rn rc, .bool false] 32)).alloc (.cells #[.int .i64 0, .slice none 0 0, .slice none 0 0, .slice none 0 0, .slice none 0 0] 88)).alloc (.cells #[.int .i64 (n : Int), .slice none 0 0, .slice none 0 0, .slice none 0 0, .slice none 0 0] 88)).heap[w.heap.size + 1 + 1]? = some (.cells #[.int .i64 (n : Int), .slice none 0 0, .slice none 0 0, .slice none 0 0, .slice none 0 0] 88) := heap_at _ _ (w.heap.size + 1 + 1) (by simp only [alloc_size])
 go_enter Tryz.func44, Tryz.ntmps44
 go_upto_region 4 with fail
 clear d1 d1' d2 d2'
 obtain ⟨X, hX⟩ : ∃ X, (((w.alloc (.cells #[.int .i64 (n : Int), .slice co cn cc, .slice io dn dc, .slice go dn gc, .slice ro rn rc, .bool false] 32)).alloc (.cells #[.int .i64 0, .slice none 0 0, .slice none 0 0, .slice none 0 0, .slice none 0 0] 88)).alloc (.cells #[.int .i64 (n : Int), .slice none 0 0, .slice none 0 0, .slice none 0 0, .slice none 0 0] 88)) = X := ⟨_, rfl⟩
 rw [hX] at X0 Y0 Y1 Y2 ⊢
 clear hX
 obtain ⟨D, hD⟩ : ∃ D, w.heap.size + 1 + 1 = D := ⟨_, rfl⟩
 rw [hD] at Y2 ⊢
 have hDl : w.heap.size <= D := by omega
 have hDz : w.heap.size ≠ D := by omega
 have hD1 : w.heap.size + 1 ≠ D := by omega
 clear hD
 obtain ⟨z0, z1, z2, z3, z4, z5⟩ := cells6 Y0
 have P0 : Hid ((X.heap[w.heap.size]? = some (.cells #[.int .i64 (n : Int), .slice co cn cc, .slice io dn dc, .slice go dn gc, .slice ro rn rc, .bool false] 32) /\ X.heap[w.heap.size + 1]? = some (.cells #[.int .i64 0, .slice none 0 0, .slice none 0 0, .slice none 0 0, .slice none 0 0] 88) /\ Below w.heap.size w X) /\ X.heap[D]? = some (.cells #[.int .i64 (n : Int), .slice none 0 0, .slice none 0 0, .slice none 0 0, .slice none 0 0] 88)) := ⟨⟨Y0, Y1, X0⟩, Y2⟩
 clear X0 Y0 Y1 Y2
 go_upto_region 6 with (first
  | (go_at_call_of 75 (Value.slice co cn cc); refine Calls.mono (HNC.out _ P0.out.1.2.2) ?_; rintro e w1 ⟨⟨v1, rfl, r1⟩, b1⟩; rw [HCB.out] at r1 ⊢; obtain ⟨y0, y1, y2, y3, y4, y5⟩ := cells6 (kept b1 P0.out.1.1); clear z0 z1 z2 z3 z4 z5)
  | (go_at_call_of 75 (Value.slice ro rn rc); refine Calls.mono (HNR.out _ (to_call P0.out.1.2.2 b1)) ?_; rintro e w2 ⟨⟨v2, rfl, r2⟩, b2⟩; rw [HRB.out] at r2 ⊢; clear y0 y1 y2 y3 y4 y5))
 have b12 := to_call b1 b2
 have P2 : Hid ((w2.heap[w.heap.size]? = some (.cells #[.int .i64 (n : Int), .slice co cn cc, .slice io dn dc, .slice go dn gc, .slice ro rn rc, .bool false] 32) /\ w2.heap[w.heap.size + 1]? = some (.cells #[.int .i64 0, .slice none 0 0, .slice none 0 0, .slice none 0 0, .slice none 0 0] 88) /\ Below w.heap.size w w2) /\ w2.heap[D]? = some (.cells #[.int .i64 (n : Int), .slice none 0 0, .slice none 0 0, .slice none 0 0, .slice none 0 0] 88)) := ⟨⟨kept b12 P0.out.1.1, kept b12 P0.out.1.2.1, to_call P0.out.1.2.2 b12⟩, kept b12 P0.out.2⟩
 have R2 : Hid ((cb = true -> RowN w2 w.heap.size v1 E cs) /\ (rb = true -> RowN w2 w.heap.size v2 E rs)) := ⟨fun h => ((r1 h).mono P0.out.1.2.2.size).later b2, fun h => (r2 h).mono (to_call P0.out.1.2.2 b1).size⟩
 clear P0 r1 r2 b1 b2 b12 HNC HNR HCB HRB
 cases cb
 case false =>
  have HF : Hid (okv = false) := by unfold Hid; rw [HW.out]; rfl
  clear HW R2 HNG HU
  go_wp2_with (first | (refine wpList_store_row (by rfl) 88 _ _ (by rfl) w w.heap.size (w.heap.size + 1) #[.int .i64 0, .slice none 0 0, .slice none 0 0, .slice none 0 0, .slice none 0 0] _ (by rfl) (by rfl) P2.out.1.2.1 P2.out.1.2.2 (Nat.le_succ _) 5 Tryz.infoRl (by rfl) (by rfl) (oneRl _ _ _ _ _ rfl rfl rfl rfl) ?_; intro W9 e9 b9 s9 o9))
  refine bodyPost_ret (res_ctJ _ 2 3 88 (by kernel_rfl) _ _ (w.heap.size + 1) _ _ (by rfl) (by rfl) _ Tryz.underlying88 rfl 5 Tryz.infoRl rfl e9) rfl ?_
  exact ⟨⟨0, none, 0, 0, none, 0, 0, none, 0, 0, none, 0, 0, by rw [HF.out]; rfl, fun h => by rw [HF.out] at h; cases h⟩, b9⟩
 case true =>
 cases rb
 case false =>
  have HF : Hid (okv = false) := by unfold Hid; rw [HW.out]; rfl
  clear HW R2 HNG HU
  go_wp2_with (first | (refine wpList_store_row (by rfl) 88 _ _ (by rfl) w w.heap.size (w.heap.size + 1) #[.int .i64 0, .slice none 0 0, .slice none 0 0, .slice none 0 0, .slice none 0 0] _ (by rfl) (by rfl) P2.out.1.2.1 P2.out.1.2.2 (Nat.le_succ _) 5 Tryz.infoRl (by rfl) (by rfl) (oneRl _ _ _ _ _ rfl rfl rfl rfl) ?_; intro W9 e9 b9 s9 o9))
  refine bodyPost_ret (res_ctJ _ 2 3 88 (by kernel_rfl) _ _ (w.heap.size + 1) _ _ (by rfl) (by rfl) _ Tryz.underlying88 rfl 5 Tryz.infoRl rfl e9) rfl ?_
  exact ⟨⟨0, none, 0, 0, none, 0, 0, none, 0, 0, none, 0, 0, by rw [HF.out]; rfl, fun h => by rw [HF.out] at h; cases h⟩, b9⟩
 case true =>
 have NC := R2.out.1 rfl
 have NR := R2.out.2 rfl
 have ecs := HNL.out.1 rfl
 have ers := HNL.out.2 rfl
 obtain ⟨vca, vcc, hv1⟩ := NC.form
 subst hv1
 obtain ⟨vrb, vrc, hv2, -⟩ := NR.at (k := 0) (by rw [ers]; omega)
 subst hv2
 rw [ecs] at NC
 rw [ers] at NR
 rw [ecs, ers]
 have S2 : Hid _ := And.intro NC NR
 have HLR : Hid (cs.length = n /\ rs.length = n) := ⟨ecs, ers⟩
 clear NC NR R2 ecs ers HNL
 have fC : Cl noU w2 D := rl_cl rfl rfl rfl rfl P2.out.2
 have fR := HRF.out rfl
 go_upto_region 10 with (first
  | (refine wpList_store_at (by rfl) 83 _ _ (by rfl) w w.heap.size D 1 (.slice vca n vcc) _ #[.int .i64 (n : Int), (.slice vca n vcc), .slice none 0 0, .slice none 0 0, .slice none 0 0] 88 (by rfl) (by rfl) P2.out.2 P2.out.1.2.2 hDl 1 Tryz.szNs (by rfl) (Nat.le_of_ble_eq_true rfl) (oneI _ rfl) (by rfl) ?_; intro w3 e3 b3 s3 k3)
  | (refine wpList_store_at (by rfl) 83 _ _ (by rfl) w w.heap.size D 4 (.slice (some ⟨vrb, 0, none⟩) n vrc) _ #[.int .i64 (n : Int), (.slice vca n vcc), .slice none 0 0, .slice none 0 0, (.slice (some ⟨vrb, 0, none⟩) n vrc)] 88 (by rfl) (by rfl) e3 b3 hDl 1 Tryz.szNs (by rfl) (Nat.le_of_ble_eq_true rfl) (oneI _ rfl) (by rfl) ?_; intro w4 e4 b4 s4 k4))
 have kk4 : ∀ k, k ≠ D -> w4.heap[k]? = w2.heap[k]? := fun k hk => (k4 k hk).trans (k3 k hk)
 have P4 : Hid ((w4.heap[w.heap.size]? = some (.cells #[.int .i64 (n : Int), .slice co cn cc, .slice io dn dc, .slice go dn gc, .slice ro rn rc, .bool false] 32) /\ w4.heap[w.heap.size + 1]? = some (.cells #[.int .i64 0, .slice none 0 0, .slice none 0 0, .slice none 0 0, .slice none 0 0] 88) /\ Below w.heap.size w w4) /\ w4.heap[D]? = some (.cells #[.int .i64 (n : Int), (.slice vca n vcc), .slice none 0 0, .slice none 0 0, (.slice (some ⟨vrb, 0, none⟩) n vrc)] 88) /\ RowN w4 w.heap.size (.slice vca n vcc) E cs /\ RowN w4 w.heap.size (.slice (some ⟨vrb, 0, none⟩) n vrc) E rs) := ⟨⟨(kk4 _ hDz).trans P2.out.1.1, (kk4 _ hD1).trans P2.out.1.2.1, b4⟩, e4, S2.out.1.box (by decide) P2.out.2 fC kk4, S2.out.2.box (by decide) P2.out.2 fC kk4⟩
 clear P2 S2 fC kk4 e3 b3 s3 k3 e4 b4 s4 k4
 go_wp2_with fail
 go_loopg [9] n (fun g iv wx => ∃ k : Nat, iv = .int .i64 k /\ k + g = n /\ Hid ((wx.heap[w.heap.size]? = some (.cells #[.int .i64 (n : Int), .slice co cn cc, .slice io dn dc, .slice go dn gc, .slice ro rn rc, .bool false] 32) /\ wx.heap[w.heap.size + 1]? = some (.cells #[.int .i64 0, .slice none 0 0, .slice none 0 0, .slice none 0 0, .slice none 0 0] 88) /\ Below w.heap.size w wx) /\ wx.heap[D]? = some (.cells #[.int .i64 (n : Int), (.slice vca n vcc), .slice none 0 0, .slice none 0 0, (.slice (some ⟨vrb, 0, none⟩) n vrc)] 88) /\ RowN wx w.heap.size (.slice vca n vcc) E cs /\ RowN wx w.heap.size (.slice (some ⟨vrb, 0, none⟩) n vrc) E rs) /\ Hid (posB (rs.drop k) = posB rs))
 case atStart => exact ⟨0, rfl, by omega, P4, rfl⟩
 case round =>
  obtain ⟨k, rfl, hk, HP, HD⟩ := hrel
  clear P4
  obtain ⟨z0, z1, z2, z3, z4, z5⟩ := cells6 HP.out.1.1
  clear z1 z2 z3 z4 z5
  by_cases hlt : k < n
  ·have hd : decide ((k : Int) < (n : Int)) = true := decide_eq_true (by omega)
   obtain ⟨g, rfl⟩ : ∃ g, gk = g + 1 := ⟨gk - 1, by omega⟩
   have HIG : Hid _ := hk
   have hkr : k < rs.length := by rw [HLR.out.2]; exact hlt
   obtain ⟨vb, vcap, hv, nn, no, nl, ncp, ne, c0, c1, c2, hz⟩ := HP.out.2.2.2.at hkr
   rw [HLR.out.2] at hv
   cases hv
   have HS : Hid _ := signF_any _ E _ _ hz
   have HDS : Hid _ := posB_drop rs hkr
   clear hz hk
   obtain ⟨x, hx⟩ : ∃ x, rs[k]?.getD 0 = x := ⟨_, rfl⟩
   rw [hx] at HS HDS
   clear hx
   by_cases hneg : srung x < 0
   ·have HF : Hid (okv = false) := by unfold Hid; rw [HW.out, <- HD.out, HDS.out, decide_eq_false (p := ¬ srung x < 0) (fun h => h hneg)]; rfl
    go_upto_region 14 with (first
     | (go_at_call 74; refine Calls.mono HS.out ?_; rintro e w5 ⟨⟨sg, rfl, s1, s2, s3, -⟩, b5⟩; have ds : decide (sg < 0) = true := decide_eq_true (s3.2 hneg))
     )
    have q5 := to_call HP.out.1.2.2 b5
    have r5 := kept b5 HP.out.1.2.1
    clear HS HDS HD HP HW HNG HU z0 c0 c1 c2
    go_wp2_with (first | (refine wpList_store_row (by rfl) 88 _ _ (by rfl) w w.heap.size (w.heap.size + 1) #[.int .i64 0, .slice none 0 0, .slice none 0 0, .slice none 0 0, .slice none 0 0] _ (by rfl) (by rfl) r5 q5 (Nat.le_succ _) 5 Tryz.infoRl (by rfl) (by rfl) (oneRl _ _ _ _ _ rfl rfl rfl rfl) ?_; intro W9 e9 b9 s9 o9))
    refine bodyPost_ret (res_ctJ _ 2 3 88 (by kernel_rfl) _ _ (w.heap.size + 1) _ _ (by rfl) (by rfl) _ Tryz.underlying88 rfl 5 Tryz.infoRl rfl e9) rfl ?_
    exact ⟨⟨0, none, 0, 0, none, 0, 0, none, 0, 0, none, 0, 0, by rw [HF.out]; rfl, fun h => by rw [HF.out] at h; cases h⟩, b9⟩
   ·go_wp2_with (first
     | (go_at_call 74; refine Calls.mono HS.out ?_; rintro e w5 ⟨⟨sg, rfl, s1, s2, s3, -⟩, b5⟩; have ds : decide (sg < 0) = false := decide_eq_false (fun h => hneg (s3.1 h))))
    have P5 : Hid ((w5.heap[w.heap.size]? = some (.cells #[.int .i64 (n : Int), .slice co cn cc, .slice io dn dc, .slice go dn gc, .slice ro rn rc, .bool false] 32) /\ w5.heap[w.heap.size + 1]? = some (.cells #[.int .i64 0, .slice none 0 0, .slice none 0 0, .slice none 0 0, .slice none 0 0] 88) /\ Below w.heap.size w w5) /\ w5.heap[D]? = some (.cells #[.int .i64 (n : Int), (.slice vca n vcc), .slice none 0 0, .slice none 0 0, (.slice (some ⟨vrb, 0, none⟩) n vrc)] 88) /\ RowN w5 w.heap.size (.slice vca n vcc) E cs /\ RowN w5 w.heap.size (.slice (some ⟨vrb, 0, none⟩) n vrc) E rs) := ⟨⟨kept b5 HP.out.1.1, kept b5 HP.out.1.2.1, to_call HP.out.1.2.2 b5⟩, kept b5 HP.out.2.1, HP.out.2.2.1.later b5, HP.out.2.2.2.later b5⟩
    have HD5 : Hid (posB (rs.drop (k + 1)) = posB rs) := by unfold Hid; rw [<- HD.out, HDS.out, decide_eq_true hneg, Bool.true_and]
    clear HS HDS HD HP z0 c0 c1 c2 b5 s1 s2 s3 ds
    go_roundg g
    case measure => omega
    case rel => exact ⟨k + 1, by go_num, by have := HIG.out; omega, P5, HD5⟩
  ·have hd : decide ((k : Int) < (n : Int)) = false := decide_eq_false (by omega)
   have HPR : Hid (posB rs = true) := by unfold Hid; rw [<- HD.out, List.drop_eq_nil_of_le (by rw [HLR.out.2]; omega)]; rfl
   have HW2 : Hid (okv = colsB ⟨(n : Int), co, cn, cc, io, dn, dc, go, dn, gc, ro, rn, rc, false, cs, ids, gv, gs, rs⟩ (-1) (List.finRange dn)) := by unfold Hid; rw [HW.out, HPR.out]; rfl
   clear HW HPR HD hd
   go_wp2_with fail
   clear z0
   go_loopg [10] dn (fun g iv wx => (∃ (k : Nat) (vi vg : Value) (gl : List Value), iv = .int .i64 k /\ k + g = dn /\ Hid ((wx.heap[w.heap.size]? = some (.cells #[.int .i64 (n : Int), .slice co cn cc, .slice io dn dc, .slice go dn gc, .slice ro rn rc, .bool false] 32) /\ wx.heap[w.heap.size + 1]? = some (.cells #[.int .i64 0, .slice none 0 0, .slice none 0 0, .slice none 0 0, .slice none 0 0] 88) /\ Below w.heap.size w wx) /\ wx.heap[D]? = some (.cells #[.int .i64 (n : Int), (.slice vca n vcc), vi, vg, (.slice (some ⟨vrb, 0, none⟩) n vrc)] 88) /\ RlS wx w.heap.size E cs rs (ids.take k) (gs.take k) (.slice vca n vcc) (.slice (some ⟨vrb, 0, none⟩) n vrc) vi vg gl) /\ Hid (colsB ⟨(n : Int), co, cn, cc, io, dn, dc, go, dn, gc, ro, rn, rc, false, cs, ids, gv, gs, rs⟩ (-1) (uptoZ ⟨(n : Int), co, cn, cc, io, dn, dc, go, dn, gc, ro, rn, rc, false, cs, ids, gv, gs, rs⟩ k) = true)))
   case atStart =>
    exact ⟨0, .slice none 0 0, .slice none 0 0, [], rfl, by omega, ⟨HP.out.1, HP.out.2.1, ⟨HP.out.2.2.1, HP.out.2.2.2, World.ownsRow_nil _ _ _ _, fun g hg => (by cases hg), World.ownsRow_nil _ _ _ _, fun g hg => (by cases hg), rfl, fun j u hj => (by simp at hj)⟩⟩, rfl⟩
   case round =>
    clear HP hlt hk
    obtain ⟨k, vi, vg, gl, rfl, hk, HP, HC⟩ := hrel
    obtain ⟨z0, z1, z2, z3, z4, z5⟩ := cells6 HP.out.1.1
    clear z1 z4 z5
    by_cases hlt : k < dn
    ·have hd : decide ((k : Int) < (dn : Int)) = true := decide_eq_true (by omega)
     obtain ⟨g, rfl⟩ : ∃ g, gk = g + 1 := ⟨gk - 1, by omega⟩
     have HIG : Hid _ := hk
     clear hk
     obtain ⟨ib, ioff, rfl⟩ : ∃ ib ioff, io = some ⟨ib, ioff, none⟩ := by
      rcases (HU.out wr HP.out.1.2.2).i.cells with h0 | ⟨b, off, e, _⟩
      ·exact absurd h0 (by dsimp only; omega)
      ·exact ⟨b, off, e⟩
     obtain ⟨gb, goff, rfl⟩ : ∃ gb goff, go = some ⟨gb, goff, none⟩ := by
      rcases (HU.out wr HP.out.1.2.2).g.cells with h0 | ⟨b, off, e, _⟩
      ·exact absurd h0 (by dsimp only; omega)
      ·exact ⟨b, off, e⟩
     have HIC : Hid (∀ W', Below w.heap.size w W' -> ∀ j, j < dn -> W'.cell? ⟨ib, ioff + j, none⟩ = some (.int .i64 (ids[j]?.getD 0))) := fun W' hb j hj => by
      rcases (HU.out W' hb).i.cells with h0 | ⟨b, off, e, hc⟩
      ·exact absurd h0 (by dsimp only; omega)
      ·cases e
       exact hc j hj
     obtain ⟨id, hid⟩ : ∃ id, ids[k]?.getD 0 = id := ⟨_, rfl⟩
     have HID : Hid _ := hid
     have HIK : Hid (∀ W', Below w.heap.size w W' -> W'.cell? ⟨ib, ioff + k, none⟩ = some (.int .i64 id)) := fun W' hb => by rw [<- hid]; exact HIC.out W' hb k hlt
     have ci := HIK.out wr HP.out.1.2.2
     obtain ⟨la, hla⟩ : ∃ la, lastZ ⟨(n : Int), co, cn, cc, some ⟨ib, ioff, none⟩, dn, dc, some ⟨gb, goff, none⟩, dn, gc, ro, rn, rc, false, cs, ids, gv, gs, rs⟩ (-1) (uptoZ ⟨(n : Int), co, cn, cc, some ⟨ib, ioff, none⟩, dn, dc, some ⟨gb, goff, none⟩, dn, gc, ro, rn, rc, false, cs, ids, gv, gs, rs⟩ k) = la := ⟨_, rfl⟩
     have hl1 := lastZ_ge ⟨(n : Int), co, cn, cc, some ⟨ib, ioff, none⟩, dn, dc, some ⟨gb, goff, none⟩, dn, gc, ro, rn, rc, false, cs, ids, gv, gs, rs⟩ k (by dsimp only; omega) HC.out
     have hl2 := lastZ_at ⟨(n : Int), co, cn, cc, some ⟨ib, ioff, none⟩, dn, dc, some ⟨gb, goff, none⟩, dn, gc, ro, rn, rc, false, cs, ids, gv, gs, rs⟩ k (by dsimp only; omega)
     rw [hla] at hl1 hl2
     dsimp only at hl2
     have HCS : Hid (colsB ⟨(n : Int), co, cn, cc, some ⟨ib, ioff, none⟩, dn, dc, some ⟨gb, goff, none⟩, dn, gc, ro, rn, rc, false, cs, ids, gv, gs, rs⟩ (-1) (uptoZ ⟨(n : Int), co, cn, cc, some ⟨ib, ioff, none⟩, dn, dc, some ⟨gb, goff, none⟩, dn, gc, ro, rn, rc, false, cs, ids, gv, gs, rs⟩ (k + 1)) = (decide (la < id) && decide (id <= 1073741824) && numN (gs[k]?.getD []) (n : Int))) := by
      unfold Hid
      rw [uptoZ_succ _ k hlt, colsB_snoc, HC.out, hla]
      show (true && colOk _ _ _) = _
      unfold colOk idZ
      dsimp only
      rw [hid, Bool.true_and]
     have HNF : Hid (colsB ⟨(n : Int), co, cn, cc, some ⟨ib, ioff, none⟩, dn, dc, some ⟨gb, goff, none⟩, dn, gc, ro, rn, rc, false, cs, ids, gv, gs, rs⟩ (-1) (uptoZ ⟨(n : Int), co, cn, cc, some ⟨ib, ioff, none⟩, dn, dc, some ⟨gb, goff, none⟩, dn, gc, ro, rn, rc, false, cs, ids, gv, gs, rs⟩ (k + 1)) = false -> okv = false) := fun h => by
      rw [HW2.out]
      have e : List.finRange dn = uptoZ ⟨(n : Int), co, cn, cc, some ⟨ib, ioff, none⟩, dn, dc, some ⟨gb, goff, none⟩, dn, gc, ro, rn, rc, false, cs, ids, gv, gs, rs⟩ (k + 1) ++ (List.finRange dn).drop (k + 1) := (List.take_append_drop _ _).symm
      rw [e]
      exact colsB_append _ _ _ _ h
     clear hla hid
     go_upto_region 18 with fail
     go_cut [116] from 78 to 147 (fun c wx => c = .bool (!(decide (la < id) && decide (id <= 1073741824))) /\ Hid (wx.heap = wr.heap /\ Below w.heap.size w wx))
     case first =>
      have hB : Below w.heap.size w wr := HP.out.1.2.2
      by_cases h1 : id < 0
      ·have e1 : decide (id < 0) = true := decide_eq_true h1
       go_quiet (fail)
       go_wp2_with fail
       go_meet
       exact ⟨by rw [decide_eq_false (p := la < id) (by omega)]; rfl, rfl, below_drewN hB _⟩
      have e1 : decide (id < 0) = false := decide_eq_false h1
      by_cases h2 : 1073741824 < id
      ·have e2 : decide (1073741824 < id) = true := decide_eq_true h2
       go_quiet (fail)
       go_wp2_with fail
       go_meet
       exact ⟨by rw [decide_eq_false (p := id <= 1073741824) (by omega), Bool.and_false]; rfl, rfl, below_drewN hB _⟩
      have e2 : decide (1073741824 < id) = false := decide_eq_false h2
      by_cases h3 : k = 0
      ·have hla := hl2.1 h3
       have e3 : decide ((0 : Int) < (k : Int)) = false := decide_eq_false (by omega)
       have e3' : decide (0 < k) = false := decide_eq_false (by omega)
       have hk0 : Hid (k = 0) := h3
       have hla' : Hid _ := hla
       clear h3 hla hl2 hl1
       go_quiet (fail)
       go_wp2_with fail
       go_meet
       exact ⟨by rw [decide_eq_true (p := la < id) (by have := hla'.out; omega), decide_eq_true (p := id <= 1073741824) (by omega)]; rfl, rfl, below_drewN hB _⟩
      have e3 : decide ((0 : Int) < (k : Int)) = true := decide_eq_true (by omega)
      have e3' : decide (0 < k) = true := decide_eq_true (by omega)
      have hla := hl2.2 (by omega)
      have cp := HIC.out wr hB (k - 1) (by omega)
      rw [<- hla] at cp
      obtain ⟨j, rfl⟩ : ∃ j, k = j + 1 := ⟨k - 1, by omega⟩
      have ej : ((j + 1 : Nat) : Int) - 1 = (j : Int) := by omega
      have hjl : j < dn := by omega
      rw [show j + 1 - 1 = j from rfl] at cp
      clear hla hl2
      by_cases h4 : id <= la
      ·have e4 : decide (id <= la) = true := decide_eq_true h4
       go_quiet (fail)
       go_wp2_with fail
       go_meet
       exact ⟨by rw [decide_eq_false (p := la < id) (by omega)]; rfl, rfl, below_drewN hB _⟩
      ·have e4 : decide (id <= la) = false := decide_eq_false h4
       go_quiet (fail)
       go_wp2_with fail
       go_meet
       exact ⟨by rw [decide_eq_true (p := la < id) (by omega), decide_eq_true (p := id <= 1073741824) (by omega)]; rfl, rfl, below_drewN hB _⟩
     case rest =>
      obtain ⟨rfl, HWC⟩ := hcut
      have Bw : Below wr.heap.size wr wc := ⟨HWC.out.2.os.trans HP.out.1.2.2.os.symm, HWC.out.2.tape.trans HP.out.1.2.2.tape.symm, HWC.out.2.output.trans HP.out.1.2.2.output.symm, by rw [HWC.out.1]; exact Nat.le_refl _, fun k _ => by rw [HWC.out.1]⟩
      have PW : Hid ((wc.heap[w.heap.size]? = some (.cells #[.int .i64 (n : Int), .slice co cn cc, .slice (some ⟨ib, ioff, none⟩) dn dc, .slice (some ⟨gb, goff, none⟩) dn gc, .slice ro rn rc, .bool false] 32) /\ wc.heap[w.heap.size + 1]? = some (.cells #[.int .i64 0, .slice none 0 0, .slice none 0 0, .slice none 0 0, .slice none 0 0] 88) /\ Below w.heap.size w wc) /\ wc.heap[D]? = some (.cells #[.int .i64 (n : Int), (.slice vca n vcc), vi, vg, (.slice (some ⟨vrb, 0, none⟩) n vrc)] 88) /\ RlS wc w.heap.size E cs rs (ids.take k) (gs.take k) (.slice vca n vcc) (.slice (some ⟨vrb, 0, none⟩) n vrc) vi vg gl) := ⟨⟨kept Bw HP.out.1.1, kept Bw HP.out.1.2.1, HWC.out.2⟩, kept Bw HP.out.2.1, HP.out.2.2.later Bw⟩
      clear Bw HWC HP z0 z2 z3 ci hl1 hl2 HC
      by_cases hok : la < id /\ id <= 1073741824
      case neg =>
       have hfb : (!(decide (la < id) && decide (id <= 1073741824))) = true := by rw [dec2_false hok]; rfl
       have HF : Hid (okv = false) := HNF.out (by rw [HCS.out, dec2_false hok, Bool.false_and])
       rw [hfb]
       clear hok HNF HCS HW2 HNG HU HIC HIK
       go_wp2_with (first | (refine wpList_store_row (by rfl) 88 _ _ (by rfl) w w.heap.size (w.heap.size + 1) #[.int .i64 0, .slice none 0 0, .slice none 0 0, .slice none 0 0, .slice none 0 0] _ (by rfl) (by rfl) PW.out.1.2.1 PW.out.1.2.2 (Nat.le_succ _) 5 Tryz.infoRl (by rfl) (by rfl) (oneRl _ _ _ _ _ rfl rfl rfl rfl) ?_; intro W9 e9 b9 s9 o9))
       refine bodyPost_ret (res_ctJ _ 2 3 88 (by kernel_rfl) _ _ (w.heap.size + 1) _ _ (by rfl) (by rfl) _ Tryz.underlying88 rfl 5 Tryz.infoRl rfl e9) rfl ?_
       exact ⟨⟨0, none, 0, 0, none, 0, 0, none, 0, 0, none, 0, 0, by rw [HF.out]; rfl, fun h => by rw [HF.out] at h; cases h⟩, b9⟩
      case pos =>
      have hfb : (!(decide (la < id) && decide (id <= 1073741824))) = false := by rw [decide_eq_true hok.1, decide_eq_true hok.2]; rfl
      rw [hfb]
      obtain ⟨nb, hnb⟩ : ∃ nb, numN (gs[k]?.getD []) (n : Int) = nb := ⟨_, rfl⟩
      have HCS2 : Hid (colsB ⟨(n : Int), co, cn, cc, some ⟨ib, ioff, none⟩, dn, dc, some ⟨gb, goff, none⟩, dn, gc, ro, rn, rc, false, cs, ids, gv, gs, rs⟩ (-1) (uptoZ ⟨(n : Int), co, cn, cc, some ⟨ib, ioff, none⟩, dn, dc, some ⟨gb, goff, none⟩, dn, gc, ro, rn, rc, false, cs, ids, gv, gs, rs⟩ (k + 1)) = nb) := by unfold Hid; rw [HCS.out, decide_eq_true hok.1, decide_eq_true hok.2, hnb]; simp
      clear HCS hok hfb
      go_upto_region 20 with fail
      have hS20 : wc.drew.heap[w.heap.size]? = some (.cells #[.int .i64 (n : Int), .slice co cn cc, .slice (some ⟨ib, ioff, none⟩) dn dc, .slice (some ⟨gb, goff, none⟩) dn gc, .slice ro rn rc, .bool false] 32) /\ wc.drew.cell? ⟨gb, goff + k, none⟩ = some (.slice (gv k).1 (gv k).2.1 (gv k).2.2) := ⟨PW.out.1.1, rdGu_at (HU.out _ PW.out.1.2.2.drew).g hlt⟩
      have q20 : Below w.heap.size w wc.drew := PW.out.1.2.2.drew
      refine wp_region_noPanic ?_
      refine wp_region_held_drew (S := (fun V => V.heap[w.heap.size]? = some (.cells #[.int .i64 (n : Int), .slice co cn cc, .slice (some ⟨ib, ioff, none⟩) dn dc, .slice (some ⟨gb, goff, none⟩) dn gc, .slice ro rn rc, .bool false] 32) /\ V.cell? ⟨gb, goff + k, none⟩ = some (.slice (gv k).1 (gv k).2.1 (gv k).2.2))) (by kernel_rfl) hS20 (fun _ => ?_)
      refine tzI 119 0 ?_ ?_ hS20 ?_
      rotate_left
      ·intro w' hSw; obtain ⟨y0, y1, y2, y3, y4, y5⟩ := cells6 hSw.1; have y6 := hSw.2; go_simp; try with_reducible rfl
      try simp only [pA,pE,pB,pC,pD]
      refine tzI 120 1 ?_ ?_ hS20 ?_
      rotate_left
      ·intro w' hSw; obtain ⟨y0, y1, y2, y3, y4, y5⟩ := cells6 hSw.1; have y6 := hSw.2; go_simp; try with_reducible rfl
      try simp only [pA,pE,pB,pC,pD]
      refine tzI 121 2 ?_ ?_ hS20 ?_
      rotate_left
      ·intro w' hSw; obtain ⟨y0, y1, y2, y3, y4, y5⟩ := cells6 hSw.1; have y6 := hSw.2; go_simp; try with_reducible rfl
      try simp only [pA,pE,pB,pC,pD]
      refine tzI 122 3 ?_ ?_ hS20 ?_
      rotate_left
      ·intro w' hSw; obtain ⟨y0, y1, y2, y3, y4, y5⟩ := cells6 hSw.1; have y6 := hSw.2; go_simp; try with_reducible rfl
      try simp only [pA,pE,pB,pC,pD]
      refine tzI 123 4 ?_ ?_ hS20 ?_
      rotate_left
      ·intro w' hSw; obtain ⟨y0, y1, y2, y3, y4, y5⟩ := cells6 hSw.1; have y6 := hSw.2; go_simp; try with_reducible rfl
      try simp only [pA,pE,pB,pC,pD]
      refine tzI 124 5 ?_ ?_ hS20 ?_
      rotate_left
      ·intro w' hSw; obtain ⟨y0, y1, y2, y3, y4, y5⟩ := cells6 hSw.1; have y6 := hSw.2; go_simp; try with_reducible rfl
      try simp only [pA,pE,pB,pC,pD]
      refine tzI 125 6 ?_ ?_ hS20 ?_
      rotate_left
      ·intro w' hSw; obtain ⟨y0, y1, y2, y3, y4, y5⟩ := cells6 hSw.1; have y6 := hSw.2; go_simp; try with_reducible rfl
      try simp only [pA,pE,pB,pC,pD]
      refine rzH [7] ?_
      refine consH _ rfl (hzC 126 (Calls.mono (HNG.out k hlt _ q20) ?_)) AllReadyH.nil
      rintro e w6 ⟨⟨v6, rfl, r6⟩, b6⟩
      rw [hnb] at r6 ⊢
      have hS6 := And.intro (kept b6 hS20.1) ((b6.cell (World.block_lt_of_cell? _ _ hS20.2)).trans hS20.2)
      refine ⟨_, rfl, hS6, ?_⟩
      try simp only [pA,pE,pB,pC,pD]
      refine tzI 118 8 ?_ ?_ hS6 ?_
      rotate_left
      ·intro w' hSw; go_simp; try with_reducible rfl
      try simp only [pA,pE,pB,pC,pD]
      refine tzI 127 9 ?_ ?_ hS6 ?_
      rotate_left
      ·intro w' hSw; go_simp; try with_reducible rfl
      try simp only [pA,pE,pB,pC,pD]
      refine tzI 128 10 ?_ ?_ hS6 ?_
      rotate_left
      ·intro w' hSw; go_simp; try with_reducible rfl
      try simp only [pA,pE,pB,pC,pD]
      refine tzI 11 11 ?_ ?_ hS6 ?_
      rotate_left
      ·intro w' hSw; go_simp; try with_reducible rfl
      try simp only [pA,pE,pB,pC,pD]
      refine tzI 12 12 ?_ ?_ hS6 ?_
      rotate_left
      ·intro w' hSw; go_simp; try with_reducible rfl
      try simp only [pA,pE,pB,pC,pD]
      refine wpAnyH_done (by kernel_rfl) ?_ _
      refine NoPanic.normal ?_
      try simp only [pA,pE,pB,pC,pD]
      have B6 : Below wc.heap.size wc w6 := (fun (h : Below wc.drew.heap.size wc.drew w6) => ⟨h.os, h.tape, h.output, h.size, h.block⟩) b6
      have P6 : Hid ((w6.heap[w.heap.size]? = some (.cells #[.int .i64 (n : Int), .slice co cn cc, .slice (some ⟨ib, ioff, none⟩) dn dc, .slice (some ⟨gb, goff, none⟩) dn gc, .slice ro rn rc, .bool false] 32) /\ w6.heap[w.heap.size + 1]? = some (.cells #[.int .i64 0, .slice none 0 0, .slice none 0 0, .slice none 0 0, .slice none 0 0] 88) /\ Below w.heap.size w w6) /\ w6.heap[D]? = some (.cells #[.int .i64 (n : Int), (.slice vca n vcc), vi, vg, (.slice (some ⟨vrb, 0, none⟩) n vrc)] 88) /\ RlS w6 w.heap.size E cs rs (ids.take k) (gs.take k) (.slice vca n vcc) (.slice (some ⟨vrb, 0, none⟩) n vrc) vi vg gl) := ⟨⟨kept B6 PW.out.1.1, kept B6 PW.out.1.2.1, to_call PW.out.1.2.2 B6⟩, kept B6 PW.out.2.1, PW.out.2.2.later B6⟩
      have R6 : Hid (nb = true -> RowN w6 w.heap.size v6 E (gs[k]?.getD [])) := fun h => (r6 h).mono q20.size
      clear hS20 hS6 r6 b6 B6 PW q20
      cases nb
      case false =>
       have HF : Hid (okv = false) := HNF.out HCS2.out
       clear HNF HCS2 HW2 HNG HU HIC HIK R6
       go_wp2_with (first | (refine wpList_store_row (by rfl) 88 _ _ (by rfl) w w.heap.size (w.heap.size + 1) #[.int .i64 0, .slice none 0 0, .slice none 0 0, .slice none 0 0, .slice none 0 0] _ (by rfl) (by rfl) P6.out.1.2.1 P6.out.1.2.2 (Nat.le_succ _) 5 Tryz.infoRl (by rfl) (by rfl) (oneRl _ _ _ _ _ rfl rfl rfl rfl) ?_; intro W9 e9 b9 s9 o9))
       refine bodyPost_ret (res_ctJ _ 2 3 88 (by kernel_rfl) _ _ (w.heap.size + 1) _ _ (by rfl) (by rfl) _ Tryz.underlying88 rfl 5 Tryz.infoRl rfl e9) rfl ?_
       exact ⟨⟨0, none, 0, 0, none, 0, 0, none, 0, 0, none, 0, 0, by rw [HF.out]; rfl, fun h => by rw [HF.out] at h; cases h⟩, b9⟩
      case true =>
      have N6 := R6.out rfl
      obtain ⟨a6, c6, hv6⟩ := N6.form
      subst hv6
      go_upto_region 23 with fail
      have hkt : (ids.take k).length = k := by rw [List.length_take, HLI.out.1]; omega
      have hkg : gl.length = k := by have := P6.out.2.2.len; rw [List.length_take, HLI.out.2] at this; omega
      have HLK : Hid ((ids.take k).length + 1 <= 4000000) := by unfold Hid; omega
      have hS23 : w6.drew.heap[D]? = some (.cells #[.int .i64 (n : Int), (.slice vca n vcc), vi, vg, (.slice (some ⟨vrb, 0, none⟩) n vrc)] 88) /\ w6.drew.heap[w.heap.size]? = some (.cells #[.int .i64 (n : Int), .slice co cn cc, .slice (some ⟨ib, ioff, none⟩) dn dc, .slice (some ⟨gb, goff, none⟩) dn gc, .slice ro rn rc, .bool false] 32) /\ w6.drew.cell? ⟨ib, ioff + k, none⟩ = some (.int .i64 id) := ⟨P6.out.2.1, P6.out.1.1, HIK.out _ P6.out.1.2.2.drew⟩
      have L23 := P6.out.2.2.later (w' := w6.drew) (Below.refl _ _).drew
      have N23 := N6.later (w' := w6.drew) (Below.refl _ _).drew
      have q23 : Below w.heap.size w w6.drew := P6.out.1.2.2.drew
      have p23 : w6.drew.heap[w.heap.size + 1]? = some (.cells #[.int .i64 0, .slice none 0 0, .slice none 0 0, .slice none 0 0, .slice none 0 0] 88) := P6.out.1.2.1
      refine wp_region_noPanic ?_
      refine wp_region_P (fun V => V.heap[D]? = some (.cells #[.int .i64 (n : Int), (.slice vca n vcc), vi, vg, (.slice (some ⟨vrb, 0, none⟩) n vrc)] 88) /\ V.heap[w.heap.size]? = some (.cells #[.int .i64 (n : Int), .slice co cn cc, .slice (some ⟨ib, ioff, none⟩) dn dc, .slice (some ⟨gb, goff, none⟩) dn gc, .slice ro rn rc, .bool false] 32) /\ V.cell? ⟨ib, ioff + k, none⟩ = some (.int .i64 id)) 10 (by kernel_rfl) ?_
      refine tzQ 132 0 ?_ ?_ (fun _ => hS23) ?_
      rotate_left
      ·intro w' hSw; go_simp; try with_reducible rfl
      try simp only [pA,pE,pB,pC,pD]
      refine tzP 133 1 ?_ (Or.inl ⟨by kernel_rfl, ?_⟩) hS23 ?_
      rotate_left
      ·intro w' hSw; obtain ⟨x0, x1, x2, x3, x4⟩ := cells5 hSw.1; obtain ⟨y0, y1, y2, y3, y4, y5⟩ := cells6 hSw.2.1; have y6 := hSw.2.2; go_simp; try with_reducible rfl
      try simp only [pA,pE,pB,pC,pD]
      refine tzQ 134 2 ?_ ?_ (fun _ => hS23) ?_
      rotate_left
      ·intro w' hSw; go_simp; try with_reducible rfl
      try simp only [pA,pE,pB,pC,pD]
      refine tzP 135 3 ?_ (Or.inl ⟨by kernel_rfl, ?_⟩) hS23 ?_
      rotate_left
      ·intro w' hSw; obtain ⟨x0, x1, x2, x3, x4⟩ := cells5 hSw.1; obtain ⟨y0, y1, y2, y3, y4, y5⟩ := cells6 hSw.2.1; have y6 := hSw.2.2; go_simp; try with_reducible rfl
      try simp only [pA,pE,pB,pC,pD]
      refine tzQ 136 4 ?_ ?_ (fun _ => hS23) ?_
      rotate_left
      ·intro w' hSw; go_simp; try with_reducible rfl
      try simp only [pA,pE,pB,pC,pD]
      refine tzQ 137 5 ?_ ?_ (fun _ => hS23) ?_
      rotate_left
      ·intro w' hSw; go_simp; try with_reducible rfl
      try simp only [pA,pE,pB,pC,pD]
      refine tzP 138 6 ?_ (Or.inl ⟨by kernel_rfl, ?_⟩) hS23 ?_
      rotate_left
      ·intro w' hSw; obtain ⟨x0, x1, x2, x3, x4⟩ := cells5 hSw.1; obtain ⟨y0, y1, y2, y3, y4, y5⟩ := cells6 hSw.2.1; have y6 := hSw.2.2; go_simp; try with_reducible rfl
      try simp only [pA,pE,pB,pC,pD]
      refine rzP [7] ?_
      refine consP _ rfl (hopBJ 139 (.int .i64 id) 3 rfl rfl rfl (by kernel_rfl) fun I V2 hI c2 => ?_) AllReadyP.nil
      have hS2 := And.intro (kept c2 hS23.1) (And.intro (kept c2 hS23.2.1) ((c2.cell (World.block_lt_of_cell? _ _ hS23.2.2)).trans hS23.2.2))
      have L2 := L23.later c2
      have N2 := N23.later c2
      have q2 := q23.trans (c2.mono q23.size)
      have p2 := kept c2 p23
      refine ⟨hS2, ?_⟩
      try simp only [pA,pE,pB,pC,pD]
      refine rzP [8] ?_
      refine consP _ rfl (hopL rfl (append_clJ noU Tryz.underlying23 Tryz.infoIJ rfl (by decide) (by decide) (by intro v hv; have hv' : v ∈ (#[.int .i64 0] : Array Value) := hv; simp only [List.mem_toArray, List.mem_cons, List.not_mem_nil, or_false] at hv'; subst hv'; rfl) V2 (by rfl) _ _ (by rfl) w.heap.size vi _ _ (by kernel_rfl) L2.i L2.icl ⟨I, 0, none⟩ 1 1 [.int .i64 id] (by kernel_rfl) (by decide) rfl (news_oneJ hI) (oneI _ rfl) (by intro u hu; simp only [List.mem_cons, List.not_mem_nil, or_false] at hu; subst hu; rfl) HLK.out q2.size fun v7 w7 o7 g7 cl7 => ?_)) AllReadyP.nil
      change QK _ _ Exit.normal (Act.put _ (some 140) v7) w7
      have s7D := (grw_types L2.i g7 D _ _ (by decide) hS2.1).trans hS2.1
      have s7Z := (grw_types L2.i g7 _ _ _ (by decide) hS2.2.1).trans hS2.2.1
      have s7R := (grw_types L2.i g7 _ _ _ (by decide) p2).trans p2
      have q7 := q2.trans (g7.below (fun k hk => (World.ownsRow.lt L2.i k hk).1) q2.size)
      have L7 : RlS w7 w.heap.size E cs rs (ids.take k ++ [id]) (gs.take k) (.slice vca n vcc) (.slice (some ⟨vrb, 0, none⟩) n vrc) v7 vg gl := L2.pushI g7 (by simpa using o7) cl7
      have N7 := N2.grw (by decide) L2.i g7 L2.icl
      have s7I := HIK.out w7 q7
      refine (And.intro (And.intro s7D (And.intro s7Z s7I)) ?_ : _ /\ _)
      try simp only [pA,pE,pB,pC,pD]
      clear g7
      refine tzQ 141 9 ?_ ?_ (fun _ => And.intro s7D (And.intro s7Z s7I)) ?_
      rotate_left
      ·intro w' hSw; go_simp; try with_reducible rfl
      try simp only [pA,pE,pB,pC,pD]
      refine rzP [10] ?_
      refine consPs _ rfl (by kernel_rfl) (hopL rfl (wpList_store_at (by rfl) 23 _ _ (by rfl) w w.heap.size D 2 v7 _ #[.int .i64 (n : Int), (.slice vca n vcc), v7, vg, (.slice (some ⟨vrb, 0, none⟩) n vrc)] 88 (by kernel_rfl) (by kernel_rfl) s7D q7 hDl 1 Tryz.szIs (by rw [(own_valJ L7.i).2]; rfl) (Nat.le_of_ble_eq_true rfl) (by intro u hu; rw [(own_valJ L7.i).2] at hu; simp only [List.mem_cons, List.not_mem_nil, or_false] at hu; subst hu; exact (own_valJ L7.i).1) (by rw [(own_valJ L7.i).2]; rfl) fun w8 e8 b8 s8 k8 => ?_)) AllReadyP.nil
      refine (And.intro trivial ?_ : _ /\ _)
      try simp only [pA,pE,pB,pC,pD]
      refine wpAnyP_done (by kernel_rfl) ?_ _
      refine NoPanic.normal ?_
      try simp only [pA,pE,pB,pC,pD]
      have c7 : Cl noU w7 D := rl_cl rfl (own_noU L2.i) (own_noU L2.g) rfl s7D
      have L8 := L7.box (w' := w8) (by decide) (by decide) (by decide) s7D c7 k8
      have N8 := N7.box (by decide) s7D c7 k8
      have P8 : Hid _ := And.intro e8 (And.intro L8 (And.intro N8 (And.intro b8 (And.intro ((k8 _ hDz).trans s7Z) ((k8 _ hD1).trans s7R)))))
      clear e8 L8 N8 b8 k8 s8 c7 s7D s7Z s7R s7I L7 N7 q7 o7 cl7 hI c2 hS2 L2 N2 q2 p2 hS23 L23 N23 q23 p23
      clear P6 R6 N6
      have hsz8 := P8.out.2.2.2.1.size
      obtain ⟨x0, x1, x2, x3, x4⟩ := cells5 P8.out.1
      have HCG : Hid (∀ g, vg.ownBlock = some g -> Cl noU (w8.alloc (.cells #[(.slice a6 (gs[k]?.getD []).length c6)] 83)) g) := fun g hg => (P8.out.2.1.gcl g hg).later ((Below.refl _ w8).alloc (Nat.le_refl _) _)
      go_wp2_with (first
       | (at_builtin; refine append_clJ noU Tryz.underlying86 Tryz.infoNsJ rfl (by decide) (by decide) (by intro v hv; have hv' : v ∈ (#[.slice none 0 0] : Array Value) := hv; simp only [List.mem_toArray, List.mem_cons, List.not_mem_nil, or_false] at hv'; subst hv'; rfl) _ (by rfl) _ _ (by rfl) w.heap.size vg _ _ (by rfl) (World.ownsRow.alloc P8.out.2.1.g _) HCG.out ⟨w8.heap.size, 0, none⟩ 1 1 [(.slice a6 (gs[k]?.getD []).length c6)] (by rfl) (by decide) rfl (news_oneJ (heap_alloc_new w8 _)) (oneI _ rfl) (by intro u hu; simp only [List.mem_cons, List.not_mem_nil, or_false] at hu; subst hu; rfl) (by omega) (by simp only [alloc_size]; omega) ?_; intro v9 w9 o9 g9 cl9; have s9D := (grw_types (World.ownsRow.alloc P8.out.2.1.g _) g9 D _ _ (by decide) (alloc_kept P8.out.1 _)).trans (alloc_kept P8.out.1 _); have q9 := (P8.out.2.2.2.1.alloc hsz8 _).trans (g9.below (fun k hk => (World.ownsRow.lt P8.out.2.1.g k hk).1) (by simp only [alloc_size]; omega)))
       | (refine wpList_store_at (by rfl) 86 _ _ (by rfl) w w.heap.size D 3 v9 _ #[.int .i64 (n : Int), (.slice vca n vcc), v7, v9, (.slice (some ⟨vrb, 0, none⟩) n vrc)] 88 (by rfl) (by rfl) s9D q9 hDl 1 Tryz.szNss (by rw [(own_valJ o9).2]; rfl) (Nat.le_of_ble_eq_true rfl) (by intro u hu; rw [(own_valJ o9).2] at hu; simp only [List.mem_cons, List.not_mem_nil, or_false] at hu; subst hu; exact (own_valJ o9).1) (by rw [(own_valJ o9).2]; rfl) ?_; intro wa ea ba sa ka))
      have A8 : Below w8.heap.size w8 (w8.alloc (.cells #[(.slice a6 (gs[k]?.getD []).length c6)] 83)) := (Below.refl _ w8).alloc (Nat.le_refl _) _
      have L9 := (P8.out.2.1.later A8).pushG g9 o9 cl9 (P8.out.2.2.1.later A8)
      have c9 : Cl noU w9 D := rl_cl rfl (own_noU P8.out.2.1.i) (own_noU P8.out.2.1.g) rfl s9D
      have La := L9.box (w' := wa) (by decide) (by decide) (by decide) s9D c9 ka
      have Pa : Hid ((wa.heap[w.heap.size]? = some (.cells #[.int .i64 (n : Int), .slice co cn cc, .slice (some ⟨ib, ioff, none⟩) dn dc, .slice (some ⟨gb, goff, none⟩) dn gc, .slice ro rn rc, .bool false] 32) /\ wa.heap[w.heap.size + 1]? = some (.cells #[.int .i64 0, .slice none 0 0, .slice none 0 0, .slice none 0 0, .slice none 0 0] 88) /\ Below w.heap.size w wa) /\ wa.heap[D]? = some (.cells #[.int .i64 (n : Int), (.slice vca n vcc), v7, v9, (.slice (some ⟨vrb, 0, none⟩) n vrc)] 88) /\ RlS wa w.heap.size E cs rs (ids.take k ++ [id]) (gs.take k ++ [gs[k]?.getD []]) (.slice vca n vcc) (.slice (some ⟨vrb, 0, none⟩) n vrc) v7 v9 (gl ++ [(.slice a6 (gs[k]?.getD []).length c6)])) := ⟨⟨(ka _ hDz).trans ((grw_types (World.ownsRow.alloc P8.out.2.1.g _) g9 _ _ _ (by decide) (alloc_kept P8.out.2.2.2.2.1 _)).trans (alloc_kept P8.out.2.2.2.2.1 _)), (ka _ hD1).trans ((grw_types (World.ownsRow.alloc P8.out.2.1.g _) g9 _ _ _ (by decide) (alloc_kept P8.out.2.2.2.2.2 _)).trans (alloc_kept P8.out.2.2.2.2.2 _)), ba⟩, ea, La⟩
      clear P8 A8 L9 c9 La s9D q9 o9 g9 cl9 ea ba sa ka x0 x1 x2 x3 x4 HCG hsz8
      go_roundg g
      case measure => omega
      case rel =>
       refine ⟨k + 1, v7, v9, gl ++ [(.slice a6 (gs[k]?.getD []).length c6)], by go_num, by have := HIG.out; omega, ?_, HCS2⟩
       unfold Hid
       rw [take_snocI (by rw [HLI.out.1]; exact hlt), HID.out, take_snocG (by rw [HLI.out.2]; exact hlt)]
       exact Pa.out
    ·have hd : decide ((k : Int) < (dn : Int)) = false := decide_eq_false (by omega)
     have hkd : k = dn := by omega
     subst hkd
     have HT : Hid (okv = true) := by
      unfold Hid
      have e : uptoZ ⟨(n : Int), co, cn, cc, io, k, dc, go, k, gc, ro, rn, rc, false, cs, ids, gv, gs, rs⟩ k = List.finRange k := uptoZ_all ⟨(n : Int), co, cn, cc, io, k, dc, go, k, gc, ro, rn, rc, false, cs, ids, gv, gs, rs⟩
      have hc := HC.out
      rw [e] at hc
      rw [HW2.out]
      exact hc
     have LL := HP.out.2.2
     rw [List.take_of_length_le (by rw [HLI.out.1]; exact Nat.le_refl _), List.take_of_length_le (by rw [HLI.out.2]; exact Nat.le_refl _)] at LL
     have HLL : Hid _ := LL
     clear LL HC HW2
     go_wp2_with (first
      | (refine wpList_load_row (by rfl) 88 _ (by rfl) D _ (by rfl) HP.out.2.1 _ Tryz.underlying88 rfl 5 Tryz.infoRl (by rfl) ?_)
      | (refine wpList_store_row (by rfl) 88 _ _ (by rfl) w w.heap.size (w.heap.size + 1) #[.int .i64 (n : Int), (.slice vca n vcc), vi, vg, (.slice (some ⟨vrb, 0, none⟩) n vrc)] _ (by rfl) (by rfl) HP.out.1.2.1 HP.out.1.2.2 (Nat.le_succ _) 5 Tryz.infoRl (by rfl) (by rfl) (oneRl _ _ _ _ _ rfl (own_valJ HP.out.2.2.i).1 (own_valJ HP.out.2.2.g).1 rfl) ?_; intro W9 e9 b9 s9 o9))
     have c9 : Cl noU wr (w.heap.size + 1) := rl_cl rfl rfl rfl rfl HP.out.1.2.1
     have L9 := HLL.out.box (w' := W9) (by decide) (by decide) (by decide) HP.out.1.2.1 c9 o9
     obtain ⟨ia, ic, hvi, -⟩ := owns_slice L9.i
     obtain ⟨ga, gcc, hvg, -⟩ := owns_slice L9.g
     subst hvi hvg
     refine bodyPost_ret (res_ctJ _ 2 3 88 (by kernel_rfl) _ _ (w.heap.size + 1) _ _ (by rfl) (by rfl) _ Tryz.underlying88 rfl 5 Tryz.infoRl rfl e9) rfl ?_
     exact ⟨⟨(n : Int), _, _, _, _, _, _, _, _, _, _, _, _, by rw [HT.out]; rfl, fun _ => ⟨rfl, gl, L9⟩⟩, b9⟩
theorem reals_any (u : ZD) (E : Nat) (hE : E = 1074) (w : World) (hu : ZU w u) (hw : UW u) :
  Calls Tryz.prog 44 #[.agg (zRow u)] w fun e w' => (∃ N' a1 l1 c1 a2 l2 c2 a3 l3 c3 a4 l4 c4, e = .returned (.tuple #[.agg #[.int .i64 N', .slice a1 l1 c1, .slice a2 l2 c2, .slice a3 l3 c3, .slice a4 l4 c4], .bool (!u.bad && wholeB u)]) /\ ((!u.bad && wholeB u) = true -> N' = u.N /\ ∃ gl, RlS w' w.heap.size E u.cs u.rs u.ids u.gs (.slice a1 l1 c1) (.slice a4 l4 c4) (.slice a2 l2 c2) (.slice a3 l3 c3) gl)) /\ Below w.heap.size w w' := by
 by_cases h : u.bad = true \/ u.N < 1 \/ 256 < u.N \/ u.dn ≠ u.gn
 ·exact reals_no u E w h hw.il hw.gl
 ·have h0 : u.bad = false := by cases hb : u.bad with | true => exact absurd (.inl hb) h | false => rfl
  have h1 : 1 <= u.N := by have : ¬ u.N < 1 := fun c => h (.inr (.inl c)); omega
  have h2 : u.N <= 256 := by have : ¬ 256 < u.N := fun c => h (.inr (.inr (.inl c))); omega
  have h3 : u.dn = u.gn := by by_cases c : u.dn = u.gn; exact c; exact absurd (.inr (.inr (.inr c))) h
  clear h
  obtain ⟨N, co, cn, cc, io, dn, dc, go, gn, gc, ro, rn, rc, bad, cs, ids, gv, gs, rs⟩ := u
  dsimp only at h0 h1 h2 h3
  subst h0 h3
  obtain ⟨n, rfl⟩ : ∃ n : Nat, N = (n : Int) := ⟨N.toNat, by omega⟩
  exact reals_yes n co cn cc io dn dc go gc ro rn rc cs ids gv gs rs E hE w hu ⟨by omega, by omega⟩ hw.cl hw.rl hw.il hw.ll hw.c hw.r hw.g
theorem check_or (u : ZD) : ((!u.bad && wholeB u) || emptyB u.bad u.N u.cn u.dn u.gn u.rn) = checkB u := by
 unfold emptyB checkB bareB
 cases u.bad with
 | true =>
  simp only [Bool.not_true, Bool.false_and, Bool.false_or, Bool.true_and, if_true]
  by_cases h1 : u.cn = 0 <;> by_cases h2 : u.dn = 0 <;> by_cases h3 : u.gn = 0 <;> by_cases h4 : u.rn = 0 <;> simp [h1, h2, h3, h4]
 | false => simp
theorem refCheck_any (u : ZD) (w : World) (hu : ZU w u) (hw : UW u) :
  Calls Tryz.prog 25 #[.agg (zRow u)] w fun e w' => e = .returned (.int .i64 (if checkB u then 0 else 100)) /\ Below w.heap.size w w' := by
 have HRl : ∀ W', Below w.heap.size w W' -> _ := fun W' hb => reals_any u 1074 rfl W' (hu.later hb) hw
 have HEm : ∀ W', _ := fun W' => refEmpty_any u.N u.co u.io u.go u.ro u.cn u.cc u.dn u.dc u.gn u.gc u.rn u.rc u.bad (by have := hw.cl; omega) (by have := hw.il; omega) (by have := hw.gl; omega) (by have := hw.rl; omega) W'
 have HOR : Hid _ := check_or u
 obtain ⟨ok, hok⟩ : ∃ ok, (!u.bad && wholeB u) = ok := ⟨_, rfl⟩
 obtain ⟨em, hem⟩ : ∃ em, emptyB u.bad u.N u.cn u.dn u.gn u.rn = em := ⟨_, rfl⟩
 obtain ⟨cb, hcb⟩ : ∃ cb, checkB u = cb := ⟨_, rfl⟩
 rw [hok, hem, hcb] at HOR
 rw [hok] at HRl
 rw [hem] at HEm
 rw [hcb]
 obtain ⟨rv, hrv⟩ : ∃ rv : Int, (if cb = true then 0 else 100) = rv := ⟨_, rfl⟩
 rw [hrv]
 have HRV : Hid _ := hrv
 clear hok hem hcb hu hw hrv
 obtain ⟨N, co, cn, cc, io, dn, dc, go, gn, gc, ro, rn, rc, bad, cs, ids, gv, gs, rs⟩ := u
 unfold zRow at HRl ⊢
 dsimp only at HRl HEm ⊢
 have HR : Hid _ := HRl
 have HE : Hid _ := HEm
 clear HRl HEm
 have X0 : Below w.heap.size w (w.alloc (.cells #[.int .i64 N, .slice co cn cc, .slice io dn dc, .slice go gn gc, .slice ro rn rc, .bool bad] 32)) := (Below.refl _ w).alloc (Nat.le_refl _) _
 have Y0 : (w.alloc (.cells #[.int .i64 N, .slice co cn cc, .slice io dn dc, .slice go gn gc, .slice ro rn rc, .bool bad] 32)).heap[w.heap.size]? = some (.cells #[.int .i64 N, .slice co cn cc, .slice io dn dc, .slice go gn gc, .slice ro rn rc, .bool bad] 32) := heap_alloc_new w _
 have HX : Hid _ := And.intro X0 Y0
 clear X0 Y0
 go_enter Tryz.func25, Tryz.ntmps25
 go_upto_region 2 with (first
  | (refine wpList_load_row (by rfl) 32 _ (by rfl) w.heap.size _ (by rfl) HX.out.2 _ Tryz.underlying32 rfl 6 Tryz.infoZu (by rfl) ?_)
  | (go_at_call 44; refine Calls.mono (HR.out _ HX.out.1) ?_; rintro e w1 ⟨⟨N', a1, l1, c1, a2, l2, c2, a3, l3, c3, a4, l4, c4, rfl, -⟩, b1⟩))
 have P1 : Hid (Below w.heap.size w (w1.alloc (.cells #[.int .i64 N', .slice a1 l1 c1, .slice a2 l2 c2, .slice a3 l3 c3, .slice a4 l4 c4] 88)) /\ (w1.alloc (.cells #[.int .i64 N', .slice a1 l1 c1, .slice a2 l2 c2, .slice a3 l3 c3, .slice a4 l4 c4] 88)).heap[w.heap.size]? = some (.cells #[.int .i64 N, .slice co cn cc, .slice io dn dc, .slice go gn gc, .slice ro rn rc, .bool bad] 32)) := ⟨(to_call HX.out.1 b1).alloc (to_call HX.out.1 b1).size _, alloc_kept (kept b1 HX.out.2) _⟩
 clear b1 HR HX
 cases ok
 case true =>
  have HC : Hid (cb = true) := HOR.out.symm
  go_wp2_with fail
  go_ret
  exact ⟨by rw [<- HRV.out, HC.out]; rfl, P1.out.1⟩
 case false =>
  have HC : Hid (cb = em) := by unfold Hid; rw [<- HOR.out, Bool.false_or]
  cases em
  case true =>
   go_wp2_with (first
    | (refine wpList_load_rowG (by rfl) 32 _ (by rfl) w.heap.size _ (by rfl) P1.out.2 _ Tryz.underlying32 rfl 6 Tryz.infoZu (by rfl) ?_)
    | (go_at_call 45; refine Calls.mono (HE.out _) ?_; rintro e w2 ⟨rfl, b2⟩))
   go_ret
   exact ⟨by rw [<- HRV.out, HC.out]; rfl, to_call P1.out.1 b2⟩
  case false =>
   go_wp2_with (first
    | (refine wpList_load_rowG (by rfl) 32 _ (by rfl) w.heap.size _ (by rfl) P1.out.2 _ Tryz.underlying32 rfl 6 Tryz.infoZu (by rfl) ?_)
    | (go_at_call 45; refine Calls.mono (HE.out _) ?_; rintro e w2 ⟨rfl, b2⟩))
   go_ret
   exact ⟨by rw [<- HRV.out, HC.out]; rfl, to_call P1.out.1 b2⟩
end Go.Proofs.YthmhgpadinecfaaGreat
