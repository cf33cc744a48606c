import Derived.Test.YtcpbccckjlnkaaaMKA
import Derived.Test.YtcpbccckjlnkaaaMR
import Derived.BigQuiet
import Derived.RangeFuncNested
import Derived.RangeFuncBound
import Derived.RangeFuncCalls
import Derived.RangeFuncLeaves
import Derived.RangeFuncFrom
import Derived.RangeFuncWrites
import Derived.Shelf.Abstract
import Derived.Shelf.RegionOpen
import Derived.WalkKit
import Derived.OwnWalkIn
import Derived.TacticsInMore
import Derived.LoopNIn
import Derived.LoopIn
import Derived.Test.YtcpbccckjlnkaaaKG
import Derived.Test.YtcpbccckjlnkaaaGR
namespace Go.Proofs.Ytcpbccckjlnkaaa
open Go.RowKit
set_option linter.unusedVariables false

theorem cellAtJ {W : World} {B : Nat} {c : Array Value} {t : TypeId} (h : W.heap[B]? = some (.cells c t)) (o : Nat) (v : Value) (hv : c[o]? = some v) : W.cell? ⟨B, o, none⟩ = some v := (cell_of_row _ _ o _ _ _ h).trans hv
/-- A slice of whole numbers. -/
structure RdIs (w : World) (ao : Option Addr) (len cap : Nat) (is : List Int) : Prop where
  length : is.length = len
  max : len ≤ maxLen
  cells : len = 0 ∨ ∃ b off, ao = some ⟨b, off, none⟩ ∧ ∀ j, j < len → w.cell? ⟨b, off + j, none⟩ = some (.int .i64 (is[j]?.getD 0))
theorem RdIs.later {w w' : World} {ao : Option Addr} {len cap : Nat} {is : List Int} (h : RdIs w ao len cap is) (hb : Below w.heap.size w w') : RdIs w' ao len cap is := by
  refine ⟨h.length, h.max, ?_⟩
  rcases h.cells with h0 | ⟨b, off, ha, hc⟩
  · exact .inl h0
  · refine .inr ⟨b, off, ha, fun j hj => ?_⟩
    rw [hb.cell (p := ⟨b, off + j, none⟩) (World.block_lt_of_cell? w _ (hc j hj))]
    exact hc j hj
/-- A slice of lists of numbers; gv: where each of them lies. -/
structure RdGs (w : World) (ao : Option Addr) (len cap : Nat) (gv : Nat → Option Addr × Nat × Nat) (gs : List (List Nat)) : Prop where
  length : gs.length = len
  max : len ≤ maxLen
  cells : len = 0 ∨ ∃ b off, ao = some ⟨b, off, none⟩ ∧ ∀ j, j < len → w.cell? ⟨b, off + j, none⟩ = some (.slice (gv j).1 (gv j).2.1 (gv j).2.2)
  each : ∀ j, j < len → RdF w (gv j).1 (gv j).2.1 (gv j).2.2 (gs[j]?.getD [])
theorem RdGs.later {w w' : World} {ao : Option Addr} {len cap : Nat} {gv : Nat → Option Addr × Nat × Nat} {gs : List (List Nat)} (h : RdGs w ao len cap gv gs) (hb : Below w.heap.size w w') : RdGs w' ao len cap gv gs := by
  refine ⟨h.length, h.max, ?_, fun j hj => (h.each j hj).later hb⟩
  rcases h.cells with h0 | ⟨b, off, ha, hc⟩
  · exact .inl h0
  · refine .inr ⟨b, off, ha, fun j hj => ?_⟩
    rw [hb.cell (p := ⟨b, off + j, none⟩) (World.block_lt_of_cell? w _ (hc j hj))]
    exact hc j hj
/-- A zonotope's cells, and what its lists read as. -/
structure ZD where
  N : Int
  co : Option Addr
  cn : Nat
  cc : Nat
  io : Option Addr
  dn : Nat
  dc : Nat
  go : Option Addr
  gn : Nat
  gc : Nat
  ro : Option Addr
  rn : Nat
  rc : Nat
  bad : Bool
  cs : List Nat
  ids : List Int
  gv : Nat → Option Addr × Nat × Nat
  gs : List (List Nat)
  rs : List Nat
structure ZR (w : World) (z : ZD) : Prop where
  c : RdF w z.co z.cn z.cc z.cs
  i : RdIs w z.io z.dn z.dc z.ids
  g : RdGs w z.go z.gn z.gc z.gv z.gs
  r : RdF w z.ro z.rn z.rc z.rs
theorem ZR.later {w w' : World} {z : ZD} (h : ZR w z) (hb : Below w.heap.size w w') : ZR w' z := ⟨h.c.later hb, h.i.later hb, h.g.later hb, h.r.later hb⟩
def numN (us : List Nat) (n : Int) : Bool := decide ((us.length : Int) = n) && numsB us
set_option maxRecDepth 100000 in
set_option maxHeartbeats 1000000 in
theorem areNumbers_any (ao : Option Addr) (len cap : Nat) (us : List Nat) (n : Int) (w : World) (h : RdF w ao len cap us) :
    Calls Try.prog 67 #[.slice ao len cap, .int .i64 n] w fun e w' => e = .returned (.bool (numN us n)) ∧ w' = w := by
  have HR : Hid _ := h
  have hmx := Nat.le_trans h.max maxLen_le
  have hln := h.length
  clear h
  by_cases hn : (len : Int) = n
  · subst hn
    have HE : Hid (numN us (len : Int) = numsB us) := by unfold Hid numN; rw [hln, decide_eq_true rfl, Bool.true_and]
    go_enter Try.func67, Try.ntmps67
    go_wp2_with fail
    go_loopg [13] len (fun g iv wx => ∃ k : Nat, iv = .int .i64 k ∧ k + g = len ∧ Hid (wx = w) ∧ Hid (numsB (us.drop k) = numsB us))
    case atStart => exact ⟨0, rfl, by omega, rfl, rfl⟩
    case round =>
      obtain ⟨k, rfl, hk, hw, H1⟩ := hrel
      by_cases hlt : k < len
      · have hd : decide ((k : Int) < (len : Int)) = true := decide_eq_true (by omega)
        obtain ⟨g, rfl⟩ : ∃ g, gk = g + 1 := ⟨gk - 1, by omega⟩
        rcases HR.out.cells with h0 | ⟨b, off, rfl, hc⟩
        · omega
        · have g0 := hc k hlt
          rw [← hw.out] at g0
          have hul := HR.out.lt _ (getD_mem (us := us) (j := k) (by omega))
          have h2 := H1.out
          rw [numsB_drop us (by omega)] at h2
          obtain ⟨u, hu⟩ : ∃ u, us[k]?.getD 0 = u := ⟨_, rfl⟩
          rw [hu] at g0 hul h2
          clear hc hu H1
          by_cases hf : Fin u
          · have hfd : decide (Fin u) = true := decide_eq_true hf
            have H2 : Hid (numsB (us.drop (k + 1)) = numsB us) := by unfold Hid; rw [← h2, hfd, Bool.true_and]
            clear h2
            go_wp2_with (go_at_call 48; refine (number_any u hul _).mono ?_; rintro e w' ⟨rfl, rfl⟩; rw [hfd])
            go_roundg g
            case measure => omega
            case rel => exact ⟨k + 1, by go_num, by omega, hw, H2⟩
          · have hfd : decide (Fin u) = false := decide_eq_false hf
            have H2 : Hid (false = numsB us) := by unfold Hid; rw [← h2, hfd, Bool.false_and]
            clear h2
            go_wp2_with (go_at_call 48; refine (number_any u hul _).mono ?_; rintro e w' ⟨rfl, rfl⟩; rw [hfd])
            go_ret
            exact ⟨by rw [HE.out, ← H2.out]; rfl, hw.out⟩
      · have hd : decide ((k : Int) < (len : Int)) = false := decide_eq_false (by omega)
        have hd' : decide (k < len) = false := decide_eq_false (by omega)
        have H2 : Hid (true = numsB us) := by
          unfold Hid
          rw [← H1.out, List.drop_eq_nil_of_le (by omega)]
          rfl
        go_wp2_with fail
        go_ret
        exact ⟨by rw [HE.out, ← H2.out]; rfl, hw.out⟩
  · have HE : Hid (numN us n = false) := by unfold Hid numN; rw [hln, decide_eq_false hn, Bool.false_and]
    have hb : ((len : Int) != n) = true := by simpa using hn
    have hb2 : ((len : Int) == n) = false := by simpa using hn
    go_enter Try.func67, Try.ntmps67
    go_wp2_with fail
    go_ret
    exact ⟨by rw [HE.out]; rfl, rfl⟩
end Go.Proofs.Ytcpbccckjlnkaaa


namespace Go.Proofs.Ytcpbccckjlnkaaa
open Go.RowKit Go.Shelf
set_option linter.unusedVariables false
attribute [local go_sem] Oper.semAt_some

/-- What a round keeps: all that lay when the function was called, and the zonotope's own box. -/
def KpZ (n₀ B : Nat) (W W' : World) : Prop := Below n₀ W W' ∧ W'.heap[B]? = W.heap[B]?
theorem KpZ.trans {n₀ B : Nat} {a b c : World} (h : KpZ n₀ B a b) (k : KpZ n₀ B b c) : KpZ n₀ B a c := ⟨h.1.trans k.1, k.2.trans h.2⟩
theorem KpZ.refl (n₀ B : Nat) (a : World) : KpZ n₀ B a a := ⟨Below.refl _ _, rfl⟩
theorem kpZ_b {n₀ B : Nat} {w : World} (hn : n₀ ≤ w.heap.size) (hB : B < w.heap.size) (W : World) (l : Nat) (o o' : Obj) (hl : w.heap.size ≤ l) (h : W.heap[l]? = some o) (hc : o.isCells = false) (hw : o.isWalk = false) : KpZ n₀ B W (W.putObj l o') :=
  ⟨belowK_b hn W l o o' hl h hc hw, by
    have := (belowK_b (n₀ := B + 1) (w := w) (by omega) W l o o' hl h hc hw).block B (by omega)
    exact this⟩
def encZ (z : ZD) (k : _root_.Fin z.dn) : Array Value := #[.int .i64 (z.ids[k.val]?.getD 0), .slice (z.gv k.val).1 (z.gv k.val).2.1 (z.gv k.val).2.2]
def uptoZ (z : ZD) (k : Nat) : List (_root_.Fin z.dn) := (List.finRange z.dn).take k
theorem uptoZ_len (z : ZD) (k : Nat) (h : k ≤ z.dn) : (uptoZ z k).length = k := by unfold uptoZ; rw [List.length_take, List.length_finRange]; omega
theorem uptoZ_succ (z : ZD) (k : Nat) (h : k < z.dn) : uptoZ z (k + 1) = uptoZ z k ++ [⟨k, h⟩] := by
  unfold uptoZ
  rw [List.take_add_one, List.getElem?_eq_getElem (by rw [List.length_finRange]; exact h)]
  simp
theorem uptoZ_all (z : ZD) : uptoZ z z.dn = List.finRange z.dn := by unfold uptoZ; rw [List.take_of_length_le (by rw [List.length_finRange]; exact Nat.le_refl _)]
set_option maxRecDepth 100000 in
set_option maxHeartbeats 1000000 in
theorem columns_in (F : Fence) (n : Nat) (hf : F.fn 68) (hro : F.round = none) (v : Array Value) (hv : v.size = 6) (w : World) :
    CallsIn F n Try.prog 68 #[.agg v] w fun e w' => e = .returned (.func (.func 74) #[] #[.pointer (some ⟨w.heap.size, 0, none⟩)]) ∧ w' = w.alloc (.cells v 43) := by
  refine callsIn_of_wp Try.func68 rfl hf ?_ hro
  simp only [Try.ntmps68, List.size_toArray, List.length_cons, List.length_nil, Nat.reduceAdd, Nat.reduceSub, Array.replicate_succ, Array.replicate_zero, List.push_toArray, List.append_toArray, List.nil_append, List.cons_append]
  gi_wp2
  go_ret
  exact ⟨rfl, rfl⟩
set_option maxRecDepth 100000 in
set_option maxHeartbeats 2000000 in
theorem cols_in (F : Fence) (n : Nat) (hf : F.fn 74) (hro : F.round = none) (hn : 1 ≤ n) (l B n₀ : Nat) (z : ZD) (hg : z.dn ≤ z.gn) (J Jx : List (_root_.Fin z.dn) → World → Prop)
    (hY : ∀ pre x W, J pre W → pre.length < z.dn → YieldAt F (n - 1) Try.prog l (encZ z x) W fun e W' =>
      (e = .returned (.bool true) ∧ J (pre ++ [x]) W' ∧ KpZ n₀ B W W') ∨ (e = .returned (.bool false) ∧ Jx (pre ++ [x]) W'))
    (W : World) (hB : W.heap[B]? = some (.cells #[.int .i64 z.N, .slice z.co z.cn z.cc, .slice z.io z.dn z.dc, .slice z.go z.gn z.gc, .slice z.ro z.rn z.rc, .bool z.bad] 43))
    (hz : ∀ W', Below n₀ W W' → ZR W' z) (h0 : J [] W) :
    CallsIn F n Try.prog 74 #[.func (.yield l) #[] #[], .pointer (some ⟨B, 0, none⟩)] W fun e W' => (∃ v, e = .returned v) ∧
      ((∃ ys, ys = List.finRange z.dn ∧ J ys W') ∨ (∃ pre, (∃ k, k ≤ z.dn ∧ pre = uptoZ z k) ∧ Jx pre W')) := by
  obtain ⟨N, co, cn, cc, io, dn, dc, go, gn, gc, ro, rn, rc, bad, cs, ids, gv, gs, rs⟩ := z
  dsimp only at hg J Jx hY hB hz h0 ⊢
  have hmx : dn ≤ 9223372036854775807 := Nat.le_trans (hz W (Below.refl _ _)).i.max maxLen_le
  have hmx2 : dn ≤ maxLen := (hz W (Below.refl _ _)).i.max
  have c2 := cellAtJ hB 2 (.slice io dn dc) rfl
  refine callsIn_of_wp Try.func74 rfl hf ?_ hro
  simp only [Try.ntmps74, List.size_toArray, List.length_cons, List.length_nil, Nat.reduceAdd, Nat.reduceSub, Array.replicate_succ, Array.replicate_zero, List.push_toArray, List.append_toArray, List.nil_append, List.cons_append]
  gi_wp2
  gi_loopw [8] (fun i wr => ∃ k : Nat, k ≤ dn ∧ i = .int .i64 k ∧ J (uptoZ ⟨N, co, cn, cc, io, dn, dc, go, gn, gc, ro, rn, rc, bad, cs, ids, gv, gs, rs⟩ k) wr ∧ KpZ n₀ B W wr)
    (fun i _ => dn - (intOf i).toNat)
  case atStart => exact ⟨0, Nat.zero_le _, rfl, h0, KpZ.refl _ _ _⟩
  case round =>
    obtain ⟨k, hk, rfl, hJs, hnx⟩ := hrel
    by_cases hlt : k < dn
    · obtain ⟨fn, tmps, assign, body, hy, hR⟩ := hY _ ⟨k, hlt⟩ wr hJs (by rw [uptoZ_len _ k hk]; exact hlt)
      dsimp only [encZ] at hy
      have hzr := hz wr hnx.1
      obtain ⟨hzc, hzi, hzg, hzr'⟩ := hzr
      dsimp only at hzi hzg
      rcases hzi.cells with h0' | ⟨ib, ioff, rfl, hic⟩
      · omega
      rcases hzg.cells with h0' | ⟨gb, goff, rfl, hgc⟩
      · omega
      have q1 := hic k hlt
      have q2 := hgc k (by omega)
      have c3 := cellAtJ (hnx.2.trans hB) 3 (.slice (some ⟨gb, goff, none⟩) gn gc) rfl
      have hlt' : k < gn := by omega
      have hki : (k : Int) < (dn : Int) := by omega
      gi_wp2
      refine hR.mono ?_
      rintro e W3 (⟨rfl, hJ3, hk3⟩ | ⟨rfl, hJx3⟩)
      · gi_wp2
        go_roundw
        case rel => exact ⟨k + 1, by omega, by simp, by rw [uptoZ_succ _ _ hlt]; exact hJ3, hnx.trans hk3⟩
        case measure => simp [intOf]; omega
      · gi_wp2
        refine bodyPost_ret (results_none rfl _ _ _) rfl ?_
        exact ⟨⟨_, rfl⟩, .inr ⟨_, ⟨k + 1, by omega, (uptoZ_succ _ _ hlt).symm⟩, hJx3⟩⟩
    · obtain rfl : k = dn := by omega
      gi_wp2
      go_end0
      have e : uptoZ ⟨N, co, cn, cc, io, k, dc, go, gn, gc, ro, rn, rc, bad, cs, ids, gv, gs, rs⟩ k = List.finRange k := uptoZ_all _
      rw [e] at hJs
      exact ⟨⟨_, rfl⟩, .inl ⟨_, rfl, hJs⟩⟩
/-- The columns of a zonotope that lay when the function was called (world we), by their box B. -/
theorem cols_stops (F : Fence) (n : Nat) (hf : F.fn 74) (hro : F.round = none) (hn : 1 ≤ n) (B : Nat) (z : ZD) (hg : z.dn ≤ z.gn) (we w : World) (hbe : Below we.heap.size we w) (hz : ZR we z)
    (hB : w.heap[B]? = some (.cells #[.int .i64 z.N, .slice z.co z.cn z.cc, .slice z.io z.dn z.dc, .slice z.go z.gn z.gc, .slice z.ro z.rn z.rc, .bool z.bad] 43)) :
    SeqStopsK F n Try.prog 74 #[.pointer (some ⟨B, 0, none⟩)] (encZ z) (KpZ we.heap.size B) (fun ys => ys = List.finRange z.dn) (fun pre => ∃ k, k ≤ z.dn ∧ pre = uptoZ z k) z.dn w := fun l J Jx W hW _ _ hY h0 =>
  cols_in F n hf hro hn l B we.heap.size z hg J Jx hY W (kept hW hB) (fun W' hb => hz.later ((hbe.trans (hW.mono hbe.size)).trans hb)) h0
end Go.Proofs.Ytcpbccckjlnkaaa

namespace Go.Proofs.Ytcpbccckjlnkaaa
open Go.RowKit Go.Shelf
set_option linter.unusedVariables false

theorem f64_fmtJ : FloatKind.f64.format = Ieee.double := rfl
theorem lt0_ord {u : Nat} (hu : Fin u) : (FloatKind.f64.format.order u 0 == some Ordering.lt) = decide (srung u < 0) := by
  have ho := order_rung (x := u) (y := 0) (Nat.le_of_lt hu) (by decide)
  have hs : srung 0 = 0 := by decide
  rw [f64_fmtJ, ho, hs]
  by_cases h : srung u < 0
  · rw [Int.compare_eq_lt.2 h, decide_eq_true h]; rfl
  · rw [decide_eq_false h]
    by_cases h2 : srung u = 0
    · rw [Int.compare_eq_eq.2 h2]; rfl
    · rw [Int.compare_eq_gt.2 (by omega)]; rfl
def bareB (z : ZD) : Bool := decide (0 ≤ z.N) && decide (z.N ≤ 256) && decide (z.cn = 0) && decide (z.dn = 0) && decide (z.gn = 0) && decide (z.rn = 0)
set_option maxRecDepth 100000 in
set_option maxHeartbeats 1000000 in
theorem isBare_any (z : ZD) (w : World) : Calls Try.prog 50 #[.agg #[.int .i64 z.N, .slice z.co z.cn z.cc, .slice z.io z.dn z.dc, .slice z.go z.gn z.gc, .slice z.ro z.rn z.rc, .bool z.bad]] w fun e w' => e = .returned (.bool (bareB z)) ∧ Below w.heap.size w w' := by
  have HB : Hid (∀ x, Below w.heap.size w (w.alloc x)) := fun x => (Below.refl _ w).alloc (Nat.le_refl _) _
  have HE : Hid (bareB z = (decide (0 ≤ z.N) && decide (z.N ≤ 256) && decide (z.cn = 0) && decide (z.dn = 0) && decide (z.gn = 0) && decide (z.rn = 0))) := rfl
  by_cases q0 : 0 ≤ z.N
  case neg =>
    have d0 : decide (0 ≤ z.N) = false := decide_eq_false q0
    have HF : Hid (bareB z = false) := by unfold Hid; rw [HE.out]; simp [q0]
    go_enter Try.func50, Try.ntmps50
    go_wp2_with fail
    go_ret
    exact ⟨by rw [HF.out]; rfl, HB.out _⟩
  by_cases q1 : z.N ≤ 256
  case neg =>
    have d0 : decide (0 ≤ z.N) = true := decide_eq_true q0
    have d1 : decide (z.N ≤ 256) = false := decide_eq_false q1
    have HF : Hid (bareB z = false) := by unfold Hid; rw [HE.out]; simp [q0, q1]
    go_enter Try.func50, Try.ntmps50
    go_wp2_with fail
    go_ret
    exact ⟨by rw [HF.out]; rfl, HB.out _⟩
  by_cases q2 : z.cn = 0
  case neg =>
    have d0 : decide (0 ≤ z.N) = true := decide_eq_true q0
    have d1 : decide (z.N ≤ 256) = true := decide_eq_true q1
    have d2 : ((z.cn : Int) == 0) = false := by simpa using (show ¬ ((z.cn : Nat) : Int) = 0 by omega)
    have e2 : decide (z.cn = 0) = false := decide_eq_false q2
    have HF : Hid (bareB z = false) := by unfold Hid; rw [HE.out]; simp [q0, q1, q2]
    go_enter Try.func50, Try.ntmps50
    go_wp2_with fail
    go_ret
    exact ⟨by rw [HF.out]; rfl, HB.out _⟩
  by_cases q3 : z.dn = 0
  case neg =>
    have d0 : decide (0 ≤ z.N) = true := decide_eq_true q0
    have d1 : decide (z.N ≤ 256) = true := decide_eq_true q1
    have e2 : z.cn = 0 := q2
    have d3 : ((z.dn : Int) == 0) = false := by simpa using (show ¬ ((z.dn : Nat) : Int) = 0 by omega)
    have e3 : decide (z.dn = 0) = false := decide_eq_false q3
    have HF : Hid (bareB z = false) := by unfold Hid; rw [HE.out]; simp [q0, q1, q2, q3]
    go_enter Try.func50, Try.ntmps50
    go_wp2_with fail
    go_ret
    exact ⟨by rw [HF.out]; rfl, HB.out _⟩
  by_cases q4 : z.gn = 0
  case neg =>
    have d0 : decide (0 ≤ z.N) = true := decide_eq_true q0
    have d1 : decide (z.N ≤ 256) = true := decide_eq_true q1
    have e2 : z.cn = 0 := q2
    have e3 : z.dn = 0 := q3
    have d4 : ((z.gn : Int) == 0) = false := by simpa using (show ¬ ((z.gn : Nat) : Int) = 0 by omega)
    have e4 : decide (z.gn = 0) = false := decide_eq_false q4
    have HF : Hid (bareB z = false) := by unfold Hid; rw [HE.out]; simp [q0, q1, q2, q3, q4]
    go_enter Try.func50, Try.ntmps50
    go_wp2_with fail
    go_ret
    exact ⟨by rw [HF.out]; rfl, HB.out _⟩
  by_cases q5 : z.rn = 0
  case neg =>
    have d0 : decide (0 ≤ z.N) = true := decide_eq_true q0
    have d1 : decide (z.N ≤ 256) = true := decide_eq_true q1
    have e2 : z.cn = 0 := q2
    have e3 : z.dn = 0 := q3
    have e4 : z.gn = 0 := q4
    have d5 : ((z.rn : Int) == 0) = false := by simpa using (show ¬ ((z.rn : Nat) : Int) = 0 by omega)
    have e5 : decide (z.rn = 0) = false := decide_eq_false q5
    have HF : Hid (bareB z = false) := by unfold Hid; rw [HE.out]; simp [q0, q1, q2, q3, q4, q5]
    go_enter Try.func50, Try.ntmps50
    go_wp2_with fail
    go_ret
    exact ⟨by rw [HF.out]; rfl, HB.out _⟩
  have d0 : decide (0 ≤ z.N) = true := decide_eq_true q0
  have d1 : decide (z.N ≤ 256) = true := decide_eq_true q1
  have e2 : z.cn = 0 := q2
  have e3 : z.dn = 0 := q3
  have e4 : z.gn = 0 := q4
  have e5 : z.rn = 0 := q5
  have HF : Hid (bareB z = true) := by unfold Hid; rw [HE.out]; simp [q0, q1, q2, q3, q4, q5]
  go_enter Try.func50, Try.ntmps50
  go_wp2_with fail
  go_ret
  exact ⟨by rw [HF.out]; rfl, HB.out _⟩
end Go.Proofs.Ytcpbccckjlnkaaa

namespace Go.Proofs.Ytcpbccckjlnkaaa
open Go.RowKit Go.Shelf
set_option linter.unusedVariables false
attribute [local go_sem] Oper.semAt_some

def idZ (z : ZD) (k : _root_.Fin z.dn) : Int := z.ids[k.val]?.getD 0
def colOk (z : ZD) (last : Int) (k : _root_.Fin z.dn) : Bool := decide (last < idZ z k) && decide (idZ z k ≤ 1073741824) && numN (z.gs[k.val]?.getD []) z.N
def colsB (z : ZD) : Int → List (_root_.Fin z.dn) → Bool
  | _, [] => true
  | last, k :: ks => colOk z last k && colsB z (idZ z k) ks
def lastZ (z : ZD) : Int → List (_root_.Fin z.dn) → Int
  | last, [] => last
  | _, k :: ks => lastZ z (idZ z k) ks
theorem lastZ_snoc (z : ZD) : ∀ (ks : List (_root_.Fin z.dn)) (last : Int) (x : _root_.Fin z.dn), lastZ z last (ks ++ [x]) = idZ z x
  | [], _, _ => rfl
  | k :: ks, _, x => lastZ_snoc z ks _ x
theorem colsB_snoc (z : ZD) : ∀ (ks : List (_root_.Fin z.dn)) (last : Int) (x : _root_.Fin z.dn), colsB z last (ks ++ [x]) = (colsB z last ks && colOk z (lastZ z last ks) x)
  | [], last, x => by show (colOk z last x && true) = (true && colOk z last x); simp
  | k :: ks, last, x => by
    show (colOk z last k && colsB z (idZ z k) (ks ++ [x])) = (colOk z last k && colsB z (idZ z k) ks && colOk z (lastZ z (idZ z k) ks) x)
    rw [colsB_snoc z ks, Bool.and_assoc]
theorem colsB_append (z : ZD) : ∀ (ks js : List (_root_.Fin z.dn)) (last : Int), colsB z last ks = false → colsB z last (ks ++ js) = false
  | [], js, last, h => by cases h
  | k :: ks, js, last, h => by
    show (colOk z last k && colsB z (idZ z k) (ks ++ js)) = false
    have h' : (colOk z last k && colsB z (idZ z k) ks) = false := h
    rcases Bool.and_eq_false_iff.1 h' with h1 | h1
    · rw [h1]; rfl
    · rw [colsB_append z ks js _ h1]; simp
/-- Is all of it there, in order? -/
def posB (rs : List Nat) : Bool := rs.all fun u => decide (¬ srung u < 0)
def wholeB (z : ZD) : Bool := decide (1 ≤ z.N) && decide (z.N ≤ 256) && numN z.cs z.N && numN z.rs z.N && decide (z.dn = z.gn) && posB z.rs && colsB z (-1) (List.finRange z.dn)
theorem resB (f : Func) (i : Nat) (hf : f.results = #[ResultVar.cell i 4]) (tmps : Array Value) (W : World) (B : Nat) (b : Bool) (hp : tmps[i]? = some (.pointer (some ⟨B, 0, none⟩))) (h : W.cell? ⟨B, 0, none⟩ = some (.bool b)) : (results f tmps).run Try.prog W = .ok (.bool b) W := by
  simp [results, hf, hp, go_sem, h, asAddr]
theorem posB_drop (us : List Nat) {k : Nat} (h : k < us.length) : posB (us.drop k) = (decide (¬ srung (us[k]?.getD 0) < 0) && posB (us.drop (k + 1))) := by
  unfold posB
  rw [List.drop_eq_getElem_cons h, List.all_cons, List.getElem?_eq_getElem h]
  rfl
theorem numN_fin {us : List Nat} {n : Int} (h : numN us n = true) : (us.length : Int) = n ∧ ∀ u ∈ us, Fin u := by
  unfold numN numsB at h
  simp at h
  exact h
theorem cell_setJ {W : World} {p q : Addr} {v u : Value} (hne : p.block ≠ q.block) (h : W.cell? p = some v) : (W.setCell q u).cell? p = some v := by
  have e : (W.setCell q u).heap[p.block]? = W.heap[p.block]? := heap_setCell_other W q p.block u hne
  unfold World.cell? at h ⊢
  rw [e]; exact h
set_option maxRecDepth 100000 in
set_option maxHeartbeats 4000000 in
theorem isWhole_any (z : ZD) (w : World) (hz : ZR w z) : Calls Try.prog 51 #[.agg #[.int .i64 z.N, .slice z.co z.cn z.cc, .slice z.io z.dn z.dc, .slice z.go z.gn z.gc, .slice z.ro z.rn z.rc, .bool z.bad]] w fun e w' => e = .returned (.bool (wholeB z)) ∧ Below w.heap.size w w' := by
  have HZ : Hid (∀ W', Below w.heap.size w W' → ZR W' z) := fun W' hb => hz.later hb
  obtain ⟨wb, hwb⟩ : ∃ wb, wholeB z = wb := ⟨_, rfl⟩
  rw [hwb]
  have HE : Hid (wb = (decide (1 ≤ z.N) && decide (z.N ≤ 256) && numN z.cs z.N && numN z.rs z.N && decide (z.dn = z.gn) && posB z.rs && colsB z (-1) (List.finRange z.dn))) := hwb.symm
  have HRL : Hid (z.rs.length = z.rn ∧ z.rn ≤ 9223372036854775807) := ⟨hz.r.length, Nat.le_trans hz.r.max maxLen_le⟩
  clear hwb
  clear hz
  obtain ⟨N, co, cn, cc, io, dn, dc, go, gn, gc, ro, rn, rc, bad, cs, ids, gv, gs, rs⟩ := z
  dsimp only at HZ HE HRL ⊢
  have B2 : Below w.heap.size w ((w.alloc (.cells #[.int .i64 N, .slice co cn cc, .slice io dn dc, .slice go gn gc, .slice ro rn rc, .bool bad] 43)).alloc (.cells #[.bool false] 4)) := ((Below.refl _ w).alloc (Nat.le_refl _) _).alloc (by simp) _
  have ANw : ∀ (ao : Option Addr) (len cap : Nat) (us : List Nat) (n : Int) (W : World), RdF W ao len cap us → CallsIn Fence.wide 2 Try.prog 67 #[.slice ao len cap, .int .i64 n] W fun e w' => e = .returned (.bool (numN us n)) ∧ w' = W := fun ao len cap us n W h => callsIn_wide.2 (areNumbers_any ao len cap us n W h)
  refine (callsIn_wide (n := 3)).1 ?_
  refine callsIn_of_wp_marks Try.func51 rfl trivial ?_ rfl
  simp only [Try.ntmps51, List.size_toArray, List.length_cons, List.length_nil, Nat.reduceAdd, Nat.reduceSub, Array.replicate_succ, Array.replicate_zero, List.push_toArray, List.append_toArray, List.nil_append, List.cons_append]
  by_cases q0 : 1 ≤ N
  case neg =>
    have d0 : decide (N < 1) = true := decide_eq_true (by omega)
    have HF : Hid (wb = false) := by unfold Hid; rw [HE.out]; simp [q0]
    clear ANw
    gi_wp2_with (first | (refine (⟨trivial, ?_⟩ : Fence.wide.fn 67 ∧ _); gi_at_call 67; refine (callsIn_wide.2 (areNumbers_any _ _ _ _ _ _ (by first | exact (HZ.out _ B2).c | exact (HZ.out _ B2).r))).mono ?_; rintro e w' ⟨rfl, rfl⟩) | (refine (⟨trivial, ?_⟩ : Fence.wide.fn 67 ∧ _)))
    show ∃ v : Value, (results _ _).run _ _ = .ok v _ ∧ _
    refine ⟨Value.bool false, resB _ 2 (by kernel_rfl) _ _ (w.heap.size + 1) false (by rfl) ?_, ?_⟩
    · exact cellAtJ (heap_at _ _ (w.heap.size + 1) (by simp)) 0 _ rfl
    · exact ⟨by rw [HF.out], B2⟩
  by_cases q1 : N ≤ 256
  case neg =>
    have d0 : decide (N < 1) = false := decide_eq_false (by omega)
    have d1 : decide (256 < N) = true := decide_eq_true (by omega)
    have HF : Hid (wb = false) := by unfold Hid; rw [HE.out]; simp [q0, q1]
    clear ANw
    gi_wp2_with (first | (refine (⟨trivial, ?_⟩ : Fence.wide.fn 67 ∧ _); gi_at_call 67; refine (callsIn_wide.2 (areNumbers_any _ _ _ _ _ _ (by first | exact (HZ.out _ B2).c | exact (HZ.out _ B2).r))).mono ?_; rintro e w' ⟨rfl, rfl⟩) | (refine (⟨trivial, ?_⟩ : Fence.wide.fn 67 ∧ _)))
    show ∃ v : Value, (results _ _).run _ _ = .ok v _ ∧ _
    refine ⟨Value.bool false, resB _ 2 (by kernel_rfl) _ _ (w.heap.size + 1) false (by rfl) ?_, ?_⟩
    · exact cellAtJ (heap_at _ _ (w.heap.size + 1) (by simp)) 0 _ rfl
    · exact ⟨by rw [HF.out], B2⟩
  by_cases q2 : numN cs N = true
  case neg =>
    have d0 : decide (N < 1) = false := decide_eq_false (by omega)
    have d1 : decide (256 < N) = false := decide_eq_false (by omega)
    have d2 : numN cs N = false := by simpa using q2
    have HF : Hid (wb = false) := by unfold Hid; rw [HE.out]; simp [q0, q1, q2]
    clear ANw
    gi_wp2_with (first | (refine (⟨trivial, ?_⟩ : Fence.wide.fn 67 ∧ _); gi_at_call 67; refine (callsIn_wide.2 (areNumbers_any _ _ _ _ _ _ (by first | exact (HZ.out _ B2).c | exact (HZ.out _ B2).r))).mono ?_; rintro e w' ⟨rfl, rfl⟩) | (refine (⟨trivial, ?_⟩ : Fence.wide.fn 67 ∧ _)))
    show ∃ v : Value, (results _ _).run _ _ = .ok v _ ∧ _
    refine ⟨Value.bool false, resB _ 2 (by kernel_rfl) _ _ (w.heap.size + 1) false (by rfl) ?_, ?_⟩
    · exact cellAtJ (heap_at _ _ (w.heap.size + 1) (by simp)) 0 _ rfl
    · exact ⟨by rw [HF.out], B2⟩
  by_cases q3 : numN rs N = true
  case neg =>
    have d0 : decide (N < 1) = false := decide_eq_false (by omega)
    have d1 : decide (256 < N) = false := decide_eq_false (by omega)
    have d2 : numN cs N = true := by simpa using q2
    have d3 : numN rs N = false := by simpa using q3
    have HF : Hid (wb = false) := by unfold Hid; rw [HE.out]; simp [q0, q1, q2, q3]
    clear ANw
    gi_wp2_with (first | (refine (⟨trivial, ?_⟩ : Fence.wide.fn 67 ∧ _); gi_at_call 67; refine (callsIn_wide.2 (areNumbers_any _ _ _ _ _ _ (by first | exact (HZ.out _ B2).c | exact (HZ.out _ B2).r))).mono ?_; rintro e w' ⟨rfl, rfl⟩) | (refine (⟨trivial, ?_⟩ : Fence.wide.fn 67 ∧ _)))
    show ∃ v : Value, (results _ _).run _ _ = .ok v _ ∧ _
    refine ⟨Value.bool false, resB _ 2 (by kernel_rfl) _ _ (w.heap.size + 1) false (by rfl) ?_, ?_⟩
    · exact cellAtJ (heap_at _ _ (w.heap.size + 1) (by simp)) 0 _ rfl
    · exact ⟨by rw [HF.out], B2⟩
  by_cases q4 : dn = gn
  case neg =>
    have d0 : decide (N < 1) = false := decide_eq_false (by omega)
    have d1 : decide (256 < N) = false := decide_eq_false (by omega)
    have d2 : numN cs N = true := by simpa using q2
    have d3 : numN rs N = true := by simpa using q3
    have d4 : ((dn : Int) != (gn : Int)) = true := by simpa using (show ¬ ((dn : Int) = (gn : Int)) by omega)
    have HF : Hid (wb = false) := by unfold Hid; rw [HE.out]; simp [q0, q1, q2, q3, q4]
    clear ANw
    gi_wp2_with (first | (refine (⟨trivial, ?_⟩ : Fence.wide.fn 67 ∧ _); gi_at_call 67; refine (callsIn_wide.2 (areNumbers_any _ _ _ _ _ _ (by first | exact (HZ.out _ B2).c | exact (HZ.out _ B2).r))).mono ?_; rintro e w' ⟨rfl, rfl⟩) | (refine (⟨trivial, ?_⟩ : Fence.wide.fn 67 ∧ _)))
    show ∃ v : Value, (results _ _).run _ _ = .ok v _ ∧ _
    refine ⟨Value.bool false, resB _ 2 (by kernel_rfl) _ _ (w.heap.size + 1) false (by rfl) ?_, ?_⟩
    · exact cellAtJ (heap_at _ _ (w.heap.size + 1) (by simp)) 0 _ rfl
    · exact ⟨by rw [HF.out], B2⟩
  have d0 : decide (N < 1) = false := decide_eq_false (by omega)
  have d1 : decide (256 < N) = false := decide_eq_false (by omega)
  have d2 : numN cs N = true := by simpa using q2
  have d3 : numN rs N = true := by simpa using q3
  have d4 : ((dn : Int) != (gn : Int)) = false := by simp [q4]
  have HF : Hid (wb = (posB rs && colsB ⟨N, co, cn, cc, io, dn, dc, go, gn, gc, ro, rn, rc, bad, cs, ids, gv, gs, rs⟩ (-1) (List.finRange dn))) := by unfold Hid; rw [HE.out]; simp [q0, q1, q2, q3, q4]
  have HQ4 : Hid (dn = gn) := q4
  clear HE ANw q4
  gi_wp2_with (first | (refine (⟨trivial, ?_⟩ : Fence.wide.fn 67 ∧ _); gi_at_call 67; refine (callsIn_wide.2 (areNumbers_any _ _ _ _ _ _ (by first | exact (HZ.out _ B2).c | exact (HZ.out _ B2).r))).mono ?_; rintro e w' ⟨rfl, rfl⟩) | (refine (⟨trivial, ?_⟩ : Fence.wide.fn 67 ∧ _)))
  gi_loopw [44] (fun i wr => ∃ k : Nat, k ≤ rn ∧ i = .int .i64 k ∧ wr = ((w.alloc (.cells #[.int .i64 N, .slice co cn cc, .slice io dn dc, .slice go gn gc, .slice ro rn rc, .bool bad] 43)).alloc (.cells #[.bool false] 4)) ∧ posB (rs.drop k) = posB rs) (fun i _ => rn - (intOf i).toNat)
  case atStart => exact ⟨0, Nat.zero_le _, rfl, rfl, rfl⟩
  case round =>
    obtain ⟨k, hk, rfl, hw, hps⟩ := hrel
    subst hw
    obtain ⟨hrl, hrm⟩ := HRL.out
    by_cases hlt : k < rn
    · have hR := (HZ.out _ B2).r
      dsimp only at hR
      rcases hR.cells with h0' | ⟨b, off, rfl, hc⟩
      · omega
      have g0 := hc k hlt
      have hfin := (numN_fin q3).2 _ (getD_mem (us := rs) (j := k) (by omega))
      rw [posB_drop rs (by omega)] at hps
      obtain ⟨u, hu⟩ : ∃ u, rs[k]?.getD 0 = u := ⟨_, rfl⟩
      rw [hu] at g0 hfin hps
      have hlr := lt0_ord hfin
      clear hc hu hR
      by_cases hs : srung u < 0
      · rw [decide_eq_true hs] at hlr
        have HF2 : Hid (wb = false) := by unfold Hid; rw [HF.out, ← hps]; simp [hs]
        clear hps hs hfin
        gi_wp2
        show ∃ v : Value, (results _ _).run _ _ = .ok v _ ∧ _
        refine ⟨Value.bool false, resB _ 2 (by kernel_rfl) _ _ (w.heap.size + 1) false (by rfl) ?_, ?_⟩
        · exact cellAtJ (heap_at _ _ (w.heap.size + 1) (by simp)) 0 _ rfl
        · exact ⟨by rw [HF2.out], B2⟩
      · rw [decide_eq_false hs] at hlr
        have HP : Hid (posB (rs.drop (k + 1)) = posB rs) := by unfold Hid; rw [← hps]; simp [hs]
        clear hps hs hfin
        gi_wp2
        exact ⟨⟨k + 1, by omega, by simp, trivial, HP.out⟩, by simp [intOf]; omega⟩
    · have hp1 : posB rs = true := by rw [← hps, List.drop_eq_nil_of_le (by omega)]; rfl
      have HF2 : Hid (wb = colsB ⟨N, co, cn, cc, io, dn, dc, go, gn, gc, ro, rn, rc, bad, cs, ids, gv, gs, rs⟩ (-1) (List.finRange dn)) := by unfold Hid; rw [HF.out, hp1, Bool.true_and]
      clear hps hp1 HF
      clear B2
      gi_wp2_with (first | (refine (⟨trivial, ?_⟩ : Fence.wide.fn 68 ∧ _); gi_at_call 68; refine (columns_in Fence.wide 2 trivial rfl _ rfl _).mono ?_; rintro e w' ⟨rfl, rfl⟩))
      have X0 : (((((w.alloc (.cells #[.int .i64 N, .slice co cn cc, .slice io dn dc, .slice go gn gc, .slice ro rn rc, .bool bad] 43)).alloc (.cells #[.bool false] 4))).alloc (.cells #[.int .i64 (-1)] 3)).alloc (.cells #[.int .i64 N, .slice co cn cc, .slice io dn dc, .slice go gn gc, .slice ro rn rc, .bool bad] 43)).heap[w.heap.size]? = some (.cells #[.int .i64 N, .slice co cn cc, .slice io dn dc, .slice go gn gc, .slice ro rn rc, .bool bad] 43) := alloc_kept (alloc_kept (alloc_kept (heap_alloc_new w _) _) _) _
      have X1 : (((((w.alloc (.cells #[.int .i64 N, .slice co cn cc, .slice io dn dc, .slice go gn gc, .slice ro rn rc, .bool bad] 43)).alloc (.cells #[.bool false] 4))).alloc (.cells #[.int .i64 (-1)] 3)).alloc (.cells #[.int .i64 N, .slice co cn cc, .slice io dn dc, .slice go gn gc, .slice ro rn rc, .bool bad] 43)).heap[w.heap.size + 1]? = some (.cells #[.bool false] 4) := alloc_kept (alloc_kept (heap_at _ _ (w.heap.size + 1) (by simp)) _) _
      have X2 : (((((w.alloc (.cells #[.int .i64 N, .slice co cn cc, .slice io dn dc, .slice go gn gc, .slice ro rn rc, .bool bad] 43)).alloc (.cells #[.bool false] 4))).alloc (.cells #[.int .i64 (-1)] 3)).alloc (.cells #[.int .i64 N, .slice co cn cc, .slice io dn dc, .slice go gn gc, .slice ro rn rc, .bool bad] 43)).heap[w.heap.size + 1 + 1]? = some (.cells #[.int .i64 (-1)] 3) := alloc_kept (heap_at _ _ (w.heap.size + 1 + 1) (by simp)) _
      have X3 : (((((w.alloc (.cells #[.int .i64 N, .slice co cn cc, .slice io dn dc, .slice go gn gc, .slice ro rn rc, .bool bad] 43)).alloc (.cells #[.bool false] 4))).alloc (.cells #[.int .i64 (-1)] 3)).alloc (.cells #[.int .i64 N, .slice co cn cc, .slice io dn dc, .slice go gn gc, .slice ro rn rc, .bool bad] 43)).heap[w.heap.size + 1 + 1 + 1]? = some (.cells #[.int .i64 N, .slice co cn cc, .slice io dn dc, .slice go gn gc, .slice ro rn rc, .bool bad] 43) := heap_at _ _ (w.heap.size + 1 + 1 + 1) (by simp)
      have X4 : Below w.heap.size w (((((w.alloc (.cells #[.int .i64 N, .slice co cn cc, .slice io dn dc, .slice go gn gc, .slice ro rn rc, .bool bad] 43)).alloc (.cells #[.bool false] 4))).alloc (.cells #[.int .i64 (-1)] 3)).alloc (.cells #[.int .i64 N, .slice co cn cc, .slice io dn dc, .slice go gn gc, .slice ro rn rc, .bool bad] 43)) := ((((Below.refl _ w).alloc (Nat.le_refl _) _).alloc (by simp) _).alloc (by simp; omega) _).alloc (by simp; omega) _
      obtain ⟨X, hX⟩ : ∃ X, (((((w.alloc (.cells #[.int .i64 N, .slice co cn cc, .slice io dn dc, .slice go gn gc, .slice ro rn rc, .bool bad] 43)).alloc (.cells #[.bool false] 4))).alloc (.cells #[.int .i64 (-1)] 3)).alloc (.cells #[.int .i64 N, .slice co cn cc, .slice io dn dc, .slice go gn gc, .slice ro rn rc, .bool bad] 43)) = X := ⟨_, rfl⟩
      rw [hX] at X0 X1 X2 X3 X4 ⊢
      clear hX
      have hxs := blk_lt X3
      refine wpIn_rangeFunc_ownF rfl (by decide) (gf := 74) (lb := #[.pointer (some ⟨w.heap.size + 1 + 1 + 1, 0, none⟩)]) rfl trivial (enters_of Try.func74 (by kernel_rfl) rfl)
        (cols_stops Fence.wide 2 trivial rfl (by decide) (w.heap.size + 1 + 1 + 1) ⟨N, co, cn, cc, io, dn, dc, go, gn, gc, ro, rn, rc, bad, cs, ids, gv, gs, rs⟩ (Nat.le_of_eq HQ4.out) w X X4 (HZ.out w (Below.refl _ _)) X3) KpZ.trans (kpZ_b X4.size hxs) (Below.refl _ _) (fun _ => rfl)
        (fun pre W => (W.cell? ⟨w.heap.size, 0, none⟩ = some (.int .i64 N) ∧ W.cell? ⟨w.heap.size + 1, 0, none⟩ = some (.bool false) ∧ W.frozen? ⟨w.heap.size + 1, 0, none⟩ = false ∧ W.cell? ⟨w.heap.size + 1 + 1, 0, none⟩ = some (.int .i64 (lastZ ⟨N, co, cn, cc, io, dn, dc, go, gn, gc, ro, rn, rc, bad, cs, ids, gv, gs, rs⟩ (-1) pre)) ∧ W.frozen? ⟨w.heap.size + 1 + 1, 0, none⟩ = false ∧ colsB ⟨N, co, cn, cc, io, dn, dc, go, gn, gc, ro, rn, rc, bad, cs, ids, gv, gs, rs⟩ (-1) pre = true) ∧ Below w.heap.size w W)
        (fun c pre W => (c = .ret ∧ W.cell? ⟨w.heap.size + 1, 0, none⟩ = some (.bool false) ∧ colsB ⟨N, co, cn, cc, io, dn, dc, go, gn, gc, ro, rn, rc, bad, cs, ids, gv, gs, rs⟩ (-1) pre = false) ∧ Below w.heap.size w W)
        (OwnFrom.and (Own.from (fun s A B row hs hg hr => ⟨cell_kept hs.1 hg hr, cell_kept hs.2.1 hg hr, (frozen_kept hs.2.1 hg hr).trans hs.2.2.1, cell_kept hs.2.2.2.1 hg hr, (frozen_kept hs.2.2.2.1 hg hr).trans hs.2.2.2.2.1, hs.2.2.2.2.2⟩) _) (ownFrom_below (Nat.le_refl _) X4.size))
        (fun c => OwnFrom.and (Own.from (fun s A B row hs hg hr => ⟨hs.1, cell_kept hs.2.1 hg hr, hs.2.2⟩) _) (ownFrom_below (Nat.le_refl _) X4.size))
        ⟨⟨cellAtJ X0 0 _ rfl, cellAtJ X1 0 _ rfl, frozen_of_row _ _ 0 _ _ X1, cellAtJ X2 0 _ rfl, frozen_of_row _ _ 0 _ _ X2, rfl⟩, X4⟩
        ?a1 ?assign ?body ?done ?stop
      case assign =>
        intro l x W K hK
        dsimp only [encZ]
        gi_wp2
        exact hK
      case body =>
        rintro l pre x W ⟨⟨h1, h2, h3, h4, h5, h6⟩, hB⟩ hlen
        have hzg := (HZ.out W hB).g.each x.val (Nat.lt_of_lt_of_le x.isLt (Nat.le_of_eq HQ4.out))
        dsimp only at hzg
        have HG : Hid _ := hzg
        have HC : Hid (colsB ⟨N, co, cn, cc, io, dn, dc, go, gn, gc, ro, rn, rc, bad, cs, ids, gv, gs, rs⟩ (-1) (pre ++ [x]) = colOk ⟨N, co, cn, cc, io, dn, dc, go, gn, gc, ro, rn, rc, bad, cs, ids, gv, gs, rs⟩ (lastZ ⟨N, co, cn, cc, io, dn, dc, go, gn, gc, ro, rn, rc, bad, cs, ids, gv, gs, rs⟩ (-1) pre) x) := by unfold Hid; rw [colsB_snoc, h6, Bool.true_and]
        have HL : Hid (lastZ ⟨N, co, cn, cc, io, dn, dc, go, gn, gc, ro, rn, rc, bad, cs, ids, gv, gs, rs⟩ (-1) (pre ++ [x]) = ids[x.val]?.getD 0) := lastZ_snoc _ _ _ _
        have HO : Hid (colOk ⟨N, co, cn, cc, io, dn, dc, go, gn, gc, ro, rn, rc, bad, cs, ids, gv, gs, rs⟩ (lastZ ⟨N, co, cn, cc, io, dn, dc, go, gn, gc, ro, rn, rc, bad, cs, ids, gv, gs, rs⟩ (-1) pre) x = (decide (lastZ ⟨N, co, cn, cc, io, dn, dc, go, gn, gc, ro, rn, rc, bad, cs, ids, gv, gs, rs⟩ (-1) pre < ids[x.val]?.getD 0) && decide (ids[x.val]?.getD 0 ≤ 1073741824) && numN (gs[x.val]?.getD []) N)) := rfl
        have H6 : Hid _ := h6
        clear hzg h6
        generalize lastZ ⟨N, co, cn, cc, io, dn, dc, go, gn, gc, ro, rn, rc, bad, cs, ids, gv, gs, rs⟩ (-1) pre = la at h4 HC HO
        generalize ids[x.val]?.getD 0 = id at HL HO ⊢
        by_cases p1 : id ≤ la
        · have d1 : decide (id ≤ la) = true := decide_eq_true p1
          have HX : Hid (colsB ⟨N, co, cn, cc, io, dn, dc, go, gn, gc, ro, rn, rc, bad, cs, ids, gv, gs, rs⟩ (-1) (pre ++ [x]) = false) := by unfold Hid; rw [HC.out, HO.out]; simp [Int.not_lt.2 p1]
          clear HC HO HL H6
          gi_wp2_with (first | (refine (⟨trivial, ?_⟩ : (Fence.inRound Fence.wide l).fn 67 ∧ _); gi_at_call 67; refine (CallsIn.inRound l (callsIn_wide.2 (areNumbers_any _ _ _ _ _ _ HG.out))).mono ?_; rintro e w' ⟨rfl, hw⟩; rw [hw]; clear hw) | (refine (⟨trivial, ?_⟩ : (Fence.inRound Fence.wide l).fn 67 ∧ _)))
          exact ⟨KeepsOthers.setCell _ _ _, ⟨rfl, World.cell?_setCell_same' _ _ _ (by rw [h2]; rfl), HX.out⟩, hB.setCell (p := ⟨w.heap.size + 1, 0, none⟩) (by simp) _⟩
        have d1 : decide (id ≤ la) = false := decide_eq_false p1
        by_cases p2 : 1073741824 < id
        · have d2 : decide (1073741824 < id) = true := decide_eq_true p2
          have HX : Hid (colsB ⟨N, co, cn, cc, io, dn, dc, go, gn, gc, ro, rn, rc, bad, cs, ids, gv, gs, rs⟩ (-1) (pre ++ [x]) = false) := by unfold Hid; rw [HC.out, HO.out]; simp [Int.not_le.2 p2]
          clear HC HO HL H6
          gi_wp2_with (first | (refine (⟨trivial, ?_⟩ : (Fence.inRound Fence.wide l).fn 67 ∧ _); gi_at_call 67; refine (CallsIn.inRound l (callsIn_wide.2 (areNumbers_any _ _ _ _ _ _ HG.out))).mono ?_; rintro e w' ⟨rfl, hw⟩; rw [hw]; clear hw) | (refine (⟨trivial, ?_⟩ : (Fence.inRound Fence.wide l).fn 67 ∧ _)))
          exact ⟨KeepsOthers.setCell _ _ _, ⟨rfl, World.cell?_setCell_same' _ _ _ (by rw [h2]; rfl), HX.out⟩, hB.setCell (p := ⟨w.heap.size + 1, 0, none⟩) (by simp) _⟩
        have d2 : decide (1073741824 < id) = false := decide_eq_false p2
        by_cases p3 : numN (gs[x.val]?.getD []) N = true
        case neg =>
          have d3 : numN (gs[x.val]?.getD []) N = false := by simpa using p3
          have HX : Hid (colsB ⟨N, co, cn, cc, io, dn, dc, go, gn, gc, ro, rn, rc, bad, cs, ids, gv, gs, rs⟩ (-1) (pre ++ [x]) = false) := by unfold Hid; rw [HC.out, HO.out]; simp [d3]
          clear HC HO HL H6
          gi_wp2_with (first | (refine (⟨trivial, ?_⟩ : (Fence.inRound Fence.wide l).fn 67 ∧ _); gi_at_call 67; refine (CallsIn.inRound l (callsIn_wide.2 (areNumbers_any _ _ _ _ _ _ HG.out))).mono ?_; rintro e w' ⟨rfl, hw⟩; rw [hw]; clear hw) | (refine (⟨trivial, ?_⟩ : (Fence.inRound Fence.wide l).fn 67 ∧ _)))
          exact ⟨KeepsOthers.setCell _ _ _, ⟨rfl, World.cell?_setCell_same' _ _ _ (by rw [h2]; rfl), HX.out⟩, hB.setCell (p := ⟨w.heap.size + 1, 0, none⟩) (by simp) _⟩
        have HX : Hid (colsB ⟨N, co, cn, cc, io, dn, dc, go, gn, gc, ro, rn, rc, bad, cs, ids, gv, gs, rs⟩ (-1) (pre ++ [x]) = true) := by unfold Hid; rw [HC.out, HO.out, decide_eq_true (show la < id by omega), decide_eq_true (show id ≤ 1073741824 by omega), p3]; rfl
        clear HC HO H6
        gi_wp2_with (first | (refine (⟨trivial, ?_⟩ : (Fence.inRound Fence.wide l).fn 67 ∧ _); gi_at_call 67; refine (CallsIn.inRound l (callsIn_wide.2 (areNumbers_any _ _ _ _ _ _ HG.out))).mono ?_; rintro e w' ⟨rfl, hw⟩; rw [hw]; clear hw) | (refine (⟨trivial, ?_⟩ : (Fence.inRound Fence.wide l).fn 67 ∧ _)))
        exact ⟨KeepsOthers.setCell _ _ _, ⟨(Below.refl w.heap.size W).setCell (p := ⟨w.heap.size + 1 + 1, 0, none⟩) (by simp; omega) _, heap_setCell_other W ⟨w.heap.size + 1 + 1, 0, none⟩ _ _ (by simp)⟩, ⟨cell_setJ (by show w.heap.size ≠ w.heap.size + 1 + 1; omega) h1, cell_setJ (by show w.heap.size + 1 ≠ w.heap.size + 1 + 1; omega) h2, by rw [World.frozen?_setCell]; exact h3, by rw [HL.out]; exact World.cell?_setCell_same' _ _ _ (by rw [h4]; rfl), by rw [World.frozen?_setCell]; exact h5, HX.out⟩, hB.setCell (p := ⟨w.heap.size + 1 + 1, 0, none⟩) (by simp; omega) _⟩
      case done =>
        rintro D ys W hD rfl ⟨⟨h1, h2, h3, h4, h5, h6⟩, hB⟩ hK
        have HT : Hid (wb = true) := HF2.out.trans h6
        gi_wp2
        have hK' := (KeepsOthers.setCell W ⟨w.heap.size + 1, 0, none⟩ (.bool true)).same D _ hK rfl
        refine ⟨by simp, .inl ⟨_, _, rfl, run_takeDeferred hK', ?_⟩⟩
        have hc5 := cell_kept (World.cell?_setCell_same' W ⟨w.heap.size + 1, 0, none⟩ (.bool true) (by rw [h2]; rfl)) (grownBy_putObj' _ D (.deferred none)) (fun r e => by cases e; exact ⟨_, hK', rfl⟩)
        refine ⟨Value.bool true, resB _ 2 (by kernel_rfl) _ _ (w.heap.size + 1) true (by rfl) hc5, by rw [HT.out], (hB.setCell (p := ⟨w.heap.size + 1, 0, none⟩) (by simp) _).trans (belowK_b (w := w) (Nat.le_refl _) _ D _ _ (by have := X4.size; omega) hK' rfl rfl)⟩
      case stop =>
        rintro D c pre W hD ⟨k, hk, rfl⟩ ⟨⟨rfl, hr, hf⟩, hB⟩ hK
        have HT : Hid (wb = false) := by
          unfold Hid
          rw [HF2.out]
          have e : List.finRange dn = uptoZ ⟨N, co, cn, cc, io, dn, dc, go, gn, gc, ro, rn, rc, bad, cs, ids, gv, gs, rs⟩ k ++ (List.finRange dn).drop k := (List.take_append_drop k (List.finRange dn)).symm
          rw [e]
          exact colsB_append _ _ _ _ hf
        gi_wp2
        refine ⟨by simp, .inl ⟨_, _, rfl, run_takeDeferred hK, ?_⟩⟩
        have hc5 := cell_kept hr (grownBy_putObj' _ D (.deferred none)) (fun r e => by cases e; exact ⟨_, hK, rfl⟩)
        refine ⟨Value.bool false, resB _ 2 (by kernel_rfl) _ _ (w.heap.size + 1) false (by rfl) hc5, by rw [HT.out], hB.trans (belowK_b (w := w) (Nat.le_refl _) W D _ _ (by have := X4.size; omega) hK rfl rfl)⟩
end Go.Proofs.Ytcpbccckjlnkaaa

namespace Go.Proofs.Ytcpbccckjlnkaaa
open Go.RowKit
set_option linter.unusedVariables false

def checkB (z : ZD) : Bool := if z.bad then bareB z else wholeB z
theorem cells6 {W : World} {B : Nat} {v0 v1 v2 v3 v4 v5 : Value} {t : TypeId} (h : W.heap[B]? = some (.cells #[v0, v1, v2, v3, v4, v5] t)) :
    W.cell? ⟨B, 0, none⟩ = some v0 ∧ W.cell? ⟨B, 1, none⟩ = some v1 ∧ W.cell? ⟨B, 2, none⟩ = some v2 ∧ W.cell? ⟨B, 3, none⟩ = some v3 ∧ W.cell? ⟨B, 4, none⟩ = some v4 ∧ W.cell? ⟨B, 5, none⟩ = some v5 :=
  ⟨cellAtJ h 0 _ rfl, cellAtJ h 1 _ rfl, cellAtJ h 2 _ rfl, cellAtJ h 3 _ rfl, cellAtJ h 4 _ rfl, cellAtJ h 5 _ rfl⟩
set_option maxRecDepth 100000 in
set_option maxHeartbeats 2000000 in
theorem check_any (z : ZD) (w : World) (hz : ZR w z) : Calls Try.prog 33 #[.agg #[.int .i64 z.N, .slice z.co z.cn z.cc, .slice z.io z.dn z.dc, .slice z.go z.gn z.gc, .slice z.ro z.rn z.rc, .bool z.bad]] w fun e w' => e = .returned (.int .i64 (if checkB z then 0 else 100)) ∧ Below w.heap.size w w' := by
  have HZ : Hid (∀ W', Below w.heap.size w W' → ZR W' z) := fun W' hb => hz.later hb
  obtain ⟨bb, hbb⟩ : ∃ bb, bareB z = bb := ⟨_, rfl⟩
  obtain ⟨wb, hwb⟩ : ∃ wb, wholeB z = wb := ⟨_, rfl⟩
  have HBa : Hid (∀ W, Calls Try.prog 50 #[.agg #[.int .i64 z.N, .slice z.co z.cn z.cc, .slice z.io z.dn z.dc, .slice z.go z.gn z.gc, .slice z.ro z.rn z.rc, .bool z.bad]] W fun e w' => e = .returned (.bool bb) ∧ Below W.heap.size W w') := fun W => hbb ▸ isBare_any z W
  have HWh : Hid (∀ W, Below w.heap.size w W → Calls Try.prog 51 #[.agg #[.int .i64 z.N, .slice z.co z.cn z.cc, .slice z.io z.dn z.dc, .slice z.go z.gn z.gc, .slice z.ro z.rn z.rc, .bool z.bad]] W fun e w' => e = .returned (.bool wb) ∧ Below W.heap.size W w') := fun W hb => hwb ▸ isWhole_any z W (HZ.out W hb)
  have HC : Hid (checkB z = if z.bad then bb else wb) := by unfold Hid checkB; rw [hbb, hwb]
  clear hbb hwb hz HZ
  obtain ⟨N, co, cn, cc, io, dn, dc, go, gn, gc, ro, rn, rc, bad, cs, ids, gv, gs, rs⟩ := z
  dsimp only at HBa HWh HC ⊢
  have X0 : Below w.heap.size w (w.alloc (.cells #[.int .i64 N, .slice co cn cc, .slice io dn dc, .slice go gn gc, .slice ro rn rc, .bool bad] 43)) := (Below.refl _ w).alloc (Nat.le_refl _) _
  cases bad with
  | true =>
    cases bb with
    | true =>
      rw [HC.out]
      go_enter Try.func33, Try.ntmps33
      go_wp2_with (first | (go_at_call 50; refine Calls.mono (HBa.out _) ?_; rintro e w1 ⟨rfl, hb⟩))
      go_ret
      exact ⟨rfl, to_call X0 hb⟩
    | false =>
      rw [HC.out]
      go_enter Try.func33, Try.ntmps33
      go_wp2_with (first | (go_at_call 50; refine Calls.mono (HBa.out _) ?_; rintro e w1 ⟨rfl, hb⟩; have c5 := (cells6 (kept hb (heap_alloc_new w _))).2.2.2.2.2))
      go_ret
      exact ⟨rfl, to_call X0 hb⟩
  | false =>
    cases wb with
    | true =>
      rw [HC.out]
      go_enter Try.func33, Try.ntmps33
      go_wp2_with (first | (go_at_call 51; refine Calls.mono (HWh.out _ X0) ?_; rintro e w1 ⟨rfl, hb⟩))
      go_ret
      exact ⟨rfl, to_call X0 hb⟩
    | false =>
      rw [HC.out]
      go_enter Try.func33, Try.ntmps33
      go_wp2_with (first | (go_at_call 51; refine Calls.mono (HWh.out _ X0) ?_; rintro e w1 ⟨rfl, hb⟩))
      go_ret
      exact ⟨rfl, to_call X0 hb⟩
end Go.Proofs.Ytcpbccckjlnkaaa

namespace Go.Proofs.Ytcpbccckjlnkaaa
open Go.RowKit
set_option linter.unusedVariables false
set_option linter.unusedSimpArgs false

theorem Try.infoZ : (Try.prog.info? 43).map (·.size) = some 6 := by kernel_rfl
end Go.Proofs.Ytcpbccckjlnkaaa

