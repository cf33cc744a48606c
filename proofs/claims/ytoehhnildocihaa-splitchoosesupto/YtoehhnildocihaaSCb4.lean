import Derived.Test.YtoehhnildocihaaSCb3
import Ieee.Arith
import Derived.Test.YtoehhnildocihaaChecked
import Derived.WalkKit
import Derived.WalkSmall
import Derived.WalkLawsBesides
import Derived.Lib.EndianBits
import Derived.Laws.Bits128
import Derived.Laws.BitsAll
import Derived.BigQuiet
import Derived.RangeFuncNested
import Derived.RangeFuncBound
import Derived.RangeFuncCalls
import Derived.RangeFuncLeaves
import Derived.RangeFuncFrom
import Derived.RangeFuncWrites
import Derived.Shelf.Abstract
import Derived.Shelf.RegionOpen
import Derived.OwnWalkIn
import Derived.TacticsInMore
import Derived.LoopNIn
import Derived.LoopIn
import Derived.Deep.WholeRow
import Derived.Deep.MidRow
import Derived.Laws.CopyOwn
import Derived.Deep.RegionHeld3
import Derived.Laws.OwnMore
import Derived.OneCell
import Derived.Deep.RegionWith
import Derived.Deep.DeepCutAuto
import Derived.Deep.QuietTactic
import Derived.Laws.Externs
import Derived.Deep.DeepMust
import Derived.BigRegion
import Derived.ArgAppend
import Derived.OwnWalk
import Derived.Orders
import Derived.RegionTactic
import Derived.Below
import Derived.Deep.CutRange
import Derived.Laws.AppendOwnNone
import Derived.Test.YtoehhnildocihaaRows
import Derived.Deep.Slices
import Derived.OpenShut
import Derived.Lib.SmallJoins
import Derived.ChangeSame
namespace Go.Proofs.Ytoehhnildocihaa
open Go.RowKit Go.Shelf
set_option linter.unusedVariables false
set_option linter.unusedSimpArgs false
/-- No word of a number lies in the box of the reals. -/
theorem rl_cl {w : World} {D : Nat} {N : Int} {a b c d : Value} (ha : noU a = true) (hb : noU b = true) (hc : noU c = true) (hd : noU d = true) (h : w.heap[D]? = some (.cells #[.int .i64 N, a, b, c, d] 82)) : Cl noU w D := by
  refine ⟨_, _, h, fun i v hv => ?_⟩
  match i, hv with
  | 0, hv => cases hv; rfl
  | 1, hv => cases hv; exact ha
  | 2, hv => cases hv; exact hb
  | 3, hv => cases hv; exact hc
  | 4, hv => cases hv; exact hd
theorem own_noU {w : World} {E : TypeId} {base size n : Nat} {v : Value} {xs : List Value} (h : w.ownsRow base E size v n xs) : noU v = true := by
  rcases h.2 with ⟨rfl, _⟩ | ⟨g, cap, cur, rfl, _⟩ <;> rfl
theorem rdGu_at {w : World} {b off len cap : Nat} {gv : Nat → Option Addr × Nat × Nat} {gs : List (List Nat)} (h : RdGu w (some ⟨b, off, none⟩) len cap gv gs) {k : Nat} (hk : k < len) : w.cell? ⟨b, off + k, none⟩ = some (.slice (gv k).1 (gv k).2.1 (gv k).2.2) := by
  rcases h.cells with h0 | ⟨b', off', e, hc⟩
  · omega
  · cases e
    exact hc k hk
theorem dec2_false {p q : Prop} [Decidable p] [Decidable q] (h : ¬ (p ∧ q)) : (decide p && decide q) = false := by
  by_cases hp : p
  · have hq : ¬ q := fun hq => h ⟨hp, hq⟩
    rw [decide_eq_false hq, Bool.and_false]
  · rw [decide_eq_false hp, Bool.false_and]
theorem Try.infoNsJ : (Try.prog.info? 77).map (fun i => (i.zero, i.size, i.bytes)) = some (some (.slice none 0 0), 1, 24) := by kernel_rfl
theorem take_snocI {us : List Int} {k : Nat} (h : k < us.length) : us.take (k + 1) = us.take k ++ [us[k]?.getD 0] := by
  rw [List.take_succ_eq_append_getElem h, List.getElem?_eq_getElem h]; rfl
theorem lastZ_ge (z : ZD) : ∀ k, k ≤ z.dn → colsB z (-1) (uptoZ z k) = true → -1 ≤ lastZ z (-1) (uptoZ z k)
  | 0, _, _ => Int.le_refl _
  | k + 1, hk, h => by
    rw [uptoZ_succ z k (by omega), colsB_snoc, Bool.and_eq_true] at h
    have ih := lastZ_ge z k (by omega) h.1
    rw [uptoZ_succ z k (by omega), lastZ_snoc]
    have h2 := h.2
    unfold colOk at h2
    simp only [Bool.and_eq_true, decide_eq_true_eq] at h2
    omega
theorem lastZ_at (z : ZD) (k : Nat) (hk : k ≤ z.dn) : (k = 0 → lastZ z (-1) (uptoZ z k) = -1) ∧ (0 < k → lastZ z (-1) (uptoZ z k) = z.ids[k - 1]?.getD 0) := by
  refine ⟨fun h => by subst h; rfl, fun h => ?_⟩
  obtain ⟨j, rfl⟩ : ∃ j, k = j + 1 := ⟨k - 1, by omega⟩
  rw [uptoZ_succ z j (by omega), lastZ_snoc]
  rfl
set_option maxRecDepth 100000 in
set_option maxHeartbeats 8000000 in
theorem reals_yes (n : Nat) (co : Option Addr) (cn cc : Nat) (io : Option Addr) (dn dc : Nat) (go : Option Addr) (gc : Nat) (ro : Option Addr) (rn rc : Nat) (cs : List Nat) (ids : List Int) (gv : Nat → Option Addr × Nat × Nat) (gs : List (List Nat)) (rs : List Nat) (E : Nat) (hE : E = 1074) (w : World) (hu : ZU w ⟨(n : Int), co, cn, cc, io, dn, dc, go, dn, gc, ro, rn, rc, false, cs, ids, gv, gs, rs⟩) (hn : 1 ≤ n ∧ n ≤ 256)
    (hcl : cn ≤ 1050000) (hrl : rn ≤ 1050000) (hil : dn ≤ 1050000) (hll : ∀ k, k < dn → (gv k).2.1 ≤ 1050000) (hc64 : ∀ x ∈ cs, x < 18446744073709551616) (hr64 : ∀ x ∈ rs, x < 18446744073709551616) (hg64 : ∀ l ∈ gs, ∀ x ∈ l, x < 18446744073709551616) :
    Calls Try.prog 34 #[.agg #[.int .i64 (n : Int), .slice co cn cc, .slice io dn dc, .slice go dn gc, .slice ro rn rc, .bool false]] w fun e w' => (∃ N' a1 l1 c1 a2 l2 c2 a3 l3 c3 a4 l4 c4, e = .returned (.tuple #[.agg #[.int .i64 N', .slice a1 l1 c1, .slice a2 l2 c2, .slice a3 l3 c3, .slice a4 l4 c4], .bool (wholeB ⟨(n : Int), co, cn, cc, io, dn, dc, go, dn, gc, ro, rn, rc, false, cs, ids, gv, gs, rs⟩)]) ∧ ((wholeB ⟨(n : Int), co, cn, cc, io, dn, dc, go, dn, gc, ro, rn, rc, false, cs, ids, gv, gs, rs⟩) = true → N' = (n : Int) ∧ ∃ gl, RlS w' w.heap.size E cs rs ids gs (.slice a1 l1 c1) (.slice a4 l4 c4) (.slice a2 l2 c2) (.slice a3 l3 c3) gl)) ∧ Below w.heap.size w w' := by
  have HU : Hid (∀ W', Below w.heap.size w W' → ZU W' ⟨(n : Int), co, cn, cc, io, dn, dc, go, dn, gc, ro, rn, rc, false, cs, ids, gv, gs, rs⟩) := fun W' hb => hu.later hb
  have HNC : Hid (∀ W', Below w.heap.size w W' → _) := fun W' hb => numbers10_any co cn cc cs (n : Int) E hE W' (hu.later hb).c hc64 hcl
  have HNR : Hid (∀ W', Below w.heap.size w W' → _) := fun W' hb => numbers10_any ro rn rc rs (n : Int) E hE W' (hu.later hb).r hr64 hrl
  have HNG : Hid (∀ k, k < dn → ∀ W', Below w.heap.size w W' → _) := fun k hk W' hb => numbers10_any (gv k).1 (gv k).2.1 (gv k).2.2 (gs[k]?.getD []) (n : Int) E hE W' ((hu.later hb).g.each k hk) (fun x hx => hg64 _ (by have := hu.g.length; rw [List.getElem?_eq_getElem (by dsimp only at this; omega)]; exact List.getElem_mem _) x hx) (hll k hk)
  have HW : Hid (wholeB ⟨(n : Int), co, cn, cc, io, dn, dc, go, dn, gc, ro, rn, rc, false, cs, ids, gv, gs, rs⟩ = (numN cs (n : Int) && numN rs (n : Int) && posB rs && colsB ⟨(n : Int), co, cn, cc, io, dn, dc, go, dn, gc, ro, rn, rc, false, cs, ids, gv, gs, rs⟩ (-1) (List.finRange dn))) := by
    unfold Hid wholeB
    dsimp only
    rw [decide_eq_true (p := 1 ≤ (n : Int)) (by omega), decide_eq_true (p := (n : Int) ≤ 256) (by omega), decide_eq_true (p := dn = dn) rfl]
    simp only [Bool.true_and, Bool.and_true]
  obtain ⟨okv, hok⟩ : ∃ okv, wholeB ⟨(n : Int), co, cn, cc, io, dn, dc, go, dn, gc, ro, rn, rc, false, cs, ids, gv, gs, rs⟩ = okv := ⟨_, rfl⟩
  rw [hok] at HW ⊢
  obtain ⟨cb, hcb⟩ : ∃ cb, numN cs (n : Int) = cb := ⟨_, rfl⟩
  obtain ⟨rb, hrb⟩ : ∃ rb, numN rs (n : Int) = rb := ⟨_, rfl⟩
  have HNL : Hid ((cb = true → cs.length = n) ∧ (rb = true → rs.length = n)) := ⟨fun h => by have := (numN_fin (hcb.trans h)).1; omega, fun h => by have := (numN_fin (hrb.trans h)).1; omega⟩
  have HRF : Hid (rb = true → ∀ x ∈ rs, Fin x) := fun h => (numN_fin (hrb.trans h)).2
  rw [hcb] at HW
  rw [hrb] at HW
  have HCB : Hid _ := hcb
  have HRB : Hid _ := hrb
  have HLI : Hid (ids.length = dn ∧ gs.length = dn) := ⟨hu.i.length, hu.g.length⟩
  clear hok hcb hrb hu hc64 hr64 hg64 hcl hrl hll
  have d1 : decide ((n : Int) < 1) = false := decide_eq_false (by omega)
  have d1' : decide (n < 1) = false := decide_eq_false (by omega)
  have d2 : decide (256 < (n : Int)) = false := decide_eq_false (by omega)
  have d2' : decide (256 < n) = false := decide_eq_false (by omega)
  have X0 : Below w.heap.size w (((w.alloc (.cells #[.int .i64 (n : Int), .slice co cn cc, .slice io dn dc, .slice go dn gc, .slice ro rn rc, .bool false] 39)).alloc (.cells #[.int .i64 0, .slice none 0 0, .slice none 0 0, .slice none 0 0, .slice none 0 0] 82)).alloc (.cells #[.int .i64 (n : Int), .slice none 0 0, .slice none 0 0, .slice none 0 0, .slice none 0 0] 82)) := (((Below.refl _ w).alloc (Nat.le_refl _) _).alloc (by simp only [alloc_size]; omega) _).alloc (by simp only [alloc_size]; omega) _
  have Y0 : (((w.alloc (.cells #[.int .i64 (n : Int), .slice co cn cc, .slice io dn dc, .slice go dn gc, .slice ro rn rc, .bool false] 39)).alloc (.cells #[.int .i64 0, .slice none 0 0, .slice none 0 0, .slice none 0 0, .slice none 0 0] 82)).alloc (.cells #[.int .i64 (n : Int), .slice none 0 0, .slice none 0 0, .slice none 0 0, .slice none 0 0] 82)).heap[w.heap.size]? = some (.cells #[.int .i64 (n : Int), .slice co cn cc, .slice io dn dc, .slice go dn gc, .slice ro rn rc, .bool false] 39) := alloc_kept (alloc_kept (heap_alloc_new w _) _) _
  have Y1 : (((w.alloc (.cells #[.int .i64 (n : Int), .slice co cn cc, .slice io dn dc, .slice go dn gc, .slice ro rn rc, .bool false] 39)).alloc (.cells #[.int .i64 0, .slice none 0 0, .slice none 0 0, .slice none 0 0, .slice none 0 0] 82)).alloc (.cells #[.int .i64 (n : Int), .slice none 0 0, .slice none 0 0, .slice none 0 0, .slice none 0 0] 82)).heap[w.heap.size + 1]? = some (.cells #[.int .i64 0, .slice none 0 0, .slice none 0 0, .slice none 0 0, .slice none 0 0] 82) := alloc_kept (heap_at _ _ (w.heap.size + 1) (by simp only [alloc_size])) _
  have Y2 : (((w.alloc (.cells #[.int .i64 (n : Int), .slice co cn cc, .slice io dn dc, .slice go dn gc, .slice ro rn rc, .bool false] 39)).alloc (.cells #[.int .i64 0, .slice none 0 0, .slice none 0 0, .slice none 0 0, .slice none 0 0] 82)).alloc (.cells #[.int .i64 (n : Int), .slice none 0 0, .slice none 0 0, .slice none 0 0, .slice none 0 0] 82)).heap[w.heap.size + 1 + 1]? = some (.cells #[.int .i64 (n : Int), .slice none 0 0, .slice none 0 0, .slice none 0 0, .slice none 0 0] 82) := heap_at _ _ (w.heap.size + 1 + 1) (by simp only [alloc_size])
  go_enter Try.func34, Try.ntmps34
  go_upto_region 4 with fail
  clear d1 d1' d2 d2'
  obtain ⟨X, hX⟩ : ∃ X, (((w.alloc (.cells #[.int .i64 (n : Int), .slice co cn cc, .slice io dn dc, .slice go dn gc, .slice ro rn rc, .bool false] 39)).alloc (.cells #[.int .i64 0, .slice none 0 0, .slice none 0 0, .slice none 0 0, .slice none 0 0] 82)).alloc (.cells #[.int .i64 (n : Int), .slice none 0 0, .slice none 0 0, .slice none 0 0, .slice none 0 0] 82)) = X := ⟨_, rfl⟩
  rw [hX] at X0 Y0 Y1 Y2 ⊢
  clear hX
  obtain ⟨D, hD⟩ : ∃ D, w.heap.size + 1 + 1 = D := ⟨_, rfl⟩
  rw [hD] at Y2 ⊢
  have hDl : w.heap.size ≤ D := by omega
  have hDz : w.heap.size ≠ D := by omega
  have hD1 : w.heap.size + 1 ≠ D := by omega
  clear hD
  obtain ⟨z0, z1, z2, z3, z4, z5⟩ := cells6 Y0
  have P0 : Hid ((X.heap[w.heap.size]? = some (.cells #[.int .i64 (n : Int), .slice co cn cc, .slice io dn dc, .slice go dn gc, .slice ro rn rc, .bool false] 39) ∧ X.heap[w.heap.size + 1]? = some (.cells #[.int .i64 0, .slice none 0 0, .slice none 0 0, .slice none 0 0, .slice none 0 0] 82) ∧ Below w.heap.size w X) ∧ X.heap[D]? = some (.cells #[.int .i64 (n : Int), .slice none 0 0, .slice none 0 0, .slice none 0 0, .slice none 0 0] 82)) := ⟨⟨Y0, Y1, X0⟩, Y2⟩
  clear X0 Y0 Y1 Y2
  go_upto_region 6 with (first
    | (go_at_call_of 56 (Value.slice co cn cc); refine Calls.mono (HNC.out _ P0.out.1.2.2) ?_; rintro e w1 ⟨⟨v1, rfl, r1⟩, b1⟩; rw [HCB.out] at r1 ⊢; obtain ⟨y0, y1, y2, y3, y4, y5⟩ := cells6 (kept b1 P0.out.1.1); clear z0 z1 z2 z3 z4 z5)
    | (go_at_call_of 56 (Value.slice ro rn rc); refine Calls.mono (HNR.out _ (to_call P0.out.1.2.2 b1)) ?_; rintro e w2 ⟨⟨v2, rfl, r2⟩, b2⟩; rw [HRB.out] at r2 ⊢; clear y0 y1 y2 y3 y4 y5))
  have b12 := to_call b1 b2
  have P2 : Hid ((w2.heap[w.heap.size]? = some (.cells #[.int .i64 (n : Int), .slice co cn cc, .slice io dn dc, .slice go dn gc, .slice ro rn rc, .bool false] 39) ∧ w2.heap[w.heap.size + 1]? = some (.cells #[.int .i64 0, .slice none 0 0, .slice none 0 0, .slice none 0 0, .slice none 0 0] 82) ∧ Below w.heap.size w w2) ∧ w2.heap[D]? = some (.cells #[.int .i64 (n : Int), .slice none 0 0, .slice none 0 0, .slice none 0 0, .slice none 0 0] 82)) := ⟨⟨kept b12 P0.out.1.1, kept b12 P0.out.1.2.1, to_call P0.out.1.2.2 b12⟩, kept b12 P0.out.2⟩
  have R2 : Hid ((cb = true → RowN w2 w.heap.size v1 E cs) ∧ (rb = true → RowN w2 w.heap.size v2 E rs)) := ⟨fun h => ((r1 h).mono P0.out.1.2.2.size).later b2, fun h => (r2 h).mono (to_call P0.out.1.2.2 b1).size⟩
  clear P0 r1 r2 b1 b2 b12 HNC HNR HCB HRB
  cases cb
  case false =>
    have HF : Hid (okv = false) := by unfold Hid; rw [HW.out]; rfl
    clear HW R2 HNG HU
    go_wp2_with (first | (refine wpList_store_row (by rfl) 82 _ _ (by rfl) w w.heap.size (w.heap.size + 1) #[.int .i64 0, .slice none 0 0, .slice none 0 0, .slice none 0 0, .slice none 0 0] _ (by rfl) (by rfl) P2.out.1.2.1 P2.out.1.2.2 (Nat.le_succ _) 5 Try.infoRl (by rfl) (by rfl) (oneRl _ _ _ _ _ rfl rfl rfl rfl) ?_; intro W9 e9 b9 s9 o9))
    refine bodyPost_ret (res_ctJ _ 2 3 82 (by kernel_rfl) _ _ (w.heap.size + 1) _ _ (by rfl) (by rfl) _ Try.underlying82 rfl 5 Try.infoRl rfl e9) rfl ?_
    exact ⟨⟨0, none, 0, 0, none, 0, 0, none, 0, 0, none, 0, 0, by rw [HF.out]; rfl, fun h => by rw [HF.out] at h; cases h⟩, b9⟩
  case true =>
  cases rb
  case false =>
    have HF : Hid (okv = false) := by unfold Hid; rw [HW.out]; rfl
    clear HW R2 HNG HU
    go_wp2_with (first | (refine wpList_store_row (by rfl) 82 _ _ (by rfl) w w.heap.size (w.heap.size + 1) #[.int .i64 0, .slice none 0 0, .slice none 0 0, .slice none 0 0, .slice none 0 0] _ (by rfl) (by rfl) P2.out.1.2.1 P2.out.1.2.2 (Nat.le_succ _) 5 Try.infoRl (by rfl) (by rfl) (oneRl _ _ _ _ _ rfl rfl rfl rfl) ?_; intro W9 e9 b9 s9 o9))
    refine bodyPost_ret (res_ctJ _ 2 3 82 (by kernel_rfl) _ _ (w.heap.size + 1) _ _ (by rfl) (by rfl) _ Try.underlying82 rfl 5 Try.infoRl rfl e9) rfl ?_
    exact ⟨⟨0, none, 0, 0, none, 0, 0, none, 0, 0, none, 0, 0, by rw [HF.out]; rfl, fun h => by rw [HF.out] at h; cases h⟩, b9⟩
  case true =>
  have NC := R2.out.1 rfl
  have NR := R2.out.2 rfl
  have ecs := HNL.out.1 rfl
  have ers := HNL.out.2 rfl
  obtain ⟨vca, vcc, hv1⟩ := NC.form
  subst hv1
  obtain ⟨vrb, vrc, hv2, -⟩ := NR.at (k := 0) (by rw [ers]; omega)
  subst hv2
  rw [ecs] at NC
  rw [ers] at NR
  rw [ecs, ers]
  have S2 : Hid _ := And.intro NC NR
  have HLR : Hid (cs.length = n ∧ rs.length = n) := ⟨ecs, ers⟩
  clear NC NR R2 ecs ers HNL
  have fC : Cl noU w2 D := rl_cl rfl rfl rfl rfl P2.out.2
  have fR := HRF.out rfl
  go_upto_region 10 with (first
    | (refine wpList_store_at (by rfl) 77 _ _ (by rfl) w w.heap.size D 1 (.slice vca n vcc) _ #[.int .i64 (n : Int), (.slice vca n vcc), .slice none 0 0, .slice none 0 0, .slice none 0 0] 82 (by rfl) (by rfl) P2.out.2 P2.out.1.2.2 hDl 1 Try.szNs (by rfl) (Nat.le_of_ble_eq_true rfl) (oneI _ rfl) (by rfl) ?_; intro w3 e3 b3 s3 k3)
    | (refine wpList_store_at (by rfl) 77 _ _ (by rfl) w w.heap.size D 4 (.slice (some ⟨vrb, 0, none⟩) n vrc) _ #[.int .i64 (n : Int), (.slice vca n vcc), .slice none 0 0, .slice none 0 0, (.slice (some ⟨vrb, 0, none⟩) n vrc)] 82 (by rfl) (by rfl) e3 b3 hDl 1 Try.szNs (by rfl) (Nat.le_of_ble_eq_true rfl) (oneI _ rfl) (by rfl) ?_; intro w4 e4 b4 s4 k4))
  have kk4 : ∀ k, k ≠ D → w4.heap[k]? = w2.heap[k]? := fun k hk => (k4 k hk).trans (k3 k hk)
  have P4 : Hid ((w4.heap[w.heap.size]? = some (.cells #[.int .i64 (n : Int), .slice co cn cc, .slice io dn dc, .slice go dn gc, .slice ro rn rc, .bool false] 39) ∧ w4.heap[w.heap.size + 1]? = some (.cells #[.int .i64 0, .slice none 0 0, .slice none 0 0, .slice none 0 0, .slice none 0 0] 82) ∧ Below w.heap.size w w4) ∧ w4.heap[D]? = some (.cells #[.int .i64 (n : Int), (.slice vca n vcc), .slice none 0 0, .slice none 0 0, (.slice (some ⟨vrb, 0, none⟩) n vrc)] 82) ∧ RowN w4 w.heap.size (.slice vca n vcc) E cs ∧ RowN w4 w.heap.size (.slice (some ⟨vrb, 0, none⟩) n vrc) E rs) := ⟨⟨(kk4 _ hDz).trans P2.out.1.1, (kk4 _ hD1).trans P2.out.1.2.1, b4⟩, e4, S2.out.1.box (by decide) P2.out.2 fC kk4, S2.out.2.box (by decide) P2.out.2 fC kk4⟩
  clear P2 S2 fC kk4 e3 b3 s3 k3 e4 b4 s4 k4
  go_wp2_with fail
  go_loopg [9] n (fun g iv wx => ∃ k : Nat, iv = .int .i64 k ∧ k + g = n ∧ Hid ((wx.heap[w.heap.size]? = some (.cells #[.int .i64 (n : Int), .slice co cn cc, .slice io dn dc, .slice go dn gc, .slice ro rn rc, .bool false] 39) ∧ wx.heap[w.heap.size + 1]? = some (.cells #[.int .i64 0, .slice none 0 0, .slice none 0 0, .slice none 0 0, .slice none 0 0] 82) ∧ Below w.heap.size w wx) ∧ wx.heap[D]? = some (.cells #[.int .i64 (n : Int), (.slice vca n vcc), .slice none 0 0, .slice none 0 0, (.slice (some ⟨vrb, 0, none⟩) n vrc)] 82) ∧ RowN wx w.heap.size (.slice vca n vcc) E cs ∧ RowN wx w.heap.size (.slice (some ⟨vrb, 0, none⟩) n vrc) E rs) ∧ Hid (posB (rs.drop k) = posB rs))
  case atStart => exact ⟨0, rfl, by omega, P4, rfl⟩
  case round =>
    obtain ⟨k, rfl, hk, HP, HD⟩ := hrel
    clear P4
    obtain ⟨z0, z1, z2, z3, z4, z5⟩ := cells6 HP.out.1.1
    clear z1 z2 z3 z4 z5
    by_cases hlt : k < n
    · have hd : decide ((k : Int) < (n : Int)) = true := decide_eq_true (by omega)
      obtain ⟨g, rfl⟩ : ∃ g, gk = g + 1 := ⟨gk - 1, by omega⟩
      have HIG : Hid _ := hk
      have hkr : k < rs.length := by rw [HLR.out.2]; exact hlt
      obtain ⟨vb, vcap, hv, nn, no, nl, ncp, ne, c0, c1, c2, hz⟩ := HP.out.2.2.2.at hkr
      rw [HLR.out.2] at hv
      cases hv
      have HS : Hid _ := signF_any _ E _ _ hz
      have HDS : Hid _ := posB_drop rs hkr
      clear hz hk
      obtain ⟨x, hx⟩ : ∃ x, rs[k]?.getD 0 = x := ⟨_, rfl⟩
      rw [hx] at HS HDS
      clear hx
      by_cases hneg : srung x < 0
      · have HF : Hid (okv = false) := by unfold Hid; rw [HW.out, ← HD.out, HDS.out, decide_eq_false (p := ¬ srung x < 0) (fun h => h hneg)]; rfl
        go_upto_region 14 with (first
          | (go_at_call 57; refine Calls.mono HS.out ?_; rintro e w5 ⟨⟨sg, rfl, s1, s2, s3, -⟩, b5⟩; have ds : decide (sg < 0) = true := decide_eq_true (s3.2 hneg))
          )
        have q5 := to_call HP.out.1.2.2 b5
        have r5 := kept b5 HP.out.1.2.1
        clear HS HDS HD HP HW HNG HU z0 c0 c1 c2
        go_wp2_with (first | (refine wpList_store_row (by rfl) 82 _ _ (by rfl) w w.heap.size (w.heap.size + 1) #[.int .i64 0, .slice none 0 0, .slice none 0 0, .slice none 0 0, .slice none 0 0] _ (by rfl) (by rfl) r5 q5 (Nat.le_succ _) 5 Try.infoRl (by rfl) (by rfl) (oneRl _ _ _ _ _ rfl rfl rfl rfl) ?_; intro W9 e9 b9 s9 o9))
        refine bodyPost_ret (res_ctJ _ 2 3 82 (by kernel_rfl) _ _ (w.heap.size + 1) _ _ (by rfl) (by rfl) _ Try.underlying82 rfl 5 Try.infoRl rfl e9) rfl ?_
        exact ⟨⟨0, none, 0, 0, none, 0, 0, none, 0, 0, none, 0, 0, by rw [HF.out]; rfl, fun h => by rw [HF.out] at h; cases h⟩, b9⟩
      · go_wp2_with (first
          | (go_at_call 57; refine Calls.mono HS.out ?_; rintro e w5 ⟨⟨sg, rfl, s1, s2, s3, -⟩, b5⟩; have ds : decide (sg < 0) = false := decide_eq_false (fun h => hneg (s3.1 h))))
        have P5 : Hid ((w5.heap[w.heap.size]? = some (.cells #[.int .i64 (n : Int), .slice co cn cc, .slice io dn dc, .slice go dn gc, .slice ro rn rc, .bool false] 39) ∧ w5.heap[w.heap.size + 1]? = some (.cells #[.int .i64 0, .slice none 0 0, .slice none 0 0, .slice none 0 0, .slice none 0 0] 82) ∧ Below w.heap.size w w5) ∧ w5.heap[D]? = some (.cells #[.int .i64 (n : Int), (.slice vca n vcc), .slice none 0 0, .slice none 0 0, (.slice (some ⟨vrb, 0, none⟩) n vrc)] 82) ∧ RowN w5 w.heap.size (.slice vca n vcc) E cs ∧ RowN w5 w.heap.size (.slice (some ⟨vrb, 0, none⟩) n vrc) E rs) := ⟨⟨kept b5 HP.out.1.1, kept b5 HP.out.1.2.1, to_call HP.out.1.2.2 b5⟩, kept b5 HP.out.2.1, HP.out.2.2.1.later b5, HP.out.2.2.2.later b5⟩
        have HD5 : Hid (posB (rs.drop (k + 1)) = posB rs) := by unfold Hid; rw [← HD.out, HDS.out, decide_eq_true hneg, Bool.true_and]
        clear HS HDS HD HP z0 c0 c1 c2 b5 s1 s2 s3 ds
        go_roundg g
        case measure => omega
        case rel => exact ⟨k + 1, by go_num, by have := HIG.out; omega, P5, HD5⟩
    · have hd : decide ((k : Int) < (n : Int)) = false := decide_eq_false (by omega)
      have HPR : Hid (posB rs = true) := by unfold Hid; rw [← HD.out, List.drop_eq_nil_of_le (by rw [HLR.out.2]; omega)]; rfl
      have HW2 : Hid (okv = colsB ⟨(n : Int), co, cn, cc, io, dn, dc, go, dn, gc, ro, rn, rc, false, cs, ids, gv, gs, rs⟩ (-1) (List.finRange dn)) := by unfold Hid; rw [HW.out, HPR.out]; rfl
      clear HW HPR HD hd
      go_wp2_with fail
      clear z0
      go_loopg [10] dn (fun g iv wx => (∃ (k : Nat) (vi vg : Value) (gl : List Value), iv = .int .i64 k ∧ k + g = dn ∧ Hid ((wx.heap[w.heap.size]? = some (.cells #[.int .i64 (n : Int), .slice co cn cc, .slice io dn dc, .slice go dn gc, .slice ro rn rc, .bool false] 39) ∧ wx.heap[w.heap.size + 1]? = some (.cells #[.int .i64 0, .slice none 0 0, .slice none 0 0, .slice none 0 0, .slice none 0 0] 82) ∧ Below w.heap.size w wx) ∧ wx.heap[D]? = some (.cells #[.int .i64 (n : Int), (.slice vca n vcc), vi, vg, (.slice (some ⟨vrb, 0, none⟩) n vrc)] 82) ∧ RlS wx w.heap.size E cs rs (ids.take k) (gs.take k) (.slice vca n vcc) (.slice (some ⟨vrb, 0, none⟩) n vrc) vi vg gl) ∧ Hid (colsB ⟨(n : Int), co, cn, cc, io, dn, dc, go, dn, gc, ro, rn, rc, false, cs, ids, gv, gs, rs⟩ (-1) (uptoZ ⟨(n : Int), co, cn, cc, io, dn, dc, go, dn, gc, ro, rn, rc, false, cs, ids, gv, gs, rs⟩ k) = true)))
      case atStart =>
        exact ⟨0, .slice none 0 0, .slice none 0 0, [], rfl, by omega, ⟨HP.out.1, HP.out.2.1, ⟨HP.out.2.2.1, HP.out.2.2.2, World.ownsRow_nil _ _ _ _, fun g hg => (by cases hg), World.ownsRow_nil _ _ _ _, fun g hg => (by cases hg), rfl, fun j u hj => (by simp at hj)⟩⟩, rfl⟩
      case round =>
        clear HP hlt hk
        obtain ⟨k, vi, vg, gl, rfl, hk, HP, HC⟩ := hrel
        obtain ⟨z0, z1, z2, z3, z4, z5⟩ := cells6 HP.out.1.1
        clear z1 z4 z5
        by_cases hlt : k < dn
        · have hd : decide ((k : Int) < (dn : Int)) = true := decide_eq_true (by omega)
          obtain ⟨g, rfl⟩ : ∃ g, gk = g + 1 := ⟨gk - 1, by omega⟩
          have HIG : Hid _ := hk
          clear hk
          obtain ⟨ib, ioff, rfl⟩ : ∃ ib ioff, io = some ⟨ib, ioff, none⟩ := by
            rcases (HU.out wr HP.out.1.2.2).i.cells with h0 | ⟨b, off, e, _⟩
            · exact absurd h0 (by dsimp only; omega)
            · exact ⟨b, off, e⟩
          obtain ⟨gb, goff, rfl⟩ : ∃ gb goff, go = some ⟨gb, goff, none⟩ := by
            rcases (HU.out wr HP.out.1.2.2).g.cells with h0 | ⟨b, off, e, _⟩
            · exact absurd h0 (by dsimp only; omega)
            · exact ⟨b, off, e⟩
          have HIC : Hid (∀ W', Below w.heap.size w W' → ∀ j, j < dn → W'.cell? ⟨ib, ioff + j, none⟩ = some (.int .i64 (ids[j]?.getD 0))) := fun W' hb j hj => by
            rcases (HU.out W' hb).i.cells with h0 | ⟨b, off, e, hc⟩
            · exact absurd h0 (by dsimp only; omega)
            · cases e
              exact hc j hj
          obtain ⟨id, hid⟩ : ∃ id, ids[k]?.getD 0 = id := ⟨_, rfl⟩
          have HID : Hid _ := hid
          have HIK : Hid (∀ W', Below w.heap.size w W' → W'.cell? ⟨ib, ioff + k, none⟩ = some (.int .i64 id)) := fun W' hb => by rw [← hid]; exact HIC.out W' hb k hlt
          have ci := HIK.out wr HP.out.1.2.2
          obtain ⟨la, hla⟩ : ∃ la, lastZ ⟨(n : Int), co, cn, cc, some ⟨ib, ioff, none⟩, dn, dc, some ⟨gb, goff, none⟩, dn, gc, ro, rn, rc, false, cs, ids, gv, gs, rs⟩ (-1) (uptoZ ⟨(n : Int), co, cn, cc, some ⟨ib, ioff, none⟩, dn, dc, some ⟨gb, goff, none⟩, dn, gc, ro, rn, rc, false, cs, ids, gv, gs, rs⟩ k) = la := ⟨_, rfl⟩
          have hl1 := lastZ_ge ⟨(n : Int), co, cn, cc, some ⟨ib, ioff, none⟩, dn, dc, some ⟨gb, goff, none⟩, dn, gc, ro, rn, rc, false, cs, ids, gv, gs, rs⟩ k (by dsimp only; omega) HC.out
          have hl2 := lastZ_at ⟨(n : Int), co, cn, cc, some ⟨ib, ioff, none⟩, dn, dc, some ⟨gb, goff, none⟩, dn, gc, ro, rn, rc, false, cs, ids, gv, gs, rs⟩ k (by dsimp only; omega)
          rw [hla] at hl1 hl2
          dsimp only at hl2
          have HCS : Hid (colsB ⟨(n : Int), co, cn, cc, some ⟨ib, ioff, none⟩, dn, dc, some ⟨gb, goff, none⟩, dn, gc, ro, rn, rc, false, cs, ids, gv, gs, rs⟩ (-1) (uptoZ ⟨(n : Int), co, cn, cc, some ⟨ib, ioff, none⟩, dn, dc, some ⟨gb, goff, none⟩, dn, gc, ro, rn, rc, false, cs, ids, gv, gs, rs⟩ (k + 1)) = (decide (la < id) && decide (id ≤ 1073741824) && numN (gs[k]?.getD []) (n : Int))) := by
            unfold Hid
            rw [uptoZ_succ _ k hlt, colsB_snoc, HC.out, hla]
            show (true && colOk _ _ _) = _
            unfold colOk idZ
            dsimp only
            rw [hid, Bool.true_and]
          have HNF : Hid (colsB ⟨(n : Int), co, cn, cc, some ⟨ib, ioff, none⟩, dn, dc, some ⟨gb, goff, none⟩, dn, gc, ro, rn, rc, false, cs, ids, gv, gs, rs⟩ (-1) (uptoZ ⟨(n : Int), co, cn, cc, some ⟨ib, ioff, none⟩, dn, dc, some ⟨gb, goff, none⟩, dn, gc, ro, rn, rc, false, cs, ids, gv, gs, rs⟩ (k + 1)) = false → okv = false) := fun h => by
            rw [HW2.out]
            have e : List.finRange dn = uptoZ ⟨(n : Int), co, cn, cc, some ⟨ib, ioff, none⟩, dn, dc, some ⟨gb, goff, none⟩, dn, gc, ro, rn, rc, false, cs, ids, gv, gs, rs⟩ (k + 1) ++ (List.finRange dn).drop (k + 1) := (List.take_append_drop _ _).symm
            rw [e]
            exact colsB_append _ _ _ _ h
          clear hla hid
          go_upto_region 18 with fail
          go_cut [116] from 78 to 147 (fun c wx => c = .bool (!(decide (la < id) && decide (id ≤ 1073741824))) ∧ Hid (wx.heap = wr.heap ∧ Below w.heap.size w wx))
          case first =>
            have hB : Below w.heap.size w wr := HP.out.1.2.2
            by_cases h1 : id < 0
            · have e1 : decide (id < 0) = true := decide_eq_true h1
              go_quiet (fail)
              go_wp2_with fail
              go_meet
              exact ⟨by rw [decide_eq_false (p := la < id) (by omega)]; rfl, rfl, below_drewN hB _⟩
            have e1 : decide (id < 0) = false := decide_eq_false h1
            by_cases h2 : 1073741824 < id
            · have e2 : decide (1073741824 < id) = true := decide_eq_true h2
              go_quiet (fail)
              go_wp2_with fail
              go_meet
              exact ⟨by rw [decide_eq_false (p := id ≤ 1073741824) (by omega), Bool.and_false]; rfl, rfl, below_drewN hB _⟩
            have e2 : decide (1073741824 < id) = false := decide_eq_false h2
            by_cases h3 : k = 0
            · have hla := hl2.1 h3
              have e3 : decide ((0 : Int) < (k : Int)) = false := decide_eq_false (by omega)
              have e3' : decide (0 < k) = false := decide_eq_false (by omega)
              have hk0 : Hid (k = 0) := h3
              have hla' : Hid _ := hla
              clear h3 hla hl2 hl1
              go_quiet (fail)
              go_wp2_with fail
              go_meet
              exact ⟨by rw [decide_eq_true (p := la < id) (by have := hla'.out; omega), decide_eq_true (p := id ≤ 1073741824) (by omega)]; rfl, rfl, below_drewN hB _⟩
            have e3 : decide ((0 : Int) < (k : Int)) = true := decide_eq_true (by omega)
            have e3' : decide (0 < k) = true := decide_eq_true (by omega)
            have hla := hl2.2 (by omega)
            have cp := HIC.out wr hB (k - 1) (by omega)
            rw [← hla] at cp
            obtain ⟨j, rfl⟩ : ∃ j, k = j + 1 := ⟨k - 1, by omega⟩
            have ej : ((j + 1 : Nat) : Int) - 1 = (j : Int) := by omega
            have hjl : j < dn := by omega
            rw [show j + 1 - 1 = j from rfl] at cp
            clear hla hl2
            by_cases h4 : id ≤ la
            · have e4 : decide (id ≤ la) = true := decide_eq_true h4
              go_quiet (fail)
              go_wp2_with fail
              go_meet
              exact ⟨by rw [decide_eq_false (p := la < id) (by omega)]; rfl, rfl, below_drewN hB _⟩
            · have e4 : decide (id ≤ la) = false := decide_eq_false h4
              go_quiet (fail)
              go_wp2_with fail
              go_meet
              exact ⟨by rw [decide_eq_true (p := la < id) (by omega), decide_eq_true (p := id ≤ 1073741824) (by omega)]; rfl, rfl, below_drewN hB _⟩
          case rest =>
            obtain ⟨rfl, HWC⟩ := hcut
            have Bw : Below wr.heap.size wr wc := ⟨HWC.out.2.os.trans HP.out.1.2.2.os.symm, HWC.out.2.tape.trans HP.out.1.2.2.tape.symm, HWC.out.2.output.trans HP.out.1.2.2.output.symm, by rw [HWC.out.1]; exact Nat.le_refl _, fun k _ => by rw [HWC.out.1]⟩
            have PW : Hid ((wc.heap[w.heap.size]? = some (.cells #[.int .i64 (n : Int), .slice co cn cc, .slice (some ⟨ib, ioff, none⟩) dn dc, .slice (some ⟨gb, goff, none⟩) dn gc, .slice ro rn rc, .bool false] 39) ∧ wc.heap[w.heap.size + 1]? = some (.cells #[.int .i64 0, .slice none 0 0, .slice none 0 0, .slice none 0 0, .slice none 0 0] 82) ∧ Below w.heap.size w wc) ∧ wc.heap[D]? = some (.cells #[.int .i64 (n : Int), (.slice vca n vcc), vi, vg, (.slice (some ⟨vrb, 0, none⟩) n vrc)] 82) ∧ RlS wc w.heap.size E cs rs (ids.take k) (gs.take k) (.slice vca n vcc) (.slice (some ⟨vrb, 0, none⟩) n vrc) vi vg gl) := ⟨⟨kept Bw HP.out.1.1, kept Bw HP.out.1.2.1, HWC.out.2⟩, kept Bw HP.out.2.1, HP.out.2.2.later Bw⟩
            clear Bw HWC HP z0 z2 z3 ci hl1 hl2 HC
            by_cases hok : la < id ∧ id ≤ 1073741824
            case neg =>
              have hfb : (!(decide (la < id) && decide (id ≤ 1073741824))) = true := by rw [dec2_false hok]; rfl
              have HF : Hid (okv = false) := HNF.out (by rw [HCS.out, dec2_false hok, Bool.false_and])
              rw [hfb]
              clear hok HNF HCS HW2 HNG HU HIC HIK
              go_wp2_with (first | (refine wpList_store_row (by rfl) 82 _ _ (by rfl) w w.heap.size (w.heap.size + 1) #[.int .i64 0, .slice none 0 0, .slice none 0 0, .slice none 0 0, .slice none 0 0] _ (by rfl) (by rfl) PW.out.1.2.1 PW.out.1.2.2 (Nat.le_succ _) 5 Try.infoRl (by rfl) (by rfl) (oneRl _ _ _ _ _ rfl rfl rfl rfl) ?_; intro W9 e9 b9 s9 o9))
              refine bodyPost_ret (res_ctJ _ 2 3 82 (by kernel_rfl) _ _ (w.heap.size + 1) _ _ (by rfl) (by rfl) _ Try.underlying82 rfl 5 Try.infoRl rfl e9) rfl ?_
              exact ⟨⟨0, none, 0, 0, none, 0, 0, none, 0, 0, none, 0, 0, by rw [HF.out]; rfl, fun h => by rw [HF.out] at h; cases h⟩, b9⟩
            case pos =>
            have hfb : (!(decide (la < id) && decide (id ≤ 1073741824))) = false := by rw [decide_eq_true hok.1, decide_eq_true hok.2]; rfl
            rw [hfb]
            obtain ⟨nb, hnb⟩ : ∃ nb, numN (gs[k]?.getD []) (n : Int) = nb := ⟨_, rfl⟩
            have HCS2 : Hid (colsB ⟨(n : Int), co, cn, cc, some ⟨ib, ioff, none⟩, dn, dc, some ⟨gb, goff, none⟩, dn, gc, ro, rn, rc, false, cs, ids, gv, gs, rs⟩ (-1) (uptoZ ⟨(n : Int), co, cn, cc, some ⟨ib, ioff, none⟩, dn, dc, some ⟨gb, goff, none⟩, dn, gc, ro, rn, rc, false, cs, ids, gv, gs, rs⟩ (k + 1)) = nb) := by unfold Hid; rw [HCS.out, decide_eq_true hok.1, decide_eq_true hok.2, hnb]; simp
            clear HCS hok hfb
            go_upto_region 20 with fail
            have hS20 : wc.drew.heap[w.heap.size]? = some (.cells #[.int .i64 (n : Int), .slice co cn cc, .slice (some ⟨ib, ioff, none⟩) dn dc, .slice (some ⟨gb, goff, none⟩) dn gc, .slice ro rn rc, .bool false] 39) ∧ wc.drew.cell? ⟨gb, goff + k, none⟩ = some (.slice (gv k).1 (gv k).2.1 (gv k).2.2) := ⟨PW.out.1.1, rdGu_at (HU.out _ PW.out.1.2.2.drew).g hlt⟩
            have q20 : Below w.heap.size w wc.drew := PW.out.1.2.2.drew
            refine wp_region_noPanic ?_
            refine wp_region_held_drew (S := (fun V => V.heap[w.heap.size]? = some (.cells #[.int .i64 (n : Int), .slice co cn cc, .slice (some ⟨ib, ioff, none⟩) dn dc, .slice (some ⟨gb, goff, none⟩) dn gc, .slice ro rn rc, .bool false] 39) ∧ V.cell? ⟨gb, goff + k, none⟩ = some (.slice (gv k).1 (gv k).2.1 (gv k).2.2))) (by kernel_rfl) hS20 (fun _ => ?_)
            refine takeH 119 (i := 0) (v := ?_) rfl rfl (by kernel_rfl) (by kernel_rfl) (by kernel_rfl) (fun _ _ _ h => h) (Or.inl ⟨by kernel_rfl, ?_⟩) hS20 ?_
            rotate_left
            · intro w' hSw; obtain ⟨y0, y1, y2, y3, y4, y5⟩ := cells6 hSw.1; have y6 := hSw.2; go_simp; try with_reducible rfl
            try simp only [Act.put, List.setIfInBounds_toArray, List.set_cons_zero, List.set_cons_succ]
            refine takeH 120 (i := 1) (v := ?_) rfl rfl (by kernel_rfl) (by kernel_rfl) (by kernel_rfl) (fun _ _ _ h => h) (Or.inl ⟨by kernel_rfl, ?_⟩) hS20 ?_
            rotate_left
            · intro w' hSw; obtain ⟨y0, y1, y2, y3, y4, y5⟩ := cells6 hSw.1; have y6 := hSw.2; go_simp; try with_reducible rfl
            try simp only [Act.put, List.setIfInBounds_toArray, List.set_cons_zero, List.set_cons_succ]
            refine takeH 121 (i := 2) (v := ?_) rfl rfl (by kernel_rfl) (by kernel_rfl) (by kernel_rfl) (fun _ _ _ h => h) (Or.inl ⟨by kernel_rfl, ?_⟩) hS20 ?_
            rotate_left
            · intro w' hSw; obtain ⟨y0, y1, y2, y3, y4, y5⟩ := cells6 hSw.1; have y6 := hSw.2; go_simp; try with_reducible rfl
            try simp only [Act.put, List.setIfInBounds_toArray, List.set_cons_zero, List.set_cons_succ]
            refine takeH 122 (i := 3) (v := ?_) rfl rfl (by kernel_rfl) (by kernel_rfl) (by kernel_rfl) (fun _ _ _ h => h) (Or.inl ⟨by kernel_rfl, ?_⟩) hS20 ?_
            rotate_left
            · intro w' hSw; obtain ⟨y0, y1, y2, y3, y4, y5⟩ := cells6 hSw.1; have y6 := hSw.2; go_simp; try with_reducible rfl
            try simp only [Act.put, List.setIfInBounds_toArray, List.set_cons_zero, List.set_cons_succ]
            refine takeH 123 (i := 4) (v := ?_) rfl rfl (by kernel_rfl) (by kernel_rfl) (by kernel_rfl) (fun _ _ _ h => h) (Or.inl ⟨by kernel_rfl, ?_⟩) hS20 ?_
            rotate_left
            · intro w' hSw; obtain ⟨y0, y1, y2, y3, y4, y5⟩ := cells6 hSw.1; have y6 := hSw.2; go_simp; try with_reducible rfl
            try simp only [Act.put, List.setIfInBounds_toArray, List.set_cons_zero, List.set_cons_succ]
            refine takeH 124 (i := 5) (v := ?_) rfl rfl (by kernel_rfl) (by kernel_rfl) (by kernel_rfl) (fun _ _ _ h => h) (Or.inl ⟨by kernel_rfl, ?_⟩) hS20 ?_
            rotate_left
            · intro w' hSw; obtain ⟨y0, y1, y2, y3, y4, y5⟩ := cells6 hSw.1; have y6 := hSw.2; go_simp; try with_reducible rfl
            try simp only [Act.put, List.setIfInBounds_toArray, List.set_cons_zero, List.set_cons_succ]
            refine takeH 125 (i := 6) (v := ?_) rfl rfl (by kernel_rfl) (by kernel_rfl) (by kernel_rfl) (fun _ _ _ h => h) (Or.inl ⟨by kernel_rfl, ?_⟩) hS20 ?_
            rotate_left
            · intro w' hSw; obtain ⟨y0, y1, y2, y3, y4, y5⟩ := cells6 hSw.1; have y6 := hSw.2; go_simp; try with_reducible rfl
            try simp only [Act.put, List.setIfInBounds_toArray, List.set_cons_zero, List.set_cons_succ]
            refine wpAnyH_ready (rs := [7]) (by kernel_rfl) (by simp) ?_
            refine consH _ rfl (hopCd 126 rfl (by kernel_rfl) rfl (by kernel_rfl) (Calls.mono (HNG.out k hlt _ q20) ?_)) AllReadyH.nil
            rintro e w6 ⟨⟨v6, rfl, r6⟩, b6⟩
            rw [hnb] at r6 ⊢
            have hS6 := And.intro (kept b6 hS20.1) ((b6.cell (World.block_lt_of_cell? _ _ hS20.2)).trans hS20.2)
            refine ⟨_, rfl, hS6, ?_⟩
            try simp only [Act.put, List.setIfInBounds_toArray, List.set_cons_zero, List.set_cons_succ]
            refine takeH 118 (i := 8) (v := ?_) rfl rfl (by kernel_rfl) (by kernel_rfl) (by kernel_rfl) (fun _ _ _ h => h) (Or.inl ⟨by kernel_rfl, ?_⟩) hS6 ?_
            rotate_left
            · intro w' hSw; go_simp; try with_reducible rfl
            try simp only [Act.put, List.setIfInBounds_toArray, List.set_cons_zero, List.set_cons_succ]
            refine takeH 127 (i := 9) (v := ?_) rfl rfl (by kernel_rfl) (by kernel_rfl) (by kernel_rfl) (fun _ _ _ h => h) (Or.inl ⟨by kernel_rfl, ?_⟩) hS6 ?_
            rotate_left
            · intro w' hSw; go_simp; try with_reducible rfl
            try simp only [Act.put, List.setIfInBounds_toArray, List.set_cons_zero, List.set_cons_succ]
            refine takeH 128 (i := 10) (v := ?_) rfl rfl (by kernel_rfl) (by kernel_rfl) (by kernel_rfl) (fun _ _ _ h => h) (Or.inl ⟨by kernel_rfl, ?_⟩) hS6 ?_
            rotate_left
            · intro w' hSw; go_simp; try with_reducible rfl
            try simp only [Act.put, List.setIfInBounds_toArray, List.set_cons_zero, List.set_cons_succ]
            refine takeH 11 (i := 11) (v := ?_) rfl rfl (by kernel_rfl) (by kernel_rfl) (by kernel_rfl) (fun _ _ _ h => h) (Or.inl ⟨by kernel_rfl, ?_⟩) hS6 ?_
            rotate_left
            · intro w' hSw; go_simp; try with_reducible rfl
            try simp only [Act.put, List.setIfInBounds_toArray, List.set_cons_zero, List.set_cons_succ]
            refine takeH 12 (i := 12) (v := ?_) rfl rfl (by kernel_rfl) (by kernel_rfl) (by kernel_rfl) (fun _ _ _ h => h) (Or.inl ⟨by kernel_rfl, ?_⟩) hS6 ?_
            rotate_left
            · intro w' hSw; go_simp; try with_reducible rfl
            try simp only [Act.put, List.setIfInBounds_toArray, List.set_cons_zero, List.set_cons_succ]
            refine wpAnyH_done (by kernel_rfl) ?_ _
            refine NoPanic.normal ?_
            try simp only [Act.put, List.setIfInBounds_toArray, List.set_cons_zero, List.set_cons_succ]
            have B6 : Below wc.heap.size wc w6 := (fun (h : Below wc.drew.heap.size wc.drew w6) => ⟨h.os, h.tape, h.output, h.size, h.block⟩) b6
            have P6 : Hid ((w6.heap[w.heap.size]? = some (.cells #[.int .i64 (n : Int), .slice co cn cc, .slice (some ⟨ib, ioff, none⟩) dn dc, .slice (some ⟨gb, goff, none⟩) dn gc, .slice ro rn rc, .bool false] 39) ∧ w6.heap[w.heap.size + 1]? = some (.cells #[.int .i64 0, .slice none 0 0, .slice none 0 0, .slice none 0 0, .slice none 0 0] 82) ∧ Below w.heap.size w w6) ∧ w6.heap[D]? = some (.cells #[.int .i64 (n : Int), (.slice vca n vcc), vi, vg, (.slice (some ⟨vrb, 0, none⟩) n vrc)] 82) ∧ RlS w6 w.heap.size E cs rs (ids.take k) (gs.take k) (.slice vca n vcc) (.slice (some ⟨vrb, 0, none⟩) n vrc) vi vg gl) := ⟨⟨kept B6 PW.out.1.1, kept B6 PW.out.1.2.1, to_call PW.out.1.2.2 B6⟩, kept B6 PW.out.2.1, PW.out.2.2.later B6⟩
            have R6 : Hid (nb = true → RowN w6 w.heap.size v6 E (gs[k]?.getD [])) := fun h => (r6 h).mono q20.size
            clear hS20 hS6 r6 b6 B6 PW q20
            cases nb
            case false =>
              have HF : Hid (okv = false) := HNF.out HCS2.out
              clear HNF HCS2 HW2 HNG HU HIC HIK R6
              go_wp2_with (first | (refine wpList_store_row (by rfl) 82 _ _ (by rfl) w w.heap.size (w.heap.size + 1) #[.int .i64 0, .slice none 0 0, .slice none 0 0, .slice none 0 0, .slice none 0 0] _ (by rfl) (by rfl) P6.out.1.2.1 P6.out.1.2.2 (Nat.le_succ _) 5 Try.infoRl (by rfl) (by rfl) (oneRl _ _ _ _ _ rfl rfl rfl rfl) ?_; intro W9 e9 b9 s9 o9))
              refine bodyPost_ret (res_ctJ _ 2 3 82 (by kernel_rfl) _ _ (w.heap.size + 1) _ _ (by rfl) (by rfl) _ Try.underlying82 rfl 5 Try.infoRl rfl e9) rfl ?_
              exact ⟨⟨0, none, 0, 0, none, 0, 0, none, 0, 0, none, 0, 0, by rw [HF.out]; rfl, fun h => by rw [HF.out] at h; cases h⟩, b9⟩
            case true =>
            have N6 := R6.out rfl
            obtain ⟨a6, c6, hv6⟩ := N6.form
            subst hv6
            go_upto_region 23 with fail
            have hkt : (ids.take k).length = k := by rw [List.length_take, HLI.out.1]; omega
            have hkg : gl.length = k := by have := P6.out.2.2.len; rw [List.length_take, HLI.out.2] at this; omega
            have HLK : Hid ((ids.take k).length + 1 ≤ 4000000) := by unfold Hid; omega
            have hS23 : w6.drew.heap[D]? = some (.cells #[.int .i64 (n : Int), (.slice vca n vcc), vi, vg, (.slice (some ⟨vrb, 0, none⟩) n vrc)] 82) ∧ w6.drew.heap[w.heap.size]? = some (.cells #[.int .i64 (n : Int), .slice co cn cc, .slice (some ⟨ib, ioff, none⟩) dn dc, .slice (some ⟨gb, goff, none⟩) dn gc, .slice ro rn rc, .bool false] 39) ∧ w6.drew.cell? ⟨ib, ioff + k, none⟩ = some (.int .i64 id) := ⟨P6.out.2.1, P6.out.1.1, HIK.out _ P6.out.1.2.2.drew⟩
            have L23 := P6.out.2.2.later (w' := w6.drew) (Below.refl _ _).drew
            have N23 := N6.later (w' := w6.drew) (Below.refl _ _).drew
            have q23 : Below w.heap.size w w6.drew := P6.out.1.2.2.drew
            have p23 : w6.drew.heap[w.heap.size + 1]? = some (.cells #[.int .i64 0, .slice none 0 0, .slice none 0 0, .slice none 0 0, .slice none 0 0] 82) := P6.out.1.2.1
            refine wp_region_noPanic ?_
            refine wp_region_P (fun V => V.heap[D]? = some (.cells #[.int .i64 (n : Int), (.slice vca n vcc), vi, vg, (.slice (some ⟨vrb, 0, none⟩) n vrc)] 82) ∧ V.heap[w.heap.size]? = some (.cells #[.int .i64 (n : Int), .slice co cn cc, .slice (some ⟨ib, ioff, none⟩) dn dc, .slice (some ⟨gb, goff, none⟩) dn gc, .slice ro rn rc, .bool false] 39) ∧ V.cell? ⟨ib, ioff + k, none⟩ = some (.int .i64 id)) 10 (by kernel_rfl) ?_
            refine takeP0 132 (i := 0) (v := ?_) rfl rfl (by kernel_rfl) (by kernel_rfl) (by kernel_rfl) rfl (fun _ _ _ h => h) (Or.inl ⟨by kernel_rfl, ?_⟩) (fun _ => hS23) ?_
            rotate_left
            · intro w' hSw; go_simp; try with_reducible rfl
            try simp only [Act.put, List.setIfInBounds_toArray, List.set_cons_zero, List.set_cons_succ]
            refine takeP 133 (i := 1) (v := ?_) rfl rfl (by kernel_rfl) (by kernel_rfl) (by kernel_rfl) (by kernel_rfl) rfl (by kernel_rfl) (fun _ _ _ h => h) (Or.inl ⟨by kernel_rfl, ?_⟩) hS23 ?_
            rotate_left
            · intro w' hSw; obtain ⟨x0, x1, x2, x3, x4⟩ := cells5 hSw.1; obtain ⟨y0, y1, y2, y3, y4, y5⟩ := cells6 hSw.2.1; have y6 := hSw.2.2; go_simp; try with_reducible rfl
            try simp only [Act.put, List.setIfInBounds_toArray, List.set_cons_zero, List.set_cons_succ]
            refine takeP0 134 (i := 2) (v := ?_) rfl rfl (by kernel_rfl) (by kernel_rfl) (by kernel_rfl) rfl (fun _ _ _ h => h) (Or.inl ⟨by kernel_rfl, ?_⟩) (fun _ => hS23) ?_
            rotate_left
            · intro w' hSw; go_simp; try with_reducible rfl
            try simp only [Act.put, List.setIfInBounds_toArray, List.set_cons_zero, List.set_cons_succ]
            refine takeP 135 (i := 3) (v := ?_) rfl rfl (by kernel_rfl) (by kernel_rfl) (by kernel_rfl) (by kernel_rfl) rfl (by kernel_rfl) (fun _ _ _ h => h) (Or.inl ⟨by kernel_rfl, ?_⟩) hS23 ?_
            rotate_left
            · intro w' hSw; obtain ⟨x0, x1, x2, x3, x4⟩ := cells5 hSw.1; obtain ⟨y0, y1, y2, y3, y4, y5⟩ := cells6 hSw.2.1; have y6 := hSw.2.2; go_simp; try with_reducible rfl
            try simp only [Act.put, List.setIfInBounds_toArray, List.set_cons_zero, List.set_cons_succ]
            refine takeP0 136 (i := 4) (v := ?_) rfl rfl (by kernel_rfl) (by kernel_rfl) (by kernel_rfl) rfl (fun _ _ _ h => h) (Or.inl ⟨by kernel_rfl, ?_⟩) (fun _ => hS23) ?_
            rotate_left
            · intro w' hSw; go_simp; try with_reducible rfl
            try simp only [Act.put, List.setIfInBounds_toArray, List.set_cons_zero, List.set_cons_succ]
            refine takeP0 137 (i := 5) (v := ?_) rfl rfl (by kernel_rfl) (by kernel_rfl) (by kernel_rfl) rfl (fun _ _ _ h => h) (Or.inl ⟨by kernel_rfl, ?_⟩) (fun _ => hS23) ?_
            rotate_left
            · intro w' hSw; go_simp; try with_reducible rfl
            try simp only [Act.put, List.setIfInBounds_toArray, List.set_cons_zero, List.set_cons_succ]
            refine takeP 138 (i := 6) (v := ?_) rfl rfl (by kernel_rfl) (by kernel_rfl) (by kernel_rfl) (by kernel_rfl) rfl (by kernel_rfl) (fun _ _ _ h => h) (Or.inl ⟨by kernel_rfl, ?_⟩) hS23 ?_
            rotate_left
            · intro w' hSw; obtain ⟨x0, x1, x2, x3, x4⟩ := cells5 hSw.1; obtain ⟨y0, y1, y2, y3, y4, y5⟩ := cells6 hSw.2.1; have y6 := hSw.2.2; go_simp; try with_reducible rfl
            try simp only [Act.put, List.setIfInBounds_toArray, List.set_cons_zero, List.set_cons_succ]
            refine wpAnyP_ready (rs := [7]) (by kernel_rfl) (by simp) ?_
            refine consP _ rfl (hopBJ 139 (.int .i64 id) 3 rfl rfl rfl (by kernel_rfl) fun I V2 hI c2 => ?_) AllReadyP.nil
            have hS2 := And.intro (kept c2 hS23.1) (And.intro (kept c2 hS23.2.1) ((c2.cell (World.block_lt_of_cell? _ _ hS23.2.2)).trans hS23.2.2))
            have L2 := L23.later c2
            have N2 := N23.later c2
            have q2 := q23.trans (c2.mono q23.size)
            have p2 := kept c2 p23
            refine ⟨hS2, ?_⟩
            try simp only [Act.put, List.setIfInBounds_toArray, List.set_cons_zero, List.set_cons_succ]
            refine wpAnyP_ready (rs := [8]) (by kernel_rfl) (by simp) ?_
            refine consP _ rfl (hopL rfl (append_clJ noU Try.underlying23 Try.infoIJ rfl (by decide) (by decide) (by intro v hv; have hv' : v ∈ (#[.int .i64 0] : Array Value) := hv; simp only [List.mem_toArray, List.mem_cons, List.not_mem_nil, or_false] at hv'; subst hv'; rfl) V2 (by rfl) _ _ (by rfl) w.heap.size vi _ _ (by kernel_rfl) L2.i L2.icl ⟨I, 0, none⟩ 1 1 [.int .i64 id] (by kernel_rfl) (by decide) rfl (news_oneJ hI) (oneI _ rfl) (by intro u hu; simp only [List.mem_cons, List.not_mem_nil, or_false] at hu; subst hu; rfl) HLK.out q2.size fun v7 w7 o7 g7 cl7 => ?_)) AllReadyP.nil
            change QK _ _ Exit.normal (Act.put _ (some 140) v7) w7
            have s7D := (grw_types L2.i g7 D _ _ (by decide) hS2.1).trans hS2.1
            have s7Z := (grw_types L2.i g7 _ _ _ (by decide) hS2.2.1).trans hS2.2.1
            have s7R := (grw_types L2.i g7 _ _ _ (by decide) p2).trans p2
            have q7 := q2.trans (g7.below (fun k hk => (World.ownsRow.lt L2.i k hk).1) q2.size)
            have L7 : RlS w7 w.heap.size E cs rs (ids.take k ++ [id]) (gs.take k) (.slice vca n vcc) (.slice (some ⟨vrb, 0, none⟩) n vrc) v7 vg gl := L2.pushI g7 (by simpa using o7) cl7
            have N7 := N2.grw (by decide) L2.i g7 L2.icl
            have s7I := HIK.out w7 q7
            refine (And.intro (And.intro s7D (And.intro s7Z s7I)) ?_ : _ ∧ _)
            try simp only [Act.put, List.setIfInBounds_toArray, List.set_cons_zero, List.set_cons_succ]
            clear g7
            refine takeP0 141 (i := 9) (v := ?_) rfl rfl (by kernel_rfl) (by kernel_rfl) (by kernel_rfl) rfl (fun _ _ _ h => h) (Or.inl ⟨by kernel_rfl, ?_⟩) (fun _ => And.intro s7D (And.intro s7Z s7I)) ?_
            rotate_left
            · intro w' hSw; go_simp; try with_reducible rfl
            try simp only [Act.put, List.setIfInBounds_toArray, List.set_cons_zero, List.set_cons_succ]
            refine wpAnyP_ready (rs := [10]) (by kernel_rfl) (by simp) ?_
            refine consPs _ rfl (by kernel_rfl) (hopL rfl (wpList_store_at (by rfl) 23 _ _ (by rfl) w w.heap.size D 2 v7 _ #[.int .i64 (n : Int), (.slice vca n vcc), v7, vg, (.slice (some ⟨vrb, 0, none⟩) n vrc)] 82 (by kernel_rfl) (by kernel_rfl) s7D q7 hDl 1 Try.szIs (by rw [(own_valJ L7.i).2]; rfl) (Nat.le_of_ble_eq_true rfl) (by intro u hu; rw [(own_valJ L7.i).2] at hu; simp only [List.mem_cons, List.not_mem_nil, or_false] at hu; subst hu; exact (own_valJ L7.i).1) (by rw [(own_valJ L7.i).2]; rfl) fun w8 e8 b8 s8 k8 => ?_)) AllReadyP.nil
            refine (And.intro trivial ?_ : _ ∧ _)
            try simp only [Act.put, List.setIfInBounds_toArray, List.set_cons_zero, List.set_cons_succ]
            refine wpAnyP_done (by kernel_rfl) ?_ _
            refine NoPanic.normal ?_
            try simp only [Act.put, List.setIfInBounds_toArray, List.set_cons_zero, List.set_cons_succ]
            have c7 : Cl noU w7 D := rl_cl rfl (own_noU L2.i) (own_noU L2.g) rfl s7D
            have L8 := L7.box (w' := w8) (by decide) (by decide) (by decide) s7D c7 k8
            have N8 := N7.box (by decide) s7D c7 k8
            have P8 : Hid _ := And.intro e8 (And.intro L8 (And.intro N8 (And.intro b8 (And.intro ((k8 _ hDz).trans s7Z) ((k8 _ hD1).trans s7R)))))
            clear e8 L8 N8 b8 k8 s8 c7 s7D s7Z s7R s7I L7 N7 q7 o7 cl7 hI c2 hS2 L2 N2 q2 p2 hS23 L23 N23 q23 p23
            clear P6 R6 N6
            have hsz8 := P8.out.2.2.2.1.size
            obtain ⟨x0, x1, x2, x3, x4⟩ := cells5 P8.out.1
            have HCG : Hid (∀ g, vg.ownBlock = some g → Cl noU (w8.alloc (.cells #[(.slice a6 (gs[k]?.getD []).length c6)] 77)) g) := fun g hg => (P8.out.2.1.gcl g hg).later ((Below.refl _ w8).alloc (Nat.le_refl _) _)
            go_wp2_with (first
              | (at_builtin; refine append_clJ noU Try.underlying80 Try.infoNsJ rfl (by decide) (by decide) (by intro v hv; have hv' : v ∈ (#[.slice none 0 0] : Array Value) := hv; simp only [List.mem_toArray, List.mem_cons, List.not_mem_nil, or_false] at hv'; subst hv'; rfl) _ (by rfl) _ _ (by rfl) w.heap.size vg _ _ (by rfl) (World.ownsRow.alloc P8.out.2.1.g _) HCG.out ⟨w8.heap.size, 0, none⟩ 1 1 [(.slice a6 (gs[k]?.getD []).length c6)] (by rfl) (by decide) rfl (news_oneJ (heap_alloc_new w8 _)) (oneI _ rfl) (by intro u hu; simp only [List.mem_cons, List.not_mem_nil, or_false] at hu; subst hu; rfl) (by omega) (by simp only [alloc_size]; omega) ?_; intro v9 w9 o9 g9 cl9; have s9D := (grw_types (World.ownsRow.alloc P8.out.2.1.g _) g9 D _ _ (by decide) (alloc_kept P8.out.1 _)).trans (alloc_kept P8.out.1 _); have q9 := (P8.out.2.2.2.1.alloc hsz8 _).trans (g9.below (fun k hk => (World.ownsRow.lt P8.out.2.1.g k hk).1) (by simp only [alloc_size]; omega)))
              | (refine wpList_store_at (by rfl) 80 _ _ (by rfl) w w.heap.size D 3 v9 _ #[.int .i64 (n : Int), (.slice vca n vcc), v7, v9, (.slice (some ⟨vrb, 0, none⟩) n vrc)] 82 (by rfl) (by rfl) s9D q9 hDl 1 Try.szNss (by rw [(own_valJ o9).2]; rfl) (Nat.le_of_ble_eq_true rfl) (by intro u hu; rw [(own_valJ o9).2] at hu; simp only [List.mem_cons, List.not_mem_nil, or_false] at hu; subst hu; exact (own_valJ o9).1) (by rw [(own_valJ o9).2]; rfl) ?_; intro wa ea ba sa ka))
            have A8 : Below w8.heap.size w8 (w8.alloc (.cells #[(.slice a6 (gs[k]?.getD []).length c6)] 77)) := (Below.refl _ w8).alloc (Nat.le_refl _) _
            have L9 := (P8.out.2.1.later A8).pushG g9 o9 cl9 (P8.out.2.2.1.later A8)
            have c9 : Cl noU w9 D := rl_cl rfl (own_noU P8.out.2.1.i) (own_noU P8.out.2.1.g) rfl s9D
            have La := L9.box (w' := wa) (by decide) (by decide) (by decide) s9D c9 ka
            have Pa : Hid ((wa.heap[w.heap.size]? = some (.cells #[.int .i64 (n : Int), .slice co cn cc, .slice (some ⟨ib, ioff, none⟩) dn dc, .slice (some ⟨gb, goff, none⟩) dn gc, .slice ro rn rc, .bool false] 39) ∧ wa.heap[w.heap.size + 1]? = some (.cells #[.int .i64 0, .slice none 0 0, .slice none 0 0, .slice none 0 0, .slice none 0 0] 82) ∧ Below w.heap.size w wa) ∧ wa.heap[D]? = some (.cells #[.int .i64 (n : Int), (.slice vca n vcc), v7, v9, (.slice (some ⟨vrb, 0, none⟩) n vrc)] 82) ∧ RlS wa w.heap.size E cs rs (ids.take k ++ [id]) (gs.take k ++ [gs[k]?.getD []]) (.slice vca n vcc) (.slice (some ⟨vrb, 0, none⟩) n vrc) v7 v9 (gl ++ [(.slice a6 (gs[k]?.getD []).length c6)])) := ⟨⟨(ka _ hDz).trans ((grw_types (World.ownsRow.alloc P8.out.2.1.g _) g9 _ _ _ (by decide) (alloc_kept P8.out.2.2.2.2.1 _)).trans (alloc_kept P8.out.2.2.2.2.1 _)), (ka _ hD1).trans ((grw_types (World.ownsRow.alloc P8.out.2.1.g _) g9 _ _ _ (by decide) (alloc_kept P8.out.2.2.2.2.2 _)).trans (alloc_kept P8.out.2.2.2.2.2 _)), ba⟩, ea, La⟩
            clear P8 A8 L9 c9 La s9D q9 o9 g9 cl9 ea ba sa ka x0 x1 x2 x3 x4 HCG hsz8
            go_roundg g
            case measure => omega
            case rel =>
              refine ⟨k + 1, v7, v9, gl ++ [(.slice a6 (gs[k]?.getD []).length c6)], by go_num, by have := HIG.out; omega, ?_, HCS2⟩
              unfold Hid
              rw [take_snocI (by rw [HLI.out.1]; exact hlt), HID.out, take_snocG (by rw [HLI.out.2]; exact hlt)]
              exact Pa.out
        · have hd : decide ((k : Int) < (dn : Int)) = false := decide_eq_false (by omega)
          have hkd : k = dn := by omega
          subst hkd
          have HT : Hid (okv = true) := by
            unfold Hid
            have e : uptoZ ⟨(n : Int), co, cn, cc, io, k, dc, go, k, gc, ro, rn, rc, false, cs, ids, gv, gs, rs⟩ k = List.finRange k := uptoZ_all ⟨(n : Int), co, cn, cc, io, k, dc, go, k, gc, ro, rn, rc, false, cs, ids, gv, gs, rs⟩
            have hc := HC.out
            rw [e] at hc
            rw [HW2.out]
            exact hc
          have LL := HP.out.2.2
          rw [List.take_of_length_le (by rw [HLI.out.1]; exact Nat.le_refl _), List.take_of_length_le (by rw [HLI.out.2]; exact Nat.le_refl _)] at LL
          have HLL : Hid _ := LL
          clear LL HC HW2
          go_wp2_with (first
            | (refine wpList_load_row (by rfl) 82 _ (by rfl) D _ (by rfl) HP.out.2.1 _ Try.underlying82 rfl 5 Try.infoRl (by rfl) ?_)
            | (refine wpList_store_row (by rfl) 82 _ _ (by rfl) w w.heap.size (w.heap.size + 1) #[.int .i64 (n : Int), (.slice vca n vcc), vi, vg, (.slice (some ⟨vrb, 0, none⟩) n vrc)] _ (by rfl) (by rfl) HP.out.1.2.1 HP.out.1.2.2 (Nat.le_succ _) 5 Try.infoRl (by rfl) (by rfl) (oneRl _ _ _ _ _ rfl (own_valJ HP.out.2.2.i).1 (own_valJ HP.out.2.2.g).1 rfl) ?_; intro W9 e9 b9 s9 o9))
          have c9 : Cl noU wr (w.heap.size + 1) := rl_cl rfl rfl rfl rfl HP.out.1.2.1
          have L9 := HLL.out.box (w' := W9) (by decide) (by decide) (by decide) HP.out.1.2.1 c9 o9
          obtain ⟨ia, ic, hvi, -⟩ := owns_slice L9.i
          obtain ⟨ga, gcc, hvg, -⟩ := owns_slice L9.g
          subst hvi hvg
          refine bodyPost_ret (res_ctJ _ 2 3 82 (by kernel_rfl) _ _ (w.heap.size + 1) _ _ (by rfl) (by rfl) _ Try.underlying82 rfl 5 Try.infoRl rfl e9) rfl ?_
          exact ⟨⟨(n : Int), _, _, _, _, _, _, _, _, _, _, _, _, by rw [HT.out]; rfl, fun _ => ⟨rfl, gl, L9⟩⟩, b9⟩
end Go.Proofs.Ytoehhnildocihaa

namespace Go.Proofs.Ytoehhnildocihaa
open Go.RowKit Go.Shelf
set_option linter.unusedVariables false
set_option linter.unusedSimpArgs false
/-- What came in is no longer than the bulk, and its words are words. -/
structure UW (u : ZD) : Prop where
  cl : u.cn ≤ 1050000
  rl : u.rn ≤ 1050000
  il : u.dn ≤ 1050000
  gl : u.gn ≤ 1050000
  ll : ∀ k, k < u.gn → (u.gv k).2.1 ≤ 1050000
  c : ∀ x ∈ u.cs, x < 18446744073709551616
  r : ∀ x ∈ u.rs, x < 18446744073709551616
  g : ∀ l ∈ u.gs, ∀ x ∈ l, x < 18446744073709551616
/-- The document's Reals. -/
theorem reals_any (u : ZD) (E : Nat) (hE : E = 1074) (w : World) (hu : ZU w u) (hw : UW u) :
    Calls Try.prog 34 #[.agg (zRow u)] w fun e w' => (∃ N' a1 l1 c1 a2 l2 c2 a3 l3 c3 a4 l4 c4, e = .returned (.tuple #[.agg #[.int .i64 N', .slice a1 l1 c1, .slice a2 l2 c2, .slice a3 l3 c3, .slice a4 l4 c4], .bool (!u.bad && wholeB u)]) ∧ ((!u.bad && wholeB u) = true → N' = u.N ∧ ∃ gl, RlS w' w.heap.size E u.cs u.rs u.ids u.gs (.slice a1 l1 c1) (.slice a4 l4 c4) (.slice a2 l2 c2) (.slice a3 l3 c3) gl)) ∧ Below w.heap.size w w' := by
  by_cases h : u.bad = true ∨ u.N < 1 ∨ 256 < u.N ∨ u.dn ≠ u.gn
  · exact reals_no u E w h hw.il hw.gl
  · have h0 : u.bad = false := by cases hb : u.bad with | true => exact absurd (.inl hb) h | false => rfl
    have h1 : 1 ≤ u.N := by have : ¬ u.N < 1 := fun c => h (.inr (.inl c)); omega
    have h2 : u.N ≤ 256 := by have : ¬ 256 < u.N := fun c => h (.inr (.inr (.inl c))); omega
    have h3 : u.dn = u.gn := by by_cases c : u.dn = u.gn; exact c; exact absurd (.inr (.inr (.inr c))) h
    clear h
    obtain ⟨N, co, cn, cc, io, dn, dc, go, gn, gc, ro, rn, rc, bad, cs, ids, gv, gs, rs⟩ := u
    dsimp only at h0 h1 h2 h3
    subst h0 h3
    obtain ⟨n, rfl⟩ : ∃ n : Nat, N = (n : Int) := ⟨N.toNat, by omega⟩
    exact reals_yes n co cn cc io dn dc go gc ro rn rc cs ids gv gs rs E hE w hu ⟨by omega, by omega⟩ hw.cl hw.rl hw.il hw.ll hw.c hw.r hw.g
theorem and_eqJ {a b c d : Bool} (h1 : a = b) (h2 : c = d) : (a && c) = (b && d) := by rw [h1, h2]
theorem colsB_eq {N : Int} {co co' : Option Addr} {cn cn' cc cc' : Nat} {io io' : Option Addr} {dn dc dc' : Nat} {go go' : Option Addr} {gn gn' gc gc' : Nat} {ro ro' : Option Addr} {rn rn' rc rc' : Nat} {bad bad' : Bool} {cs cs' : List Nat} {ids : List Int} {gv gv' : Nat → Option Addr × Nat × Nat} {gs : List (List Nat)} {rs rs' : List Nat} :
    ∀ (ks : List (_root_.Fin dn)) (last : Int), colsB ⟨N, co, cn, cc, io, dn, dc, go, gn, gc, ro, rn, rc, bad, cs, ids, gv, gs, rs⟩ last ks = colsB ⟨N, co', cn', cc', io', dn, dc', go', gn', gc', ro', rn', rc', bad', cs', ids, gv', gs, rs'⟩ last ks
  | [], _ => rfl
  | k :: ks, last => and_eqJ rfl (colsB_eq ks _)
/-- Two that have the same numbers are taken alike. -/
theorem checkB_eq (x u : ZD) (hN : x.N = u.N) (hb : x.bad = u.bad) (hc : x.cs = u.cs) (hr : x.rs = u.rs) (hi : x.ids = u.ids) (hg : x.gs = u.gs) (h1 : x.cn = u.cn) (h2 : x.dn = u.dn) (h3 : x.gn = u.gn) (h4 : x.rn = u.rn) : checkB x = checkB u := by
  obtain ⟨N, co, cn, cc, io, dn, dc, go, gn, gc, ro, rn, rc, bad, cs, ids, gv, gs, rs⟩ := x
  obtain ⟨N', co', cn', cc', io', dn', dc', go', gn', gc', ro', rn', rc', bad', cs', ids', gv', gs', rs'⟩ := u
  dsimp only at hN hb hc hr hi hg h1 h2 h3 h4
  subst hN hb hc hr hi hg h1 h2 h3 h4
  unfold checkB bareB wholeB
  dsimp only
  rw [colsB_eq]
end Go.Proofs.Ytoehhnildocihaa

namespace Go.Proofs.Ytoehhnildocihaa
open Go.RowKit Go.Shelf
set_option linter.unusedVariables false
open Ieee
theorem zr_fin64 {w : World} {z : ZD} (h : ZR w z) : (∀ x ∈ z.cs, x < 18446744073709551616) ∧ (∀ x ∈ z.rs, x < 18446744073709551616) ∧ ∀ l ∈ z.gs, ∀ x ∈ l, x < 18446744073709551616 := by
  refine ⟨h.c.lt, h.r.lt, fun l hl => ?_⟩
  obtain ⟨j, hj, rfl⟩ := List.getElem_of_mem hl
  have h1 := h.g.each j (by rw [← h.g.length]; exact hj)
  rw [List.getElem?_eq_getElem hj] at h1
  exact h1.lt
theorem good_eq {u z : ZD} (hb : u.bad = z.bad) (hc : checkB u = checkB z) : (!u.bad && wholeB u) = (!z.bad && wholeB z) := by
  unfold checkB at hc
  rw [hb] at hc ⊢
  cases h : z.bad with
  | true => rfl
  | false =>
    rw [h] at hc
    simpa using hc
end Go.Proofs.Ytoehhnildocihaa

namespace Go.Proofs.Ytoehhnildocihaa
open Go.RowKit Go.Shelf
set_option linter.unusedVariables false
set_option linter.unusedSimpArgs false
/-- Two zonotopes have the same numbers. -/
structure SmZ (u z : ZD) : Prop where
  N : u.N = z.N
  bad : u.bad = z.bad
  cs : u.cs = z.cs
  rs : u.rs = z.rs
  ids : u.ids = z.ids
  gs : u.gs = z.gs
  dn : u.dn = z.dn
  gn : u.gn = z.gn
  cn : u.cn = z.cn
  rn : u.rn = z.rn
theorem ofU (z : ZD) (w : World) (hz : ZR w z) (hw : ZW z) :
    Calls Try.prog 7 #[.agg (zRow z)] w fun e w' => ∃ u : ZD, e = .returned (.agg (zRow u)) ∧ ZU w' u ∧ SmZ u z ∧ Below w.heap.size w w' := by
  refine Calls.mono (of10_any z w hz hw) ?_
  rintro e w1 ⟨u, he, hu, u1, u2, u3, u4, u5, u6, u7, u8, u9, u10, b1⟩
  exact ⟨u, he, hu, ⟨u1, u2, u3, u4, u5, u6, u7, u8, u9, u10⟩, b1⟩
theorem realsU {w0 : World} (z u : ZD) (E : Nat) (hE : E = 1074) (W : World) (hz : ZR w0 z) (hw : ZW z) (hu : ZU W u) (k : SmZ u z) :
    Calls Try.prog 34 #[.agg (zRow u)] W fun e w' => ∃ N' a1 l1 c1 a2 l2 c2 a3 l3 c3 a4 l4 c4, e = .returned (.tuple #[.agg #[.int .i64 N', .slice a1 l1 c1, .slice a2 l2 c2, .slice a3 l3 c3, .slice a4 l4 c4], .bool (!z.bad && wholeB z)]) ∧ ((!z.bad && wholeB z) = true → N' = z.N ∧ ∃ gl, RlS w' W.heap.size E z.cs z.rs z.ids z.gs (.slice a1 l1 c1) (.slice a4 l4 c4) (.slice a2 l2 c2) (.slice a3 l3 c3) gl) ∧ Below W.heap.size W w' := by
  have h64 := zr_fin64 hz
  have huw : UW u := ⟨by rw [k.cn]; exact hw.cl, by rw [k.rn]; exact hw.rl, by rw [k.dn]; exact hw.il, by rw [k.gn]; exact hw.gl, fun j hj => by rw [← (hu.g.each j hj).length, k.gs, (hz.g.each j (by rw [← k.gn]; exact hj)).length]; exact hw.coll j (by rw [← k.gn]; exact hj), by rw [k.cs]; exact h64.1, by rw [k.rs]; exact h64.2.1, by rw [k.gs]; exact h64.2.2⟩
  have hge := good_eq k.bad (checkB_eq u z k.N k.bad k.cs k.rs k.ids k.gs k.cn k.dn k.gn k.rn)
  have h := reals_any u E hE W hu huw
  rw [hge] at h
  refine Calls.mono h ?_
  rintro e w' ⟨⟨N', a1, l1, c1, a2, l2, c2, a3, l3, c3, a4, l4, c4, he, hN⟩, hb⟩
  refine ⟨N', a1, l1, c1, a2, l2, c2, a3, l3, c3, a4, l4, c4, he, fun g => ?_, hb⟩
  have h2 := hN g
  rw [k.cs, k.rs, k.ids, k.gs, k.N] at h2
  exact h2
theorem range3 {w : World} {b o : Nat} {x y z : Value} (h1 : w.cell? ⟨b, o, none⟩ = some x) (h2 : w.cell? ⟨b, o + 1, none⟩ = some y) (h3 : w.cell? ⟨b, o + 2, none⟩ = some z) : w.rangeAt b o [x, y, z] := by
  intro j v hv
  match j, hv with
  | 0, hv => simp only [List.getElem?_cons_zero, Option.some.injEq] at hv; subst hv; exact h1
  | 1, hv => simp only [List.getElem?_cons_succ, List.getElem?_cons_zero, Option.some.injEq] at hv; subst hv; exact h2
  | 2, hv => simp only [List.getElem?_cons_succ, List.getElem?_cons_zero, Option.some.injEq] at hv; subst hv; exact h3
  | j + 3, hv => simp at hv
theorem RowN.range {w : World} {base E : Nat} {v : Value} {us : List Nat} (h : RowN w base v E us) {k : Nat} (hk : k < us.length) : ∃ b cap n o l c e, v = .slice (some ⟨b, 0, none⟩) us.length cap ∧ w.rangeAt b (k * 3) [.bool n, .slice o l c, .int .i64 e] ∧ NumC w (.agg #[.bool n, .slice o l c, .int .i64 e]) E 1024 (fval (us[k]?.getD 0)) := by
  obtain ⟨b, cap, hv, n, o, l, c, e, c1, c2, c3, hz⟩ := h.at hk
  exact ⟨b, cap, n, o, l, c, e, hv, range3 c1 c2 c3, hz⟩
end Go.Proofs.Ytoehhnildocihaa

namespace Go.Proofs.Ytoehhnildocihaa
open Go.RowKit Go.Shelf
set_option linter.unusedVariables false
set_option linter.unusedSimpArgs false
theorem num_cl {w : World} {B : Nat} {n : Bool} {o : Option Addr} {l c : Nat} {e : Int} {t : TypeId} (h : w.heap[B]? = some (.cells #[.bool n, .slice o l c, .int .i64 e] t)) : Cl noU w B := by
  refine ⟨_, _, h, fun i v hv => ?_⟩
  match i, hv with
  | 0, hv => cases hv; rfl
  | 1, hv => cases hv; rfl
  | 2, hv => cases hv; rfl
theorem Try.infoN3 : (Try.prog.info? 87).map (·.size) = some 3 := by kernel_rfl
/-- A variable that holds a real. -/
structure BxN (w : World) (B s : Nat) (T z : Int) (n : Bool) (o : Option Addr) (l c : Nat) (e : Int) : Prop where
  row : w.heap[B]? = some (.cells #[.bool n, .slice o l c, .int .i64 e] 87)
  num : NumC w (.agg #[.bool n, .slice o l c, .int .i64 e]) s T z
theorem NumC.form {w : World} {v : Value} {s : Nat} {T z : Int} (h : NumC w v s T z) : ∃ n o l c e, v = .agg #[.bool n, .slice o l c, .int .i64 e] := by
  obtain ⟨neg, m, e, ⟨ao, len, cap, xs, h1, _⟩, _⟩ := h
  exact ⟨neg, ao, len, cap, e, h1⟩
theorem NumC.zeroJ (w : World) (s : Nat) (T : Int) (hT : 0 ≤ T) : NumC w (.agg #[.bool false, .slice none 0 0, .int .i64 0]) s T 0 :=
  ⟨false, 0, 0, ⟨none, 0, 0, [], rfl, rd4_none _, .inl rfl, rfl⟩, by omega, by rw [bl_zero]; omega, zv_zero _ _ _, fun _ => rfl⟩
/-- A number of a column. -/
theorem RlS.elem {w : World} {base E : Nat} {cs rs : List Nat} {ids : List Int} {gs : List (List Nat)} {vc vr vi : Value} {a3 : Option Addr} {l3 c3 : Nat} {gl : List Value} (h : RlS w base E cs rs ids gs vc vr vi (.slice a3 l3 c3) gl) {k i n : Nat} (hk : k < gs.length) (hn : (gs[k]?.getD []).length = n) (hi : i < n) :
    ∃ g b cap nb o l c e, a3 = some ⟨g, 0, none⟩ ∧ w.cell? ⟨g, k, none⟩ = some (.slice (some ⟨b, 0, none⟩) n cap) ∧ w.rangeAt b (i * 3) [.bool nb, .slice o l c, .int .i64 e] ∧ NumC w (.agg #[.bool nb, .slice o l c, .int .i64 e]) E 1024 (fval ((gs[k]?.getD [])[i]?.getD 0)) := by
  obtain ⟨ao, cap, h1, h2, h3⟩ := owns_slice h.g
  have hl := h.len
  rcases h3 with h0 | ⟨g, rfl, hc⟩
  · omega
  have hkl : k < gl.length := by omega
  have hcell := hc k hkl
  rw [List.getElem?_eq_getElem hkl] at hcell
  obtain ⟨b, cap', nb, o, l, c, e, hv, hr, hz⟩ := (h.col k _ (List.getElem?_eq_getElem hkl)).range (k := i) (by rw [hn]; exact hi)
  rw [hv, hn] at hcell
  injection h1 with q1
  exact ⟨g, b, cap', nb, o, l, c, e, q1, hcell, hr, hz⟩
theorem RlS.lenG {w : World} {base E : Nat} {cs rs : List Nat} {ids : List Int} {gs : List (List Nat)} {vc vr vi : Value} {a3 : Option Addr} {l3 c3 : Nat} {gl : List Value} (h : RlS w base E cs rs ids gs vc vr vi (.slice a3 l3 c3) gl) : l3 = gs.length := by
  obtain ⟨ao, cap, h1, h2, h3⟩ := owns_slice h.g
  injection h1 with q1 q2
  rw [q2, h.len]
end Go.Proofs.Ytoehhnildocihaa

namespace Go.Proofs.Ytoehhnildocihaa
open Go.RowKit Go.Shelf
set_option linter.unusedVariables false
set_option linter.unusedSimpArgs false
set_option maxRecDepth 100000 in
set_option maxHeartbeats 3000000 in
/-- The document's Exact. -/
theorem exact_any (ao : Option Addr) (len cap : Nat) (us : List Nat) (E : Nat) (hE : E = 1074) (w : World) (h : RdUs w ao len cap us) (hlt : ∀ u ∈ us, u < 18446744073709551616) (hl : len ≤ 1050000) :
    Calls Try.prog 33 #[.slice ao len cap] w fun e w' => (∃ v, e = .returned (.tuple #[v, .bool (numsB us)]) ∧ (numsB us = true → RowN w' w.heap.size v E us)) ∧ Below w.heap.size w w' := by
  have HR : Hid _ := h
  have hln := h.length
  have HLT : Hid _ := hlt
  clear h hlt
  obtain ⟨nn, hnn⟩ : ∃ nn, numsB us = nn := ⟨_, rfl⟩
  have HE : Hid (nn = numsB us) := hnn.symm
  rw [hnn]
  have HLN : Hid (us.length = len) := hln
  clear hln hnn
  go_enter Try.func33, Try.ntmps33
  go_wp2_with fail
  go_loopg [4, 5] len (fun g v iv wx => ∃ k : Nat, iv = .int .i64 k ∧ k + g = len ∧ Hid (RowN wx w.heap.size v E (us.take k)) ∧ Hid (Below w.heap.size w wx) ∧ Hid (nn = numsB (us.drop k)))
  case atStart => exact ⟨0, rfl, by omega, RowN.nil _ _ _, Below.refl _ _, HE.out⟩
  case round =>
    obtain ⟨k, rfl, hk, HO, HB, HD⟩ := hrel
    clear HE
    have hsr := HB.out.size
    by_cases hlt : k < len
    · have hd : decide ((k : Int) < (len : Int)) = true := decide_eq_true (by omega)
      obtain ⟨g, rfl⟩ : ∃ g, gk = g + 1 := ⟨gk - 1, by omega⟩
      have HIG : Hid _ := hk
      rcases (HR.out.later HB.out).cells with h0 | ⟨ab, aoff, rfl, hca⟩
      · omega
      have ga := hca k hlt
      have hkl : k < us.length := by rw [HLN.out]; exact hlt
      have hux := HLT.out _ (getD_mem (us := us) (j := k) hkl)
      have HTS : Hid _ := take_snocJ (us := us) (k := k) hkl
      have HDS : Hid _ := numsB_drop us hkl
      obtain ⟨x, hx⟩ : ∃ x, us[k]?.getD 0 = x := ⟨_, rfl⟩
      rw [hx] at ga hux HTS HDS
      have HOF : Hid _ := ofC_any x hux wr E hE
      clear hca hx hk hkl
      go_upto_region 6 with (first
        | (go_at_call 55; refine Calls.mono HOF.out ?_; rintro e w1 ⟨v1, rfl, ⟨z1, hz1, hv1⟩, b1⟩; obtain ⟨n1, m1, e1, ⟨o1, l1, c1, xs1, rfl, hr1⟩, hr2⟩ := id hz1; clear hr1 hr2))
      have N1 : Hid (NumC w1 (.agg #[.bool n1, .slice o1 l1 c1, .int .i64 e1]) E 1024 z1 ∧ (Fin x → z1 = fval x)) := ⟨hz1, hv1⟩
      clear hz1 hv1 HOF
      have B1 : Hid (Below wr.heap.size wr w1) := b1
      have s1 := b1.size
      clear b1
      by_cases hf : Fin x
      · have hfd : decide (Fin x) = true := decide_eq_true hf
        rw [hfd] at HDS ⊢
        have HF : Hid _ := hf
        clear hf hfd
        obtain ⟨xs, hxo, hxj⟩ := (HO.out.later B1.out).own
        have HXO : Hid _ := hxo
        have HXJ : Hid _ := hxj
        have hxl : (us.take k).length = k := by rw [List.length_take, HLN.out]; omega
        rw [hxl] at hxo
        have HX2 : Hid _ := hxo
        clear hxo hxj
        have HC2 : Hid (∀ g, u4.ownBlock = some g → Cl noU ((w1.alloc (.cells #[.bool n1, .slice o1 l1 c1, .int .i64 e1] 87)).alloc (.cells #[.bool n1, .slice o1 l1 c1, .int .i64 e1] 87)) g) := fun g hg => ((HO.out.cl g hg).later B1.out).later (((Below.refl _ w1).alloc (Nat.le_refl _) _).alloc (by simp only [alloc_size]; omega) _)
        go_wp2_with (first
          | (at_builtin; refine append_clJ noU Try.underlying77 Try.infoNumJ rfl (by decide) (by decide) zero_noU _ (by rfl) _ _ (by rfl) w.heap.size _ k xs (by rfl) (World.ownsRow.alloc (World.ownsRow.alloc HX2.out _) _) HC2.out ⟨w1.heap.size + 1, 0, none⟩ 1 1 [.bool n1, .slice o1 l1 c1, .int .i64 e1] (by rfl) (by decide) rfl (news_threeJ (heap_at _ _ (w1.heap.size + 1) (by simp only [alloc_size]))) (three_one n1 o1 l1 c1 e1) (three_noU n1 o1 l1 c1 e1) (by omega) (by simp only [alloc_size]; omega) ?_; intro v5 w5 o5 g5 cl5))
        have A1 : Below w1.heap.size w1 ((w1.alloc (.cells #[.bool n1, .slice o1 l1 c1, .int .i64 e1] 87)).alloc (.cells #[.bool n1, .slice o1 l1 c1, .int .i64 e1] 87)) := ((Below.refl _ w1).alloc (Nat.le_refl _) _).alloc (by simp only [alloc_size]; omega) _
        have R5 : Hid (RowN w5 w.heap.size v5 E (us.take k ++ [x])) := by
          have hz := N1.out.2 HF.out
          have h3 := (HO.out.later B1.out).later A1
          obtain ⟨xs', hx', hj'⟩ := h3.own
          refine RowN.push (xs := xs) (by rw [hxl]; exact World.ownsRow.alloc (World.ownsRow.alloc HX2.out _) _) (fun j hj => ?_) HC2.out (hz ▸ N1.out.1.later A1) (by rw [hxl]; exact o5) g5 cl5
          obtain ⟨n2, o2, l2, c2, e2, a1, a2, a3, a4⟩ := HXJ.out j hj
          exact ⟨n2, o2, l2, c2, e2, a1, a2, a3, a4.later A1⟩
        have B5 : Hid (Below w.heap.size w w5) := (to_call (to_call HB.out B1.out) A1).trans (g5.below (fun k hk => (World.ownsRow.lt HX2.out k hk).1) (by simp only [alloc_size]; omega))
        clear o5 g5 cl5 A1 HC2 HX2 HXO HXJ
        go_roundg g
        case measure => omega
        case rel => exact ⟨k + 1, by go_num, by have := HIG.out; omega, by unfold Hid; rw [HTS.out]; exact R5.out, B5, by unfold Hid; rw [HD.out, HDS.out, Bool.true_and]⟩
      · have hfd : decide (Fin x) = false := decide_eq_false hf
        rw [hfd] at HDS ⊢
        have HN0 : Hid (nn = false) := by unfold Hid; rw [HD.out, HDS.out, Bool.false_and]
        have HB9 : Hid (Below w.heap.size w (w1.alloc (.cells #[.bool n1, .slice o1 l1 c1, .int .i64 e1] 87))) := (to_call HB.out B1.out).alloc (to_call HB.out B1.out).size _
        clear hf hfd
        go_wp2_with fail
        refine bodyPost_ret (results_tmp2 rfl _ _ _) rfl ?_
        exact ⟨⟨_, by rw [HN0.out]; rfl, fun h => by rw [HN0.out] at h; cases h⟩, HB9.out⟩
    · have hd : decide ((k : Int) < (len : Int)) = false := decide_eq_false (by omega)
      have HO2 : Hid (RowN wr w.heap.size u4 E us) := by
        have := HO.out
        rw [List.take_of_length_le (by rw [HLN.out]; omega)] at this
        exact this
      have HN1 : Hid (nn = true) := by unfold Hid; rw [HD.out, List.drop_eq_nil_of_le (by rw [HLN.out]; omega)]; rfl
      go_wp2_with fail
      refine bodyPost_ret (results_tmp2 rfl _ _ _) rfl ?_
      exact ⟨⟨_, by rw [HN1.out]; rfl, fun _ => HO2.out⟩, HB.out⟩
set_option maxRecDepth 100000 in
set_option maxHeartbeats 4000000 in
/-- The document's Weighs. -/
theorem weighs_any (va vb : Value) (xs ys : List Nat) (m B1 B2 E : Nat) (hE : E = 1074) (w : World) (ha : RowN w B1 va E xs) (hb : RowN w B2 vb E ys) (hlx : m ≤ xs.length) (hlm : xs.length ≤ 1000) (hly : ys.length = m) (hn : m ≤ 256) :
    Calls Try.prog 36 #[va, vb] w fun e w' => ∃ v, e = .returned v ∧ NumC w' v (E + E) (2048 + m) (dotV xs ys m) ∧ Below w.heap.size w w' := by
  obtain ⟨aa, ac, hva⟩ := ha.form
  obtain ⟨ba, bc, hvb⟩ := hb.form
  obtain ⟨la, hla⟩ : ∃ la, xs.length = la := ⟨_, rfl⟩
  rw [hla] at hva hlx hlm
  rw [hly] at hvb
  subst hva hvb
  have HR : Hid (∀ W', Below w.heap.size w W' → RowN W' B1 (.slice aa la ac) E xs ∧ RowN W' B2 (.slice ba m bc) E ys) := fun W' h => ⟨ha.later h, hb.later h⟩
  have HS : Hid (E ≤ 3000 ∧ m ≤ 256) := ⟨by omega, hn⟩
  have HL : Hid (xs.length = la ∧ ys.length = m) := ⟨hla, hly⟩
  clear ha hb hly hE hla
  have X0 : Below w.heap.size w ((w.alloc (.cells #[.bool false, .slice none 0 0, .int .i64 0] 87)).alloc (.cells #[.bool false, .slice none 0 0, .int .i64 0] 87)) := ((Below.refl _ w).alloc (Nat.le_refl _) _).alloc (by simp only [alloc_size]; omega) _
  have Y0 : ((w.alloc (.cells #[.bool false, .slice none 0 0, .int .i64 0] 87)).alloc (.cells #[.bool false, .slice none 0 0, .int .i64 0] 87)).heap[w.heap.size]? = some (.cells #[.bool false, .slice none 0 0, .int .i64 0] 87) := alloc_kept (heap_alloc_new w _) _
  have Y1 : ((w.alloc (.cells #[.bool false, .slice none 0 0, .int .i64 0] 87)).alloc (.cells #[.bool false, .slice none 0 0, .int .i64 0] 87)).heap[w.heap.size + 1]? = some (.cells #[.bool false, .slice none 0 0, .int .i64 0] 87) := heap_at _ _ (w.heap.size + 1) (by simp only [alloc_size])
  go_enter Try.func36, Try.ntmps36
  go_upto_region 2 with fail
  obtain ⟨X, hX⟩ : ∃ X, ((w.alloc (.cells #[.bool false, .slice none 0 0, .int .i64 0] 87)).alloc (.cells #[.bool false, .slice none 0 0, .int .i64 0] 87)) = X := ⟨_, rfl⟩
  rw [hX] at X0 Y0 Y1 ⊢
  have P0 : Hid (BxN X (w.heap.size + 1) (E + E) (2048 + (((0 : Nat) : Int) : Int)) (dotV xs ys 0) false none 0 0 0 ∧ Below w.heap.size w X ∧ X.heap[w.heap.size]? = some (.cells #[.bool false, .slice none 0 0, .int .i64 0] 87)) := ⟨⟨Y1, NumC.zeroJ _ _ _ (by omega)⟩, X0, Y0⟩
  clear hX X0 Y0 Y1
  go_wp2_with fail
  go_loopg [6] m (fun q v6 wx => ∃ (k : Nat), v6 = .int .i64 k ∧ k + q = m ∧ ∃ (n : Bool) (o : Option Addr) (l c : Nat) (e : Int), Hid (BxN wx (w.heap.size + 1) (E + E) (2048 + (k : Int)) (dotV xs ys k) n o l c e ∧ Below w.heap.size w wx ∧ wx.heap[w.heap.size]? = some (.cells #[.bool false, .slice none 0 0, .int .i64 0] 87)))
  case atStart => exact ⟨0, rfl, by omega, false, none, 0, 0, 0, P0⟩
  case round =>
    obtain ⟨k, rfl, hk, n, o, l, c, e, HI⟩ := hrel
    clear P0
    by_cases h1 : k < m
    · have hd1 : decide ((k : Int) < (m : Int)) = true := decide_eq_true (by omega)
      obtain ⟨q, rfl⟩ : ∃ q, gk = q + 1 := ⟨gk - 1, by omega⟩
      have HIG : Hid _ := hk
      clear hk
      go_upto_region 5 with fail
      obtain ⟨hRa, hRb⟩ := HR.out wr HI.out.2.1
      obtain ⟨ga, qa, an, ao, al, ac', ae, va', ra, za⟩ := RowN.range hRa (k := k) (by rw [HL.out.1]; omega)
      obtain ⟨gb, qb, bn, bo, bl0, bc', be, vb', rb, zb⟩ := RowN.range hRb (k := k) (by rw [HL.out.2]; exact h1)
      rw [HL.out.1] at va'
      rw [HL.out.2] at vb'
      have R1 : Hid (wr.rangeAt ga (k * 3) [.bool an, .slice ao al ac', .int .i64 ae]) := ra
      have R2 : Hid (wr.rangeAt gb (k * 3) [.bool bn, .slice bo bl0 bc', .int .i64 be]) := rb
      have Z1 : Hid (NumC wr (.agg #[.bool an, .slice ao al ac', .int .i64 ae]) E 1024 (fval (xs[k]?.getD 0))) := za
      have Z2 : Hid (NumC wr (.agg #[.bool bn, .slice bo bl0 bc', .int .i64 be]) E 1024 (fval (ys[k]?.getD 0))) := zb
      have haa : aa = some ⟨ga, 0, none⟩ := by injection va'
      have hba : ba = some ⟨gb, 0, none⟩ := by injection vb'
      have hk0 : (k : Int) < (m : Int) := by omega
      have hk9 : (k : Int) < (la : Int) := by omega
      subst haa hba
      clear ra rb za zb va' vb' hRa hRb hd1
      have SX : Below wr.heap.size wr wr.drew := (Below.refl _ _).drew
      refine wp_region_noPanic ?_
      refine wp_region_P (S := (fun V => Below wr.heap.size wr V)) (s := 11) (by kernel_rfl) ?_
      refine takeP 14 (i := 0) (v := .agg #[.bool n, .slice o l c, .int .i64 e]) rfl rfl (by kernel_rfl) (by kernel_rfl) (by kernel_rfl) (by kernel_rfl) rfl (by kernel_rfl) (fun _ _ _ h => h) (Or.inl ⟨by kernel_rfl, fun w' hSw => ex_loadRN _ 87 _ rfl (w.heap.size + 1) (by kernel_rfl) w' _ (kept hSw HI.out.1.row) _ Try.underlying87 rfl 3 Try.infoN3 rfl⟩) SX ?_
      try simp only [Act.put, List.setIfInBounds_toArray, List.set_cons_zero, List.set_cons_succ]
      refine takeP 15 (i := 1) (v := ?_) rfl rfl (by kernel_rfl) (by kernel_rfl) (by kernel_rfl) (by kernel_rfl) rfl (by kernel_rfl) (fun _ _ _ h => h) (Or.inl ⟨by kernel_rfl, ?_⟩) SX ?_
      rotate_left
      · intro w' hSw; go_simp; try with_reducible rfl
      try simp only [Act.put, List.setIfInBounds_toArray, List.set_cons_zero, List.set_cons_succ]
      refine takeP 16 (i := 2) (v := ?_) rfl rfl (by kernel_rfl) (by kernel_rfl) (by kernel_rfl) (by kernel_rfl) rfl (by kernel_rfl) (fun _ _ _ h => h) (Or.inl ⟨by kernel_rfl, ?_⟩) SX ?_
      rotate_left
      · intro w' hSw; go_simp; try with_reducible rfl
      try simp only [Act.put, List.setIfInBounds_toArray, List.set_cons_zero, List.set_cons_succ]
      refine takeP 17 (i := 3) (v := ?_) rfl rfl (by kernel_rfl) (by kernel_rfl) (by kernel_rfl) (by kernel_rfl) rfl (by kernel_rfl) (fun _ _ _ h => h) (Or.inl ⟨by kernel_rfl, ?_⟩) SX ?_
      rotate_left
      · intro w' hSw; go_simp; try with_reducible rfl
      try simp only [Act.put, List.setIfInBounds_toArray, List.set_cons_zero, List.set_cons_succ]
      refine takeP 18 (i := 4) (v := .agg #[.bool an, .slice ao al ac', .int .i64 ae]) rfl rfl (by kernel_rfl) (by kernel_rfl) (by kernel_rfl) (by kernel_rfl) rfl (by kernel_rfl) (fun _ _ _ h => h) (yieldsIf_load_mid (by kernel_rfl) 87 _ rfl ga (k * 3) (by kernel_rfl) #[.bool an, .slice ao al ac', .int .i64 ae].toList _ (fun V' hS => (range_later R1.out hS : V'.rangeAt ga (k * 3) [.bool an, .slice ao al ac', .int .i64 ae])) Try.underlying87 rfl (by kernel_rfl)) SX ?_
      try simp only [Act.put, List.setIfInBounds_toArray, List.set_cons_zero, List.set_cons_succ]
      refine takeP 19 (i := 5) (v := ?_) rfl rfl (by kernel_rfl) (by kernel_rfl) (by kernel_rfl) (by kernel_rfl) rfl (by kernel_rfl) (fun _ _ _ h => h) (Or.inl ⟨by kernel_rfl, ?_⟩) SX ?_
      rotate_left
      · intro w' hSw; go_simp; try with_reducible rfl
      try simp only [Act.put, List.setIfInBounds_toArray, List.set_cons_zero, List.set_cons_succ]
      refine takeP 20 (i := 6) (v := ?_) rfl rfl (by kernel_rfl) (by kernel_rfl) (by kernel_rfl) (by kernel_rfl) rfl (by kernel_rfl) (fun _ _ _ h => h) (Or.inl ⟨by kernel_rfl, ?_⟩) SX ?_
      rotate_left
      · intro w' hSw; go_simp; try with_reducible rfl
      try simp only [Act.put, List.setIfInBounds_toArray, List.set_cons_zero, List.set_cons_succ]
      refine takeP 21 (i := 7) (v := ?_) rfl rfl (by kernel_rfl) (by kernel_rfl) (by kernel_rfl) (by kernel_rfl) rfl (by kernel_rfl) (fun _ _ _ h => h) (Or.inl ⟨by kernel_rfl, ?_⟩) SX ?_
      rotate_left
      · intro w' hSw; go_simp; try with_reducible rfl
      try simp only [Act.put, List.setIfInBounds_toArray, List.set_cons_zero, List.set_cons_succ]
      refine takeP 22 (i := 8) (v := .agg #[.bool bn, .slice bo bl0 bc', .int .i64 be]) rfl rfl (by kernel_rfl) (by kernel_rfl) (by kernel_rfl) (by kernel_rfl) rfl (by kernel_rfl) (fun _ _ _ h => h) (yieldsIf_load_mid (by kernel_rfl) 87 _ rfl gb (k * 3) (by kernel_rfl) #[.bool bn, .slice bo bl0 bc', .int .i64 be].toList _ (fun V' hS => (range_later R2.out hS : V'.rangeAt gb (k * 3) [.bool bn, .slice bo bl0 bc', .int .i64 be])) Try.underlying87 rfl (by kernel_rfl)) SX ?_
      try simp only [Act.put, List.setIfInBounds_toArray, List.set_cons_zero, List.set_cons_succ]
      refine wpAnyP_ready (rs := [9]) (by kernel_rfl) (by simp) ?_
      refine consP _ rfl (hopCd 23 rfl (by kernel_rfl) rfl (by kernel_rfl) (Calls.mono (timesC_any _ _ E 1024 1024 _ _ _ (NumC.later Z1.out SX).toZ (NumC.later Z2.out SX).toZ (by have := HS.out; omega) (by omega) (by omega)) ?_)) AllReadyP.nil
      rintro e V1 ⟨v1, rfl, hz1, b1⟩
      obtain ⟨n1, o1, t1, p1, x1, hv1⟩ := hz1.form
      subst hv1
      have SX : Below wr.heap.size wr V1 := to_call SX b1
      clear b1
      refine ⟨_, rfl, SX, ?_⟩
      try simp only [Act.put, List.setIfInBounds_toArray, List.set_cons_zero, List.set_cons_succ]
      refine wpAnyP_ready (rs := [10]) (by kernel_rfl) (by simp) ?_
      refine consP _ rfl (hopCd 24 rfl (by kernel_rfl) rfl (by kernel_rfl) (Calls.mono (plusC_any _ _ (E + E) (2048 + k) _ _ _ (NumC.later HI.out.1.num SX) (hz1.mono (by omega)) (by have := HS.out; omega) (by have := HS.out; omega)) ?_)) AllReadyP.nil
      rintro e V2 ⟨v2, rfl, hz2, b2⟩
      obtain ⟨n2, o2, t2, p2, x2, hv2⟩ := hz2.form
      subst hv2
      have SX : Below wr.heap.size wr V2 := to_call SX b2
      clear b2 hz1
      refine ⟨_, rfl, SX, ?_⟩
      try simp only [Act.put, List.setIfInBounds_toArray, List.set_cons_zero, List.set_cons_succ]
      refine wpAnyP_ready (rs := [11]) (by kernel_rfl) (by simp) ?_
      refine consPs _ rfl (by kernel_rfl) (hopL rfl (wpList_store_row (by rfl) 87 _ _ (by rfl) w w.heap.size (w.heap.size + 1) #[.bool n2, .slice o2 t2 p2, .int .i64 x2] _ (by kernel_rfl) (by kernel_rfl) (kept SX HI.out.1.row) (to_call HI.out.2.1 SX) (by omega) 3 Try.infoN3 rfl rfl (oneN _ _ _ _ _) fun V3 e3 b3 s3 k3 => ?_)) AllReadyP.nil
      refine ⟨trivial, ?_⟩
      try simp only [Act.put, List.setIfInBounds_toArray, List.set_cons_zero, List.set_cons_succ]
      refine wpAnyP_done (by kernel_rfl) ?_ _
      refine NoPanic.normal ?_
      try simp only [Act.put, List.setIfInBounds_toArray, List.set_cons_zero, List.set_cons_succ]
      have HZ : Hid (BxN V3 (w.heap.size + 1) (E + E) (2048 + (((k + 1 : Nat) : Int) : Int)) (dotV xs ys (k + 1)) n2 o2 t2 p2 x2 ∧ Below w.heap.size w V3 ∧ V3.heap[w.heap.size]? = some (.cells #[.bool false, .slice none 0 0, .int .i64 0] 87)) := by
        have hz3 := hz2.cl (num_cl (kept SX HI.out.1.row)) (fun b hb _ => k3 b hb)
        exact ⟨⟨e3, hz3.mono (by rw [Int.natCast_add]; omega)⟩, b3, by rw [k3 _ (by omega)]; exact kept SX HI.out.2.2⟩
      clear hz2 SX k3 b3 e3 s3 R1 R2 Z1 Z2 HI
      go_wp2_with fail
      go_roundg q
      case measure => omega
      case rel => exact ⟨k + 1, by go_num, by have := HIG.out; omega, n2, o2, t2, p2, x2, HZ⟩
    · have hd1 : decide ((k : Int) < (m : Int)) = false := decide_eq_false (by omega)
      have hka : k = m := by omega
      have HZ : Hid (NumC wr (.agg #[.bool n, .slice o l c, .int .i64 e]) (E + E) (2048 + m) (dotV xs ys m)) := by
        have h := HI.out.1.num
        rw [hka] at h
        exact h
      have hd2 : decide (k < m) = false := decide_eq_false h1
      clear hka hk
      go_wp2_with (first
        | (refine wpList_load_row (by rfl) 87 _ (by rfl) (w.heap.size + 1) _ (by rfl) HI.out.1.row _ Try.underlying87 rfl 3 Try.infoN3 (by rfl) ?_)
        | (refine wpList_store_row (by rfl) 87 _ _ (by rfl) w w.heap.size w.heap.size #[.bool n, .slice o l c, .int .i64 e] _ (by rfl) (by rfl) HI.out.2.2 HI.out.2.1 (Nat.le_refl _) 3 Try.infoN3 (by rfl) (by rfl) (oneN _ _ _ _ _) ?_; intro W9 e9 b9 s9 o9))
      refine bodyPost_ret (v := .agg #[.bool n, .slice o l c, .int .i64 e]) (res_num _ 4 (by kernel_rfl) _ _ w.heap.size _ _ _ (by rfl) e9) rfl ⟨_, rfl, ?_, b9⟩
      exact (show NumC _ _ _ _ _ from HZ.out).cl (num_cl HI.out.2.2) (fun b hb _ => o9 b hb)
end Go.Proofs.Ytoehhnildocihaa

namespace Go.Proofs.Ytoehhnildocihaa
open Go.RowKit Go.Shelf
set_option linter.unusedVariables false
set_option linter.unusedSimpArgs false
theorem allocNJ (w : World) : (Instr.alloc 87 true (.tuple #[])).run Try.prog w = .ok (.pointer (some ⟨w.heap.size, 0, none⟩)) (w.alloc (.cells #[.bool false, .slice none 0 0, .int .i64 0] 87)) := by kernel_rfl
end Go.Proofs.Ytoehhnildocihaa

namespace Go.Proofs.Ytoehhnildocihaa
open Go.RowKit Go.Shelf
set_option linter.unusedVariables false
set_option linter.unusedSimpArgs false
theorem rdU_own {W : World} {base : Nat} {v : Value} {us : List Nat} (h : W.ownsRow base 53 1 v us.length (uJ us)) : ∃ ao c, v = .slice ao us.length c ∧ RdUs W ao us.length c us := by
  obtain ⟨ao, cap, h1, h2, h3⟩ := owns_slice h
  refine ⟨ao, cap, h1, rfl, h2, ?_⟩
  rcases h3 with h0 | ⟨g, rfl, hc⟩
  · exact .inl h0
  · refine .inr ⟨g, 0, rfl, fun j hj => ?_⟩
    rw [Nat.zero_add, hc j hj]
    unfold uJ
    rw [List.getElem?_map, List.getElem?_eq_getElem hj]
    rfl
theorem finsB {us : List Nat} (h : ∀ u ∈ us, Fin u) (j : Nat) : Fin (us[j]?.getD 0) := by
  by_cases hj : j < us.length
  · exact h _ (getD_mem hj)
  · rw [List.getElem?_eq_none (by omega)]; decide
theorem ltsB {us : List Nat} (h : ∀ u ∈ us, u < 18446744073709551616) (j : Nat) : us[j]?.getD 0 < 18446744073709551616 := by
  by_cases hj : j < us.length
  · exact h _ (getD_mem hj)
  · rw [List.getElem?_eq_none (by omega)]; decide
theorem clB_eq (z : ZD) (us : List Nat) : clB z us = ((!z.bad && wholeB z) && decide ((us.length : Int) = z.N + 1) && numsB us) := by
  unfold clB checkB
  cases z.bad with
  | true => simp
  | false => simp
end Go.Proofs.Ytoehhnildocihaa

namespace Go.Proofs.Ytoehhnildocihaa
open Go.RowKit Go.Shelf
set_option linter.unusedVariables false
set_option linter.unusedSimpArgs false
theorem WhF.ofU {w : World} {z : ZD} (hz : ZU w z) (hd : z.dn ≤ 1050000) (h : wholeB z = true) : WhF z := by
  unfold wholeB at h
  simp only [Bool.and_eq_true, decide_eq_true_eq] at h
  obtain ⟨⟨⟨⟨⟨⟨h1, h2⟩, h3⟩, h4⟩, h5⟩, h6⟩, h7⟩ := h
  obtain ⟨c1, c2⟩ := numN_fin h3
  obtain ⟨r1, r2⟩ := numN_fin h4
  have hl := hz.r.length
  have hlc := hz.c.length
  have hg := fun (k : Nat) (hk : k < z.dn) => numN_fin (colsB_num h7 ⟨k, hk⟩ (List.mem_finRange _))
  refine ⟨by omega, by omega, by omega, by omega, h5, by omega, hl, fun k hk => by have := (hg k hk).1; dsimp only at this; omega, fun i => ?_, ⟨fin_getD c2, fin_getD r2, fun k j => ?_, hd⟩⟩
  · by_cases hi : i < z.rs.length
    · rw [List.getElem?_eq_getElem hi]
      have h8 := List.all_eq_true.1 h6 _ (List.getElem_mem hi)
      have h9 : ¬ srung z.rs[i] < 0 := of_decide_eq_true h8
      have h10 := srung_le 0 z.rs[i]
      rw [fval_zeroJ, show srung 0 = 0 by decide] at h10
      exact h10.1 (by omega)
    · rw [List.getElem?_eq_none (by omega)]; exact Int.le_of_eq fval_zeroJ.symm
  · by_cases hk : k < z.dn
    · exact fin_getD (hg k hk).2 j
    · have e : z.gs[k]? = none := List.getElem?_eq_none (by have := hz.g.length; omega)
      rw [e]
      exact fin_zeroJ
end Go.Proofs.Ytoehhnildocihaa

namespace Go.Proofs.Ytoehhnildocihaa
open Go.RowKit
set_option linter.unusedVariables false
end Go.Proofs.Ytoehhnildocihaa

namespace Go.Proofs.Ytoehhnildocihaa
open Go.RowKit
set_option linter.unusedVariables false
theorem NumB.lt {V : World} {B : Nat} (h : NumB V B) : B < V.heap.size := by
  obtain ⟨a, b, c, d, e, h⟩ := h; exact blk_lt h
theorem NumB.keep {V V' : World} {B : Nat} (h : NumB V B) (hk : V'.heap[B]? = V.heap[B]?) : NumB V' B := by
  obtain ⟨a, b, c, d, e, h⟩ := h; exact ⟨a, b, c, d, e, hk.trans h⟩
variable {w V : World} {R Q X Y S : Nat} {so : Obj} {nx ny : Bool} {ao bo : Option Addr} {len cap blen bcap : Nat} {ex ey : Int} {E : Nat} {z1 z2 : Int}
end Go.Proofs.Ytoehhnildocihaa

namespace Go.Proofs.Ytoehhnildocihaa
open Go.RowKit Go.Shelf
set_option linter.unusedVariables false
set_option linter.unusedSimpArgs false
theorem SmZ.symm {u z : ZD} (m : SmZ u z) : SmZ z u := ⟨m.N.symm, m.bad.symm, m.cs.symm, m.rs.symm, m.ids.symm, m.gs.symm, m.dn.symm, m.gn.symm, m.cn.symm, m.rn.symm⟩
theorem SmZ.trans {u z x : ZD} (m : SmZ u z) (k : SmZ z x) : SmZ u x := ⟨m.N.trans k.N, m.bad.trans k.bad, m.cs.trans k.cs, m.rs.trans k.rs, m.ids.trans k.ids, m.gs.trans k.gs, m.dn.trans k.dn, m.gn.trans k.gn, m.cn.trans k.cn, m.rn.trans k.rn⟩
theorem SmZ.bits {x u z : ZD} (m : SmZ x z) (k : SmZ u z) : bitsB x u = true := by
  unfold bitsB
  rw [m.N, m.bad, m.cs, m.rs, m.ids, m.gs, k.N, k.bad, k.cs, k.rs, k.ids, k.gs]
  simp
end Go.Proofs.Ytoehhnildocihaa

namespace Go.Proofs.Ytoehhnildocihaa
open Go.RowKit Go.Shelf
set_option linter.unusedVariables false
set_option linter.unusedSimpArgs false
theorem RlS.colAtM {w : World} {base E : Nat} {cs rs : List Nat} {ids : List Int} {gs : List (List Nat)} {vc vr vi : Value} {a3 : Option Addr} {l3 c3 : Nat} {gl : List Value} (h : RlS w base E cs rs ids gs vc vr vi (.slice a3 l3 c3) gl) {k : Nat} (hk : k < gs.length) : ∃ g u, a3 = some ⟨g, 0, none⟩ ∧ w.cell? ⟨g, k, none⟩ = some u ∧ RowN w base u E (gs[k]?.getD []) := by
  obtain ⟨ao, cap, h1, h2, h3⟩ := owns_slice h.g
  have hl := h.len
  rcases h3 with h0 | ⟨g, rfl, hc⟩
  · omega
  have hkl : k < gl.length := by omega
  injection h1 with q1 q2 q3
  refine ⟨g, gl[k], q1, ?_, h.col k _ (List.getElem?_eq_getElem hkl)⟩
  rw [hc k hkl, List.getElem?_eq_getElem hkl]
end Go.Proofs.Ytoehhnildocihaa

namespace Go.Proofs.Ytoehhnildocihaa
open Go.RowKit Go.Shelf
set_option linter.unusedVariables false
set_option linter.unusedSimpArgs false
theorem OfL.nilM (w : World) (base : Nat) : OfL w base [] [] [] [] (.slice none 0 0) (.slice none 0 0) (.slice none 0 0) (.slice none 0 0) [] := ⟨World.ownsRow_nil _ _ _ _, World.ownsRow_nil _ _ _ _, World.ownsRow_nil _ _ _ _, World.ownsRow_nil _ _ _ _, rfl, fun j u hj => by simp at hj⟩
theorem OfL.guM {w : World} {base : Nat} {gs : List (List Nat)} {vg : Value} {gl : List Value} (h : OfL w base [] [] [] gs (.slice none 0 0) (.slice none 0 0) (.slice none 0 0) vg gl) : ∃ (go : Option Addr) (gc : Nat) (gv : Nat → Option Addr × Nat × Nat), vg = .slice go gs.length gc ∧ RdGu w go gs.length gc gv gs := by
  obtain ⟨u, hu, z, -, -, -, -, -, h6, -, h8, -, -⟩ := h.zu 0 false
  unfold zRow at hu
  injection hu with hu
  have h7 := congrArg (fun (a : Array Value) => a[3]?) hu
  have h7 : vg = .slice u.go u.gn u.gc := by injection h7
  have z3 := z.g
  rw [h6, h8] at z3
  rw [h8] at h7
  exact ⟨u.go, u.gc, u.gv, h7, z3⟩
theorem Try.infoUsM : (Try.prog.info? 31).map (fun i => (i.zero, i.size, i.bytes)) = some (some (.slice none 0 0), 1, 24) := by kernel_rfl
end Go.Proofs.Ytoehhnildocihaa

namespace Go.Proofs.Ytoehhnildocihaa
open Go.RowKit Go.Shelf
set_option linter.unusedVariables false
set_option linter.unusedSimpArgs false
set_option maxRecDepth 100000 in
set_option maxHeartbeats 4000000 in
theorem bits6_any (ao : Option Addr) (len cap : Nat) (us : List Nat) (w : World) (hr : RdF w ao len cap us) (hl : len ≤ 1050000) :
    Calls Try.prog 10 #[.slice ao len cap] w fun e w' => ∃ v, e = .returned v ∧ w'.ownsRow w.heap.size 53 1 v us.length (uJ us) ∧ Below w.heap.size w w' := by
  have HR : Hid _ := hr
  have HLN : Hid _ := hr.length
  clear hr
  go_enter Try.func10, Try.ntmps10
  go_wp2_with fail
  go_loopg [3, 4] len (fun g v u wx => ∃ (i : Nat), u = .int .i64 i ∧ i + g = len ∧ Hid (wx.ownsRow w.heap.size 53 1 v i (uJ (us.take i))) ∧ Hid (Below w.heap.size w wx))
  case atStart => exact ⟨0, rfl, by omega, World.ownsRow_nil _ _ _ _, Below.refl _ _⟩
  case round =>
    obtain ⟨i, rfl, hi, HO, HB⟩ := hrel
    have hsr := HB.out.size
    by_cases hlt : i < len
    · have hd : decide ((i : Int) < (len : Int)) = true := decide_eq_true (by omega)
      obtain ⟨g, rfl⟩ : ∃ g, gk = g + 1 := ⟨gk - 1, by omega⟩
      rcases (HR.out.later HB.out).cells with h0 | ⟨b, off, rfl, hc⟩
      · omega
      have g0 := hc i hlt
      have HTS : Hid _ := take_snocJ (us := us) (k := i) (by rw [HLN.out]; exact hlt)
      obtain ⟨x, hx⟩ : ∃ x, us[i]?.getD 0 = x := ⟨_, rfl⟩
      rw [hx] at g0 HTS
      have HIG : Hid _ := hi
      clear hc hi hx
      go_wp2_with (first
        | (go_at_call 18; refine Calls.mono (apiBits_any x _) ?_; rintro e w' ⟨rfl, hw⟩; rw [hw]; clear hw)
        | (at_builtin; refine append_gsJ Try.underlying31 Try.infoUJ rfl (by decide) (by decide) _ (by rfl) _ _ (by rfl) w.heap.size _ _ _ (by rfl) (World.ownsRow.alloc HO.out _) ⟨wr.heap.size, 0, none⟩ 1 1 [.int .u64 (x : Int)] (by rfl) rfl (news_oneJ (heap_alloc_new wr _)) (oneI _ rfl) (by omega) (by simp only [alloc_size]; omega) ?_; intro v5 w5 o5 g5))
      have B5 : Hid (Below w.heap.size w w5) := (HB.out.alloc hsr _).trans (g5.below (fun k hk => (World.ownsRow.lt HO.out k hk).1) (by simp only [alloc_size]; omega))
      have O5 : Hid _ := o5
      clear o5 g5
      go_roundg g
      case measure => omega
      case rel =>
        refine ⟨i + 1, by go_num, by have := HIG.out; omega, ?_, B5⟩
        unfold Hid
        rw [HTS.out, uJ_snoc]
        exact O5.out
    · have hd : decide ((i : Int) < (len : Int)) = false := decide_eq_false (by omega)
      have HO2 : Hid (wr.ownsRow w.heap.size 53 1 u3 us.length (uJ us)) := by
        have := HO.out
        rw [List.take_of_length_le (by rw [HLN.out]; omega), show i = us.length by rw [HLN.out]; omega] at this
        exact this
      go_wp2
      go_ret
      exact ⟨_, rfl, HO2.out, HB.out⟩
set_option maxRecDepth 100000 in
set_option maxHeartbeats 4000000 in
theorem bitsOf6_any (ao : Option Addr) (l c : Nat) (gv : Nat → Option Addr × Nat × Nat) (css : List (List Nat)) (w : World) (ha : RdGs w ao l c gv css) (hl : l ≤ 1050000) (hll : ∀ k, k < l → (gv k).2.1 ≤ 1050000) :
    Calls Try.prog 11 #[.slice ao l c] w fun e w' => (∃ (go : Option Addr) (gc : Nat) (gl : List Value), e = .returned (.slice go l gc) ∧ Hid (OfL w' w.heap.size [] [] [] css (.slice none 0 0) (.slice none 0 0) (.slice none 0 0) (.slice go l gc) gl)) ∧ Below w.heap.size w w' := by
  have HA : Hid (∀ W', Below w.heap.size w W' → RdGs W' ao l c gv css) := fun W' hb => ha.later hb
  have HLN : Hid (css.length = l) := ha.length
  have HLL : Hid (∀ k, k < l → (gv k).2.1 ≤ 1050000) := hll
  clear ha hll
  go_enter Try.func11, Try.ntmps11
  go_wp2_with fail
  go_loopg [3, 4] l (fun g v3 v4 wx => ∃ k : Nat, v4 = .int .i64 k ∧ k + g = l ∧ ∃ gl : List Value, Hid (OfL wx w.heap.size [] [] [] (css.take k) (.slice none 0 0) (.slice none 0 0) (.slice none 0 0) v3 gl ∧ Below w.heap.size w wx ∧ gl.length = k))
  case atStart => exact ⟨0, rfl, by omega, [], ⟨OfL.nilM _ _, Below.refl _ _, rfl⟩⟩
  case round =>
    obtain ⟨k, rfl, hk, gl, HI⟩ := hrel
    by_cases hlt : k < l
    · have hd : decide ((k : Int) < (l : Int)) = true := decide_eq_true (by omega)
      obtain ⟨g, rfl⟩ : ∃ g, gk = g + 1 := ⟨gk - 1, by omega⟩
      have HIG : Hid (k + (g + 1) = l) := hk
      have hlt' : (k : Int) < (l : Int) := by omega
      have rx := HA.out _ HI.out.2.1
      rcases rx.cells with h0 | ⟨gb, goff, ego, hcg⟩
      · omega
      subst ego
      have gg := hcg k hlt
      have rg := rx.each k hlt
      have hl2 := HLL.out k hlt
      obtain ⟨x1, ex1⟩ : ∃ t, (gv k).1 = t := ⟨_, rfl⟩
      obtain ⟨x2, ex2⟩ : ∃ t, (gv k).2.1 = t := ⟨_, rfl⟩
      obtain ⟨x3, ex3⟩ : ∃ t, (gv k).2.2 = t := ⟨_, rfl⟩
      rw [ex1, ex2, ex3] at rg gg
      rw [ex2] at hl2
      have RG : Hid (RdF wr x1 x2 x3 (css[k]?.getD [])) := rg
      have HTK : Hid (css.take (k + 1) = css.take k ++ [css[k]?.getD []]) := by
        have hkl : k < css.length := by rw [HLN.out]; exact hlt
        unfold Hid
        rw [List.take_succ_eq_append_getElem hkl, List.getElem?_eq_getElem hkl]; rfl
      clear rx hcg rg ex1 ex2 ex3 hk
      go_wp2_with fail
      refine Calls.mono (bits6_any x1 x2 x3 _ _ RG.out hl2) ?_
      rintro e w1 ⟨v1, rfl, o1, b1⟩
      obtain ⟨bo1, bc1, hv1, -⟩ := rdU_own o1
      obtain ⟨ln1, hln1⟩ : ∃ ln, (css[k]?.getD []).length = ln := ⟨_, rfl⟩
      rw [hln1] at hv1
      subst hv1
      have O1 : Hid (w1.ownsRow w.heap.size 53 1 (.slice bo1 ln1 bc1) (css[k]?.getD []).length (uJ (css[k]?.getD []))) := owns_monoJ o1 HI.out.2.1.size
      have L1 : Hid (OfL w1 w.heap.size [] [] [] (css.take k) (.slice none 0 0) (.slice none 0 0) (.slice none 0 0) u3 gl ∧ Below w.heap.size w w1 ∧ gl.length = k) := ⟨HI.out.1.later b1, to_call HI.out.2.1 b1, HI.out.2.2⟩
      clear o1 b1 gg RG HI hln1
      have A1 : Below w1.heap.size w1 (w1.alloc (.cells #[.slice bo1 ln1 bc1] 31)) := (Below.refl _ w1).alloc (Nat.le_refl _) _
      have Lz : Hid (OfL (w1.alloc (.cells #[.slice bo1 ln1 bc1] 31)) w.heap.size [] [] [] (css.take k) (.slice none 0 0) (.slice none 0 0) (.slice none 0 0) u3 gl) := L1.out.1.later A1
      have Oz : Hid ((w1.alloc (.cells #[.slice bo1 ln1 bc1] 31)).ownsRow w.heap.size 53 1 (.slice bo1 ln1 bc1) (css[k]?.getD []).length (uJ (css[k]?.getD []))) := World.ownsRow.alloc O1.out _
      go_wp2_with (first
        | (at_builtin; refine append_gsJ Try.underlying32 Try.infoUsM rfl (by decide) (by decide) _ (by rfl) _ _ (by rfl) w.heap.size _ gl.length gl (by rfl) Lz.out.g ⟨w1.heap.size, 0, none⟩ 1 1 [.slice bo1 ln1 bc1] (by rfl) rfl (news_oneJ (heap_alloc_new w1 _)) (oneI _ (own_valJ O1.out).1) (by have := L1.out.2.2; omega) (by have := L1.out.2.1.size; simp only [alloc_size]; omega) ?_; intro v6 w6 o6 g6))
      have HI2 : Hid (OfL w6 w.heap.size [] [] [] (css.take (k + 1)) (.slice none 0 0) (.slice none 0 0) (.slice none 0 0) v6 (gl ++ [Value.slice bo1 ln1 bc1]) ∧ Below w.heap.size w w6 ∧ (gl ++ [Value.slice bo1 ln1 bc1]).length = k + 1) := by
        refine ⟨?_, (to_call L1.out.2.1 A1).trans (g6.below (fun k hk => (World.ownsRow.lt Lz.out.g k hk).1) (to_call L1.out.2.1 A1).size), by rw [List.length_append, L1.out.2.2]; rfl⟩
        rw [HTK.out]
        exact Lz.out.pushG g6 o6 Oz.out
      clear o6 g6 A1 Lz Oz O1 L1 HTK
      go_roundg g
      case measure => omega
      case rel => exact ⟨k + 1, by go_num, by have := HIG.out; omega, gl ++ [Value.slice bo1 ln1 bc1], HI2⟩
    · have hd : decide ((k : Int) < (l : Int)) = false := decide_eq_false (by omega)
      have hd' : decide (k < l) = false := decide_eq_false (by omega)
      have h9 := HI.out.1
      rw [List.take_of_length_le (by rw [HLN.out]; omega)] at h9
      obtain ⟨go, gc, gv', e9, r9⟩ := h9.guM
      rw [HLN.out] at e9 r9
      subst e9
      have HR9 : Hid (OfL wr w.heap.size [] [] [] css (.slice none 0 0) (.slice none 0 0) (.slice none 0 0) (.slice go l gc) gl) := h9
      clear h9 r9
      go_wp2_with fail
      go_ret
      exact ⟨⟨go, gc, gl, rfl, HR9⟩, HI.out.2.1⟩
end Go.Proofs.Ytoehhnildocihaa

namespace Go.Proofs.Ytoehhnildocihaa
open Go.RowKit Go.Shelf
set_option linter.unusedVariables false
set_option linter.unusedSimpArgs false
theorem OfL.keepP {w w' : World} {base : Nat} {cs rs : List Nat} {ids : List Int} {gs : List (List Nat)} {vc vr vi vg : Value} {gl : List Value} (h : OfL w base cs rs ids gs vc vr vi vg gl) (hk : ∀ (k : Nat) (cur : Array Value) (t : TypeId), t ≠ 34 → w.heap[k]? = some (.cells cur t) → w'.heap[k]? = w.heap[k]?) : OfL w' base cs rs ids gs vc vr vi vg gl :=
  ⟨owns_keepT h.c fun k cur => hk k cur _ (by decide), owns_keepT h.r fun k cur => hk k cur _ (by decide), owns_keepT h.i fun k cur => hk k cur _ (by decide), owns_keepT h.g fun k cur => hk k cur _ (by decide), h.len, fun j u hj => owns_keepT (h.col j u hj) fun k cur => hk k cur _ (by decide)⟩
theorem OfL.guS {w : World} {base l gc : Nat} {go : Option Addr} {gs : List (List Nat)} {gl : List Value} (h : OfL w base [] [] [] gs (.slice none 0 0) (.slice none 0 0) (.slice none 0 0) (.slice go l gc) gl) : ∃ gv, RdGu w go l gc gv gs := by
  obtain ⟨go', gc', gv, e, r⟩ := h.guM
  injection e with e1 e2 e3
  subst e1 e2 e3
  exact ⟨gv, r⟩
theorem Try.infoRefPropM : (Try.prog.info? 34).map (·.size) = some 7 := by kernel_rfl
theorem one7M (o1 o2 o3 : Option Addr) (n1 c1 n2 c2 n3 c3 : Nat) (t K D L : Int) : (#[.slice o1 n1 c1, .slice o2 n2 c2, .int .i64 t, .slice o3 n3 c3, .int .i64 K, .int .i64 D, .int .i64 L] : Array Value).all (·.oneCell') = true := by simp [Value.oneCell']
theorem res_propM (f : Func) (i : Nat) (hf : f.results = #[ResultVar.cell i 34]) (tmps : Array Value) (W : World) (B : Nat) (c : Array Value) (hp : tmps[i]? = some (.pointer (some ⟨B, 0, none⟩)))
    (hc : c.size = 7) (h : W.heap[B]? = some (.cells c 34)) : (results f tmps).run Try.prog W = .ok (.agg c) W := by
  have hr : W.rangeAt B 0 c.toList := by
    have := World.rangeAt_of_block h 0 c.size
    simpa using this
  have hl := run_loadVar_mid (P := Try.prog) W B 0 34 c.toList _ hr Try.underlying34 rfl (by rw [Try.infoRefPropM]; simp [hc])
  have hl2 : (loadVar 34 ⟨B, 0, none⟩).run Try.prog W = .ok (.agg c) W := by simpa using hl
  simp [results, hf, hp, hl2, asAddr]
set_option maxRecDepth 100000 in
set_option maxHeartbeats 4000000 in
/-- OfProp: what Claims asks of its answer. -/
theorem ofProp6_any (co go lo : Option Addr) (cn cc gn gc ln lc : Nat) (gvg gvl : Nat → Option Addr × Nat × Nat) (cs : List Nat) (gs ls : List (List Nat)) (t K D L : Int) (w : World)
    (hc : RdF w co cn cc cs) (hg : RdGs w go gn gc gvg gs) (hl : RdGs w lo ln lc gvl ls) (hcn : cn ≤ 1050000) (hgn : gn ≤ 1050000) (hln : ln ≤ 1050000) (hgl : ∀ k, k < gn → (gvg k).2.1 ≤ 1050000) (hll : ∀ k, k < ln → (gvl k).2.1 ≤ 1050000) :
    Calls Try.prog 4 #[.agg #[.slice co cn cc, .slice go gn gc, .int .i64 t, .slice lo ln lc, .int .i64 K, .int .i64 D, .int .i64 L]] w fun e w' => (∃ (o1 o2 o3 : Option Addr) (l1 c1 c2 c3 : Nat) (gv3 : Nat → Option Addr × Nat × Nat), e = .returned (.agg #[.slice o1 l1 c1, .slice o2 gn c2, .int .i64 t, .slice o3 ln c3, .int .i64 K, .int .i64 D, .int .i64 L]) ∧ Hid (RdGu w' o3 ln c3 gv3 ls)) ∧ Below w.heap.size w w' := by
  have HC : Hid (∀ W', Below w.heap.size w W' → RdF W' co cn cc cs) := fun W' hb => hc.later hb
  have HG : Hid (∀ W', Below w.heap.size w W' → RdGs W' go gn gc gvg gs) := fun W' hb => hg.later hb
  have HL : Hid (∀ W', Below w.heap.size w W' → RdGs W' lo ln lc gvl ls) := fun W' hb => hl.later hb
  have HGL : Hid (∀ k, k < gn → (gvg k).2.1 ≤ 1050000) := hgl
  have HLL : Hid (∀ k, k < ln → (gvl k).2.1 ≤ 1050000) := hll
  have X0 : Below w.heap.size w ((w.alloc (.cells #[.slice co cn cc, .slice go gn gc, .int .i64 t, .slice lo ln lc, .int .i64 K, .int .i64 D, .int .i64 L] 28)).alloc (.cells #[.slice none 0 0, .slice none 0 0, .int .i64 0, .slice none 0 0, .int .i64 0, .int .i64 0, .int .i64 0] 34)) := ((Below.refl _ w).alloc (Nat.le_refl _) _).alloc (by simp only [alloc_size]; omega) _
  have Y0 : ((w.alloc (.cells #[.slice co cn cc, .slice go gn gc, .int .i64 t, .slice lo ln lc, .int .i64 K, .int .i64 D, .int .i64 L] 28)).alloc (.cells #[.slice none 0 0, .slice none 0 0, .int .i64 0, .slice none 0 0, .int .i64 0, .int .i64 0, .int .i64 0] 34)).heap[w.heap.size]? = some (.cells #[.slice co cn cc, .slice go gn gc, .int .i64 t, .slice lo ln lc, .int .i64 K, .int .i64 D, .int .i64 L] 28) := alloc_kept (heap_alloc_new w _) _
  have Y1 : ((w.alloc (.cells #[.slice co cn cc, .slice go gn gc, .int .i64 t, .slice lo ln lc, .int .i64 K, .int .i64 D, .int .i64 L] 28)).alloc (.cells #[.slice none 0 0, .slice none 0 0, .int .i64 0, .slice none 0 0, .int .i64 0, .int .i64 0, .int .i64 0] 34)).heap[w.heap.size + 1]? = some (.cells #[.slice none 0 0, .slice none 0 0, .int .i64 0, .slice none 0 0, .int .i64 0, .int .i64 0, .int .i64 0] 34) := heap_at _ _ (w.heap.size + 1) (by simp only [alloc_size])
  clear hc hg hl hgl hll
  go_enter Try.func4, Try.ntmps4
  go_upto_region 1 with fail
  obtain ⟨X, hX⟩ : ∃ X, ((w.alloc (.cells #[.slice co cn cc, .slice go gn gc, .int .i64 t, .slice lo ln lc, .int .i64 K, .int .i64 D, .int .i64 L] 28)).alloc (.cells #[.slice none 0 0, .slice none 0 0, .int .i64 0, .slice none 0 0, .int .i64 0, .int .i64 0, .int .i64 0] 34)) = X := ⟨_, rfl⟩
  rw [hX] at X0 Y0 Y1 ⊢
  have PX : Hid (Below w.heap.size w X ∧ X.heap[w.heap.size]? = some (.cells #[.slice co cn cc, .slice go gn gc, .int .i64 t, .slice lo ln lc, .int .i64 K, .int .i64 D, .int .i64 L] 28) ∧ X.heap[w.heap.size + 1]? = some (.cells #[.slice none 0 0, .slice none 0 0, .int .i64 0, .slice none 0 0, .int .i64 0, .int .i64 0, .int .i64 0] 34)) := ⟨X0, Y0, Y1⟩
  clear hX X0 Y0 Y1
  have SX : Below X.heap.size X X.drew := (Below.refl _ _).drew
  refine wp_region_noPanic ?_
  refine wp_region_P (S := (fun V => Below X.heap.size X V)) (s := 18) (by kernel_rfl) ?_
  refine takeP 3 (i := 0) (v := ?_) rfl rfl (by kernel_rfl) (by kernel_rfl) (by kernel_rfl) (by kernel_rfl) rfl (by kernel_rfl) (fun _ _ _ h => h) (Or.inl ⟨by kernel_rfl, ?_⟩) SX ?_
  rotate_left
  · intro w' hSw; have s0 := cellAtJ (kept hSw PX.out.2.1) 0 _ rfl; have s1 := cellAtJ (kept hSw PX.out.2.1) 1 _ rfl; have s2 := cellAtJ (kept hSw PX.out.2.1) 2 _ rfl; have s3 := cellAtJ (kept hSw PX.out.2.1) 3 _ rfl; have s4 := cellAtJ (kept hSw PX.out.2.1) 4 _ rfl; have s5 := cellAtJ (kept hSw PX.out.2.1) 5 _ rfl; have s6 := cellAtJ (kept hSw PX.out.2.1) 6 _ rfl; go_simp; try with_reducible rfl
  try simp only [Act.put, List.setIfInBounds_toArray, List.set_cons_zero, List.set_cons_succ]
  refine takeP 4 (i := 1) (v := ?_) rfl rfl (by kernel_rfl) (by kernel_rfl) (by kernel_rfl) (by kernel_rfl) rfl (by kernel_rfl) (fun _ _ _ h => h) (Or.inl ⟨by kernel_rfl, ?_⟩) SX ?_
  rotate_left
  · intro w' hSw; have s0 := cellAtJ (kept hSw PX.out.2.1) 0 _ rfl; have s1 := cellAtJ (kept hSw PX.out.2.1) 1 _ rfl; have s2 := cellAtJ (kept hSw PX.out.2.1) 2 _ rfl; have s3 := cellAtJ (kept hSw PX.out.2.1) 3 _ rfl; have s4 := cellAtJ (kept hSw PX.out.2.1) 4 _ rfl; have s5 := cellAtJ (kept hSw PX.out.2.1) 5 _ rfl; have s6 := cellAtJ (kept hSw PX.out.2.1) 6 _ rfl; go_simp; try with_reducible rfl
  try simp only [Act.put, List.setIfInBounds_toArray, List.set_cons_zero, List.set_cons_succ]
  refine takeP 6 (i := 3) (v := ?_) rfl rfl (by kernel_rfl) (by kernel_rfl) (by kernel_rfl) (by kernel_rfl) rfl (by kernel_rfl) (fun _ _ _ h => h) (Or.inl ⟨by kernel_rfl, ?_⟩) SX ?_
  rotate_left
  · intro w' hSw; have s0 := cellAtJ (kept hSw PX.out.2.1) 0 _ rfl; have s1 := cellAtJ (kept hSw PX.out.2.1) 1 _ rfl; have s2 := cellAtJ (kept hSw PX.out.2.1) 2 _ rfl; have s3 := cellAtJ (kept hSw PX.out.2.1) 3 _ rfl; have s4 := cellAtJ (kept hSw PX.out.2.1) 4 _ rfl; have s5 := cellAtJ (kept hSw PX.out.2.1) 5 _ rfl; have s6 := cellAtJ (kept hSw PX.out.2.1) 6 _ rfl; go_simp; try with_reducible rfl
  try simp only [Act.put, List.setIfInBounds_toArray, List.set_cons_zero, List.set_cons_succ]
  refine takeP 7 (i := 4) (v := ?_) rfl rfl (by kernel_rfl) (by kernel_rfl) (by kernel_rfl) (by kernel_rfl) rfl (by kernel_rfl) (fun _ _ _ h => h) (Or.inl ⟨by kernel_rfl, ?_⟩) SX ?_
  rotate_left
  · intro w' hSw; have s0 := cellAtJ (kept hSw PX.out.2.1) 0 _ rfl; have s1 := cellAtJ (kept hSw PX.out.2.1) 1 _ rfl; have s2 := cellAtJ (kept hSw PX.out.2.1) 2 _ rfl; have s3 := cellAtJ (kept hSw PX.out.2.1) 3 _ rfl; have s4 := cellAtJ (kept hSw PX.out.2.1) 4 _ rfl; have s5 := cellAtJ (kept hSw PX.out.2.1) 5 _ rfl; have s6 := cellAtJ (kept hSw PX.out.2.1) 6 _ rfl; go_simp; try with_reducible rfl
  try simp only [Act.put, List.setIfInBounds_toArray, List.set_cons_zero, List.set_cons_succ]
  refine takeP 9 (i := 6) (v := ?_) rfl rfl (by kernel_rfl) (by kernel_rfl) (by kernel_rfl) (by kernel_rfl) rfl (by kernel_rfl) (fun _ _ _ h => h) (Or.inl ⟨by kernel_rfl, ?_⟩) SX ?_
  rotate_left
  · intro w' hSw; have s0 := cellAtJ (kept hSw PX.out.2.1) 0 _ rfl; have s1 := cellAtJ (kept hSw PX.out.2.1) 1 _ rfl; have s2 := cellAtJ (kept hSw PX.out.2.1) 2 _ rfl; have s3 := cellAtJ (kept hSw PX.out.2.1) 3 _ rfl; have s4 := cellAtJ (kept hSw PX.out.2.1) 4 _ rfl; have s5 := cellAtJ (kept hSw PX.out.2.1) 5 _ rfl; have s6 := cellAtJ (kept hSw PX.out.2.1) 6 _ rfl; go_simp; try with_reducible rfl
  try simp only [Act.put, List.setIfInBounds_toArray, List.set_cons_zero, List.set_cons_succ]
  refine takeP 10 (i := 7) (v := ?_) rfl rfl (by kernel_rfl) (by kernel_rfl) (by kernel_rfl) (by kernel_rfl) rfl (by kernel_rfl) (fun _ _ _ h => h) (Or.inl ⟨by kernel_rfl, ?_⟩) SX ?_
  rotate_left
  · intro w' hSw; have s0 := cellAtJ (kept hSw PX.out.2.1) 0 _ rfl; have s1 := cellAtJ (kept hSw PX.out.2.1) 1 _ rfl; have s2 := cellAtJ (kept hSw PX.out.2.1) 2 _ rfl; have s3 := cellAtJ (kept hSw PX.out.2.1) 3 _ rfl; have s4 := cellAtJ (kept hSw PX.out.2.1) 4 _ rfl; have s5 := cellAtJ (kept hSw PX.out.2.1) 5 _ rfl; have s6 := cellAtJ (kept hSw PX.out.2.1) 6 _ rfl; go_simp; try with_reducible rfl
  try simp only [Act.put, List.setIfInBounds_toArray, List.set_cons_zero, List.set_cons_succ]
  refine takeP 11 (i := 8) (v := ?_) rfl rfl (by kernel_rfl) (by kernel_rfl) (by kernel_rfl) (by kernel_rfl) rfl (by kernel_rfl) (fun _ _ _ h => h) (Or.inl ⟨by kernel_rfl, ?_⟩) SX ?_
  rotate_left
  · intro w' hSw; have s0 := cellAtJ (kept hSw PX.out.2.1) 0 _ rfl; have s1 := cellAtJ (kept hSw PX.out.2.1) 1 _ rfl; have s2 := cellAtJ (kept hSw PX.out.2.1) 2 _ rfl; have s3 := cellAtJ (kept hSw PX.out.2.1) 3 _ rfl; have s4 := cellAtJ (kept hSw PX.out.2.1) 4 _ rfl; have s5 := cellAtJ (kept hSw PX.out.2.1) 5 _ rfl; have s6 := cellAtJ (kept hSw PX.out.2.1) 6 _ rfl; go_simp; try with_reducible rfl
  try simp only [Act.put, List.setIfInBounds_toArray, List.set_cons_zero, List.set_cons_succ]
  refine takeP 12 (i := 9) (v := ?_) rfl rfl (by kernel_rfl) (by kernel_rfl) (by kernel_rfl) (by kernel_rfl) rfl (by kernel_rfl) (fun _ _ _ h => h) (Or.inl ⟨by kernel_rfl, ?_⟩) SX ?_
  rotate_left
  · intro w' hSw; have s0 := cellAtJ (kept hSw PX.out.2.1) 0 _ rfl; have s1 := cellAtJ (kept hSw PX.out.2.1) 1 _ rfl; have s2 := cellAtJ (kept hSw PX.out.2.1) 2 _ rfl; have s3 := cellAtJ (kept hSw PX.out.2.1) 3 _ rfl; have s4 := cellAtJ (kept hSw PX.out.2.1) 4 _ rfl; have s5 := cellAtJ (kept hSw PX.out.2.1) 5 _ rfl; have s6 := cellAtJ (kept hSw PX.out.2.1) 6 _ rfl; go_simp; try with_reducible rfl
  try simp only [Act.put, List.setIfInBounds_toArray, List.set_cons_zero, List.set_cons_succ]
  refine takeP 14 (i := 11) (v := ?_) rfl rfl (by kernel_rfl) (by kernel_rfl) (by kernel_rfl) (by kernel_rfl) rfl (by kernel_rfl) (fun _ _ _ h => h) (Or.inl ⟨by kernel_rfl, ?_⟩) SX ?_
  rotate_left
  · intro w' hSw; have s0 := cellAtJ (kept hSw PX.out.2.1) 0 _ rfl; have s1 := cellAtJ (kept hSw PX.out.2.1) 1 _ rfl; have s2 := cellAtJ (kept hSw PX.out.2.1) 2 _ rfl; have s3 := cellAtJ (kept hSw PX.out.2.1) 3 _ rfl; have s4 := cellAtJ (kept hSw PX.out.2.1) 4 _ rfl; have s5 := cellAtJ (kept hSw PX.out.2.1) 5 _ rfl; have s6 := cellAtJ (kept hSw PX.out.2.1) 6 _ rfl; go_simp; try with_reducible rfl
  try simp only [Act.put, List.setIfInBounds_toArray, List.set_cons_zero, List.set_cons_succ]
  refine takeP 15 (i := 12) (v := ?_) rfl rfl (by kernel_rfl) (by kernel_rfl) (by kernel_rfl) (by kernel_rfl) rfl (by kernel_rfl) (fun _ _ _ h => h) (Or.inl ⟨by kernel_rfl, ?_⟩) SX ?_
  rotate_left
  · intro w' hSw; have s0 := cellAtJ (kept hSw PX.out.2.1) 0 _ rfl; have s1 := cellAtJ (kept hSw PX.out.2.1) 1 _ rfl; have s2 := cellAtJ (kept hSw PX.out.2.1) 2 _ rfl; have s3 := cellAtJ (kept hSw PX.out.2.1) 3 _ rfl; have s4 := cellAtJ (kept hSw PX.out.2.1) 4 _ rfl; have s5 := cellAtJ (kept hSw PX.out.2.1) 5 _ rfl; have s6 := cellAtJ (kept hSw PX.out.2.1) 6 _ rfl; go_simp; try with_reducible rfl
  try simp only [Act.put, List.setIfInBounds_toArray, List.set_cons_zero, List.set_cons_succ]
  refine takeP 16 (i := 13) (v := ?_) rfl rfl (by kernel_rfl) (by kernel_rfl) (by kernel_rfl) (by kernel_rfl) rfl (by kernel_rfl) (fun _ _ _ h => h) (Or.inl ⟨by kernel_rfl, ?_⟩) SX ?_
  rotate_left
  · intro w' hSw; have s0 := cellAtJ (kept hSw PX.out.2.1) 0 _ rfl; have s1 := cellAtJ (kept hSw PX.out.2.1) 1 _ rfl; have s2 := cellAtJ (kept hSw PX.out.2.1) 2 _ rfl; have s3 := cellAtJ (kept hSw PX.out.2.1) 3 _ rfl; have s4 := cellAtJ (kept hSw PX.out.2.1) 4 _ rfl; have s5 := cellAtJ (kept hSw PX.out.2.1) 5 _ rfl; have s6 := cellAtJ (kept hSw PX.out.2.1) 6 _ rfl; go_simp; try with_reducible rfl
  try simp only [Act.put, List.setIfInBounds_toArray, List.set_cons_zero, List.set_cons_succ]
  refine takeP 17 (i := 14) (v := ?_) rfl rfl (by kernel_rfl) (by kernel_rfl) (by kernel_rfl) (by kernel_rfl) rfl (by kernel_rfl) (fun _ _ _ h => h) (Or.inl ⟨by kernel_rfl, ?_⟩) SX ?_
  rotate_left
  · intro w' hSw; have s0 := cellAtJ (kept hSw PX.out.2.1) 0 _ rfl; have s1 := cellAtJ (kept hSw PX.out.2.1) 1 _ rfl; have s2 := cellAtJ (kept hSw PX.out.2.1) 2 _ rfl; have s3 := cellAtJ (kept hSw PX.out.2.1) 3 _ rfl; have s4 := cellAtJ (kept hSw PX.out.2.1) 4 _ rfl; have s5 := cellAtJ (kept hSw PX.out.2.1) 5 _ rfl; have s6 := cellAtJ (kept hSw PX.out.2.1) 6 _ rfl; go_simp; try with_reducible rfl
  try simp only [Act.put, List.setIfInBounds_toArray, List.set_cons_zero, List.set_cons_succ]
  refine takeP 18 (i := 15) (v := ?_) rfl rfl (by kernel_rfl) (by kernel_rfl) (by kernel_rfl) (by kernel_rfl) rfl (by kernel_rfl) (fun _ _ _ h => h) (Or.inl ⟨by kernel_rfl, ?_⟩) SX ?_
  rotate_left
  · intro w' hSw; have s0 := cellAtJ (kept hSw PX.out.2.1) 0 _ rfl; have s1 := cellAtJ (kept hSw PX.out.2.1) 1 _ rfl; have s2 := cellAtJ (kept hSw PX.out.2.1) 2 _ rfl; have s3 := cellAtJ (kept hSw PX.out.2.1) 3 _ rfl; have s4 := cellAtJ (kept hSw PX.out.2.1) 4 _ rfl; have s5 := cellAtJ (kept hSw PX.out.2.1) 5 _ rfl; have s6 := cellAtJ (kept hSw PX.out.2.1) 6 _ rfl; go_simp; try with_reducible rfl
  try simp only [Act.put, List.setIfInBounds_toArray, List.set_cons_zero, List.set_cons_succ]
  refine takeP 19 (i := 16) (v := ?_) rfl rfl (by kernel_rfl) (by kernel_rfl) (by kernel_rfl) (by kernel_rfl) rfl (by kernel_rfl) (fun _ _ _ h => h) (Or.inl ⟨by kernel_rfl, ?_⟩) SX ?_
  rotate_left
  · intro w' hSw; have s0 := cellAtJ (kept hSw PX.out.2.1) 0 _ rfl; have s1 := cellAtJ (kept hSw PX.out.2.1) 1 _ rfl; have s2 := cellAtJ (kept hSw PX.out.2.1) 2 _ rfl; have s3 := cellAtJ (kept hSw PX.out.2.1) 3 _ rfl; have s4 := cellAtJ (kept hSw PX.out.2.1) 4 _ rfl; have s5 := cellAtJ (kept hSw PX.out.2.1) 5 _ rfl; have s6 := cellAtJ (kept hSw PX.out.2.1) 6 _ rfl; go_simp; try with_reducible rfl
  try simp only [Act.put, List.setIfInBounds_toArray, List.set_cons_zero, List.set_cons_succ]
  refine wpAnyP_ready (rs := [2]) (by kernel_rfl) (by simp) ?_
  refine consP _ rfl (hopCd 5 rfl (by kernel_rfl) rfl (by kernel_rfl) (Calls.mono (bits6_any co cn cc cs _ (HC.out _ (to_call PX.out.1 SX)) hcn) ?_)) AllReadyP.nil
  rintro e V1 ⟨v1, rfl, ho1, b1⟩
  have SX : Below X.heap.size X V1 := to_call SX b1
  obtain ⟨o1, c1, rfl, -⟩ := rdU_own ho1
  clear ho1 b1
  obtain ⟨l1, hl1⟩ : ∃ l1, cs.length = l1 := ⟨_, rfl⟩
  rw [hl1]
  refine ⟨_, rfl, SX, ?_⟩
  try simp only [Act.put, List.setIfInBounds_toArray, List.set_cons_zero, List.set_cons_succ]
  refine wpAnyP_ready (rs := [5]) (by kernel_rfl) (by simp) ?_
  refine consP _ rfl (hopCd 8 rfl (by kernel_rfl) rfl (by kernel_rfl) (Calls.mono (bitsOf6_any go gn gc gvg gs _ (HG.out _ (to_call PX.out.1 SX)) hgn HGL.out) ?_)) AllReadyP.nil
  rintro e V2 ⟨⟨o2, c2, gl2, rfl, -⟩, b2⟩
  have SX : Below X.heap.size X V2 := to_call SX b2
  clear b2
  refine ⟨_, rfl, SX, ?_⟩
  try simp only [Act.put, List.setIfInBounds_toArray, List.set_cons_zero, List.set_cons_succ]
  refine wpAnyP_ready (rs := [10]) (by kernel_rfl) (by simp) ?_
  refine consP _ rfl (hopCd 13 rfl (by kernel_rfl) rfl (by kernel_rfl) (Calls.mono (bitsOf6_any lo ln lc gvl ls _ (HL.out _ (to_call PX.out.1 SX)) hln HLL.out) ?_)) AllReadyP.nil
  rintro e V3 ⟨⟨o3, c3, gl3, rfl, hq3⟩, b3⟩
  have SX : Below X.heap.size X V3 := to_call SX b3
  clear b3
  refine ⟨_, rfl, SX, ?_⟩
  try simp only [Act.put, List.setIfInBounds_toArray, List.set_cons_zero, List.set_cons_succ]
  refine takeP 20 (i := 17) (v := ?_) rfl rfl (by kernel_rfl) (by kernel_rfl) (by kernel_rfl) (by kernel_rfl) rfl (by kernel_rfl) (fun _ _ _ h => h) (Or.inl ⟨by kernel_rfl, ?_⟩) SX ?_
  rotate_left
  · intro w' hSw; skip; go_simp; try with_reducible rfl
  try simp only [Act.put, List.setIfInBounds_toArray, List.set_cons_zero, List.set_cons_succ]
  refine wpAnyP_ready (rs := [18]) (by kernel_rfl) (by simp) ?_
  refine consPs _ rfl (by kernel_rfl) (hopL rfl (wpList_store_row (by rfl) 34 _ _ (by rfl) w w.heap.size (w.heap.size + 1) #[.slice o1 l1 c1, .slice o2 gn c2, .int .i64 t, .slice o3 ln c3, .int .i64 K, .int .i64 D, .int .i64 L] _ (by kernel_rfl) (by kernel_rfl) (kept SX PX.out.2.2) (to_call PX.out.1 SX) (Nat.le_succ _) 7 Try.infoRefPropM rfl rfl (one7M _ _ _ _ _ _ _ _ _ _ _ _ _) fun W9 e9 b9 s9 o9 => ?_)) AllReadyP.nil
  refine ⟨trivial, ?_⟩
  try simp only [Act.put, List.setIfInBounds_toArray, List.set_cons_zero, List.set_cons_succ]
  refine wpAnyP_done (by kernel_rfl) ?_ _
  refine NoPanic.normal ?_
  try simp only [Act.put, List.setIfInBounds_toArray, List.set_cons_zero, List.set_cons_succ]
  have HL9 : Hid (OfL W9 V2.heap.size [] [] [] ls (.slice none 0 0) (.slice none 0 0) (.slice none 0 0) (.slice o3 ln c3) gl3) := by
    refine hq3.out.keepP fun k cur ty ht hc => o9 k fun e => ht ?_
    have h9 := kept SX PX.out.2.2
    rw [e] at hc
    rw [h9] at hc
    injection hc with hc
    injection hc with _ hc
    exact hc.symm
  obtain ⟨gv3, hr9⟩ := HL9.out.guS
  have HR9 : Hid (RdGu W9 o3 ln c3 gv3 ls) := hr9
  have E9 : Hid (W9.heap[w.heap.size + 1]? = some (.cells #[.slice o1 l1 c1, .slice o2 gn c2, .int .i64 t, .slice o3 ln c3, .int .i64 K, .int .i64 D, .int .i64 L] 34)) := e9
  have B9 : Hid (Below w.heap.size w W9) := b9
  clear SX e9 b9 s9 o9 hq3 HL9 hr9 PX
  go_wp2_with fail
  refine bodyPost_ret (res_propM _ 2 (by kernel_rfl) _ _ (w.heap.size + 1) _ (by rfl) rfl E9.out) rfl ?_
  exact ⟨⟨o1, o2, o3, l1, c1, c2, c3, gv3, rfl, HR9⟩, B9.out⟩
end Go.Proofs.Ytoehhnildocihaa

namespace Go.Proofs.Ytoehhnildocihaa
open Go.ChangeShapes Go.WideShapes Go.ChangeAt Go.RowKit Go.Joins Go.Deep
set_option linter.unusedVariables false
section
variable {H : Type} {enc : TypeId × Value → H} {P : Program} {w : World} {base : Nat} {spare : Nat → Bool} {held : Bool}
theorem trodJ_float {t : TypeId} {k : FloatKind} {fuel : Nat} {cs : List Value} {x : DataW H × List MemPlace} (ht : P.underlying t = some (.float k)) (h : DataW.trod enc P w base spare held fuel t cs = some x) : ∃ n, cs = [.float k n] ∧ (Lit.float k n).wf = true := by
  cases fuel with
  | zero => simp [DataW.trod] at h
  | succ n =>
    unfold DataW.trod at h
    rw [ht] at h
    split at h <;> simp_all
theorem trodJ_bool {t : TypeId} {fuel : Nat} {cs : List Value} {x : DataW H × List MemPlace} (ht : P.underlying t = some .bool) (h : DataW.trod enc P w base spare held fuel t cs = some x) : ∃ b, cs = [.bool b] := by
  cases fuel with
  | zero => simp [DataW.trod] at h
  | succ n =>
    unfold DataW.trod at h
    rw [ht] at h
    split at h <;> simp_all
end
def flOfJ : Value → Nat
  | .float _ u => u
  | _ => 0
/-- A slice of floats that came in. -/
theorem floatsJ_open {P : Program} {H : Type} {enc : TypeId × Value → H} {W : World} {T E : TypeId} {fuel : Nat} {cs : List Value} {x : DataW H × List MemPlace}
    (hT : P.underlying T = some (.slice E)) (hE : P.underlying E = some (.float .f64)) (hc : P.cellsOf E = 1) (h : DataW.trod enc P W 0 (fun _ => true) true fuel T cs = some x) :
    ∃ ao len cap us, cs = [.slice ao len cap] ∧ RdF W ao len cap us ∧ (ao = none → len = 0 ∧ cap = 0) ∧ len ≤ Rows.uptoBulk x.1 := by
  rcases open_slice1 hT hc h with ⟨hcs, _⟩ | ⟨a, len, cap, m, n, V, D, Pl, hcs, _, hl, hm, hmm, hxx, hx⟩
  · exact ⟨none, 0, 0, [], hcs, ⟨rfl, Nat.zero_le _, (fun _ h => by cases h), .inl rfl⟩, fun _ => ⟨rfl, rfl⟩, Nat.zero_le _⟩
  · simp only [if_true] at hmm
    subst hmm
    have hv : ∀ i, i < m → ∃ u, V i = .float .f64 u ∧ u < 18446744073709551616 := by
      intro i hi
      obtain ⟨u, hu, hw⟩ := trodJ_float hE (hx i hi).2
      simp only [List.cons.injEq, and_true] at hu
      exact ⟨u, hu, by simpa [Lit.wf] using hw⟩
    have hbk : len ≤ Rows.uptoBulk x.1 := by
      rw [hxx]
      have := (bulkJ_slice ((List.range len).map D) ((List.range (m - len)).map fun j => D (len + j))).1
      rw [List.length_map, List.length_range] at this
      exact this
    refine ⟨some a, len, m, (List.range len).map fun i => flOfJ (V i), hcs, ⟨by simp, Nat.le_trans hl hm, ?_, ?_⟩, (fun h => by cases h), hbk⟩
    · intro u hu
      simp only [List.mem_map, List.mem_range] at hu
      obtain ⟨i, hi, rfl⟩ := hu
      obtain ⟨y, hy, hlt⟩ := hv i (by omega)
      rw [hy]; exact hlt
    · by_cases h0 : len = 0
      · exact .inl h0
      · right
        obtain ⟨b, off, spot⟩ := a
        have hspot : spot = none := by simpa [Addr.add] using World.cell?_spot (hx 0 (by omega)).1
        subst hspot
        refine ⟨b, off, rfl, fun j hj => ?_⟩
        have g := (hx j (by omega)).1
        obtain ⟨y, hy, _⟩ := hv j (by omega)
        rw [Addr.add_lit, hy] at g
        rw [g]
        simp [hj, hy, flOfJ]
/-- A slice of slices of floats that came in. -/
theorem rowsJ_open {P : Program} {H : Type} {enc : TypeId × Value → H} {W : World} {T E Q : TypeId} {fuel : Nat} {cs : List Value} {x : DataW H × List MemPlace}
    (hT : P.underlying T = some (.slice E)) (hE : P.underlying E = some (.slice Q)) (hQ : P.underlying Q = some (.float .f64)) (hc : P.cellsOf E = 1) (hq : P.cellsOf Q = 1) (h : DataW.trod enc P W 0 (fun _ => true) true fuel T cs = some x) :
    ∃ ao len cap gv gs, cs = [.slice ao len cap] ∧ RdGs W ao len cap gv gs ∧ len ≤ Rows.uptoBulk x.1 ∧ (∀ k, k < len → ((gv k).1 = none → (gv k).2.1 = 0 ∧ (gv k).2.2 = 0) ∧ (gv k).2.1 ≤ Rows.uptoBulk x.1) := by
  rcases open_slice1 hT hc h with ⟨hcs, _⟩ | ⟨a, len, cap, m, n, V, D, Pl, hcs, _, hl, hm, hmm, hxx, hx⟩
  · exact ⟨none, 0, 0, fun _ => (none, 0, 0), [], hcs, ⟨rfl, Nat.zero_le _, .inl rfl, fun j hj => absurd hj (Nat.not_lt_zero _)⟩, Nat.zero_le _, fun k hk => absurd hk (Nat.not_lt_zero _)⟩
  · simp only [if_true] at hmm
    subst hmm
    have hv : ∀ i : Nat, ∃ q : (Option Addr × Nat × Nat) × List Nat, i < m → V i = .slice q.1.1 q.1.2.1 q.1.2.2 ∧ RdF W q.1.1 q.1.2.1 q.1.2.2 q.2 ∧ (q.1.1 = none → q.1.2.1 = 0 ∧ q.1.2.2 = 0) ∧ q.1.2.1 ≤ Rows.uptoBulk (D i) := by
      intro i
      by_cases hi : i < m
      · obtain ⟨ao, l, c, us, hu, r1, r2, r3⟩ := floatsJ_open hE hQ hq (hx i hi).2
        simp only [List.cons.injEq, and_true] at hu
        exact ⟨((ao, l, c), us), fun _ => ⟨hu, r1, r2, r3⟩⟩
      · exact ⟨((none, 0, 0), []), fun h => absurd h hi⟩
    obtain ⟨F, hF⟩ := Classical.axiomOfChoice hv
    have hb := bulkJ_slice ((List.range len).map D) ((List.range (m - len)).map fun j => D (len + j))
    have hbk : len ≤ Rows.uptoBulk x.1 := by
      rw [hxx]
      have := hb.1
      rw [List.length_map, List.length_range] at this
      exact this
    refine ⟨some a, len, m, fun i => (F i).1, (List.range len).map fun i => (F i).2, hcs, ⟨by simp, Nat.le_trans hl hm, ?_, fun j hj => ?_⟩, hbk, fun k hk => ?_⟩
    · by_cases h0 : len = 0
      · exact .inl h0
      · right
        obtain ⟨b, off, spot⟩ := a
        have hspot : spot = none := by simpa [Addr.add] using World.cell?_spot (hx 0 (by omega)).1
        subst hspot
        refine ⟨b, off, rfl, fun j hj => ?_⟩
        have g := (hx j (by omega)).1
        rw [Addr.add_lit, (hF j (by omega)).1] at g
        exact g
    · have e : ((List.range len).map fun i => (F i).2)[j]?.getD [] = (F j).2 := by simp [hj]
      rw [e]
      exact (hF j (by omega)).2.1
    · obtain ⟨_, _, h3, h4⟩ := hF k (by omega)
      refine ⟨h3, Nat.le_trans h4 ?_⟩
      rw [hxx]
      exact hb.2 _ (List.mem_map.2 ⟨k, List.mem_range.2 hk, rfl⟩)
theorem array6 {α : Type} {cs : Array α} (h : cs.size = 6) : ∃ c0 c1 c2 c3 c4 c5, cs = #[c0, c1, c2, c3, c4, c5] := by
  obtain ⟨l⟩ := cs
  match l, h with
  | [c0, c1, c2, c3, c4, c5], _ => exact ⟨c0, c1, c2, c3, c4, c5, rfl⟩
/-- A struct of six fields of one cell each, opened. -/
theorem agg6 {P : Program} {H : Type} {enc : TypeId × Value → H} {W : World} {base b0 : Nat} {r : Reach} {spare : Nat → Bool} {held : Bool} {t : TypeId} {f0 f1 f2 f3 f4 f5 : Field} {v : Value} {d : DataW H} {p : List MemPlace}
    (hs : P.underlying t = some (.struct #[f0, f1, f2, f3, f4, f5])) (hone : oneCellFields P #[f0, f1, f2, f3, f4, f5] = true) (hC : P.cellsOf t = 6) (hv : Value.okWide P W r b0 t v) (h : DataW.Trod enc P W base spare held t v d p) :
    ∃ (v0 v1 v2 v3 v4 v5 : Value) (y0 y1 y2 y3 y4 y5 : DataW H × List MemPlace) (n : Nat), v = .agg #[v0, v1, v2, v3, v4, v5] ∧ (∀ y ∈ [y0, y1, y2, y3, y4, y5], Rows.uptoBulk y.1 ≤ Rows.uptoBulk d) ∧
      DataW.trod enc P W base spare held n f0.type [v0] = some y0 ∧ DataW.trod enc P W base spare held n f1.type [v1] = some y1 ∧ DataW.trod enc P W base spare held n f2.type [v2] = some y2 ∧ DataW.trod enc P W base spare held n f3.type [v3] = some y3 ∧ DataW.trod enc P W base spare held n f4.type [v4] = some y4 ∧ DataW.trod enc P W base spare held n f5.type [v5] = some y5 := by
  obtain ⟨cs, rfl, hsz⟩ := okWide_struct hs hv
  obtain ⟨c0, c1, c2, c3, c4, c5, rfl⟩ := array6 (hsz.trans hC)
  obtain ⟨fuel, hf⟩ := h
  obtain ⟨xs, n, _, hx, hl, hlen, hff⟩ := DataW.trod_struct hs hf
  simp only [Prod.mk.injEq] at hx
  obtain ⟨o0, k0⟩ := hone_of hone 0 f0 rfl
  obtain ⟨o1, k1⟩ := hone_of hone 1 f1 rfl
  obtain ⟨o2, k2⟩ := hone_of hone 2 f2 rfl
  obtain ⟨o3, k3⟩ := hone_of hone 3 f3 rfl
  obtain ⟨o4, k4⟩ := hone_of hone 4 f4 rfl
  obtain ⟨o5, k5⟩ := hone_of hone 5 f5 rfl
  match xs, hlen with
  | [y0, y1, y2, y3, y4, y5], _ =>
    exact ⟨c0, c1, c2, c3, c4, c5, y0, y1, y2, y3, y4, y5, n, rfl, fun y hy => by rw [hx.1]; exact bulkJ_agg _ _ (List.mem_map.2 ⟨y, hy, rfl⟩), by simpa [Value.cells, o0, k0] using hff 0 f0 rfl, by simpa [Value.cells, o1, k1] using hff 1 f1 rfl, by simpa [Value.cells, o2, k2] using hff 2 f2 rfl, by simpa [Value.cells, o3, k3] using hff 3 f3 rfl, by simpa [Value.cells, o4, k4] using hff 4 f4 rfl, by simpa [Value.cells, o5, k5] using hff 5 f5 rfl⟩
set_option maxRecDepth 100000 in
/-- A zonotope that came in. -/
theorem zono_openD {H : Type} {enc : TypeId × Value → H} {W : World} {b0 : Nat} {v : Value} {d : DataW H} {p : List MemPlace}
    (hv : Value.okWide Try.prog W .any b0 26 v) (h : DataW.Trod enc Try.prog W 0 (fun _ => true) true 26 v d p) (hk : Rows.uptoBulk d ≤ 1048576) :
    ∃ z : ZD, v = .agg (zRow z) ∧ ZR W z ∧ ZW z ∧ z.dn ≤ 1048576 := by
  obtain ⟨v0, v1, v2, v3, v4, v5, y0, y1, y2, y3, y4, y5, m, rfl, hb, g0, g1, g2, g3, g4, g5⟩ := agg6 Try.underlying26 (by kernel_rfl) (by kernel_rfl) hv h
  obtain ⟨N, e0, _, _⟩ := DataW.trod_int Try.underlying3 g0
  obtain ⟨co, cn, cc, cs, e1, r1, s1, t1⟩ := floatsJ_open Try.underlying22 Try.underlying55 (by kernel_rfl) g1
  obtain ⟨io, dn, dc, ids, e2, r2, s2, t2⟩ := intsJ_open Try.underlying23 Try.underlying3 (by kernel_rfl) g2
  obtain ⟨go, gn, gc, gv, gs, e3, r3, s3, t3⟩ := rowsJ_open Try.underlying24 Try.underlying22 Try.underlying55 (by kernel_rfl) (by kernel_rfl) g3
  obtain ⟨ro, rn, rc, rs, e4, r4, s4, t4⟩ := floatsJ_open Try.underlying22 Try.underlying55 (by kernel_rfl) g4
  obtain ⟨bad, e5⟩ := trodJ_bool Try.underlying4 g5
  simp only [List.cons.injEq, and_true] at e0 e1 e2 e3 e4 e5
  subst e0 e1 e2 e3 e4 e5
  have b1 := hb y1 (by simp)
  have b2 := hb y2 (by simp)
  have b3 := hb y3 (by simp)
  have b4 := hb y4 (by simp)
  exact ⟨⟨N, co, cn, cc, io, dn, dc, go, gn, gc, ro, rn, rc, bad, cs, ids, gv, gs, rs⟩, rfl, ⟨r1, r2, r3, r4⟩, ⟨s1, s2, s4, fun k hk' => (t3 k hk').1, by dsimp only; omega, by dsimp only; omega, by dsimp only; omega, by dsimp only; omega, fun k hk' => by have := (t3 k hk').2; dsimp only; omega⟩, by dsimp only; omega⟩
end Go.Proofs.Ytoehhnildocihaa

namespace Go.Proofs.Ytoehhnildocihaa
open Go.ChangeShapes Go.WideShapes Go.ChangeAt Go.RowKit Go.Joins Go.Deep
set_option linter.unusedVariables false
set_option maxRecDepth 100000 in
theorem prop_openD {H : Type} {enc : TypeId × Value → H} {W : World} {b0 : Nat} {v : Value} {d : DataW H} {p : List MemPlace}
    (hv : Value.okWide Try.prog W .any b0 28 v) (h : DataW.Trod enc Try.prog W 0 (fun _ => true) true 28 v d p) (hk : Rows.uptoBulk d ≤ 1048576) :
    ∃ (co go lo : Option Addr) (cn cc gn gc ln lc : Nat) (gvg gvl : Nat → Option Addr × Nat × Nat) (cs : List Nat) (gs ls : List (List Nat)) (t K D L : Int), v = .agg #[.slice co cn cc, .slice go gn gc, .int .i64 t, .slice lo ln lc, .int .i64 K, .int .i64 D, .int .i64 L] ∧ RdF W co cn cc cs ∧ RdGs W go gn gc gvg gs ∧ RdGs W lo ln lc gvl ls ∧ cn ≤ 1050000 ∧ gn ≤ 1050000 ∧ ln ≤ 1050000 ∧ (∀ k, k < gn → (gvg k).2.1 ≤ 1050000) ∧ (∀ k, k < ln → (gvl k).2.1 ≤ 1050000) := by
  obtain ⟨v0, v1, v2, v3, v4, v5, v6, y0, y1, y2, y3, y4, y5, y6, m, rfl, hb, g0, g1, g2, g3, g4, g5, g6⟩ := agg7 Try.underlying28 (by kernel_rfl) (by kernel_rfl) hv h
  obtain ⟨co, cn, cc, cs, e0, r0, s0, t0⟩ := floatsJ_open Try.underlying22 Try.underlying55 (by kernel_rfl) g0
  obtain ⟨go, gn, gc, gvg, gs, e1, r1, s1, t1⟩ := rowsJ_open Try.underlying24 Try.underlying22 Try.underlying55 (by kernel_rfl) (by kernel_rfl) g1
  obtain ⟨t, e2, _, _⟩ := DataW.trod_int Try.underlying3 g2
  obtain ⟨lo, ln, lc, gvl, ls, e3, r3, s3, t3⟩ := rowsJ_open Try.underlying24 Try.underlying22 Try.underlying55 (by kernel_rfl) (by kernel_rfl) g3
  obtain ⟨K, e4, _, _⟩ := DataW.trod_int Try.underlying3 g4
  obtain ⟨D, e5, _, _⟩ := DataW.trod_int Try.underlying3 g5
  obtain ⟨L, e6, _, _⟩ := DataW.trod_int Try.underlying3 g6
  simp only [List.cons.injEq, and_true] at e0 e1 e2 e3 e4 e5 e6
  subst e0 e1 e2 e3 e4 e5 e6
  have b0 := hb y0 (by simp)
  have b1 := hb y1 (by simp)
  have b3 := hb y3 (by simp)
  exact ⟨co, go, lo, cn, cc, gn, gc, ln, lc, gvg, gvl, cs, gs, ls, t, K, D, L, rfl, r0, r1, r3, by omega, by omega, by omega, fun k hk' => by have := (t1 k hk').2; omega, fun k hk' => by have := (t3 k hk').2; omega⟩
end Go.Proofs.Ytoehhnildocihaa
