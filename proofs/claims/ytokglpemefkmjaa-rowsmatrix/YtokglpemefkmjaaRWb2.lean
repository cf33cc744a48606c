import Derived.Test.YtokglpemefkmjaaRWb1
import Ieee.Arith
import Derived.Test.YtokglpemefkmjaaChecked
import Derived.WalkKit
import Derived.WalkSmall
import Derived.WalkLawsBesides
import Derived.Laws.BitsAll
import Derived.Deep.QuietTactic
import Derived.Deep.RegionWith
import Derived.Deep.DeepCutAuto
import Derived.Deep.LoopGhost
import Derived.OwnWalk
import Derived.Deep.WholeRow
import Derived.Deep.MidRow
import Derived.Laws.CopyOwn
import Derived.BigQuiet
import Derived.Laws.AppendOwnNone
import Derived.Deep.RegionHeld3
import Derived.Laws.OwnMore
import Derived.ArgAppend
import Derived.Orders
import Derived.RegionTactic
import Derived.Below
namespace Go.Proofs.Ytokglpemefkmjaa
open Go.RowKit
set_option linter.unusedVariables false
theorem fz_row {w : World} {B : Nat} {c : Array Value} {t : TypeId} (h : w.heap[B]? = some (.cells c t)) (o : Nat) : w.frozen? ⟨B, o, none⟩ = false := by simp [World.frozen?, h]
theorem drew_heap (w : World) : w.drew.heap = w.heap := rfl
theorem set2 {w w0 : World} {base B o : Nat} {cur c : Array Value} {t : TypeId} {v1 v2 : Value} (h : w.heap[B]? = some (.cells cur t)) (hb : Below base w0 w) (hbB : base ≤ B) (hc : (cur.setIfInBounds o v1).setIfInBounds (o + 1) v2 = c) :
    ∃ W, ((w.setCell ⟨B, o, none⟩ v1).setCell ⟨B, o + 1, none⟩ v2).drew = W ∧ W.heap[B]? = some (.cells c t) ∧ Below base w0 W ∧ W.heap.size = w.heap.size ∧ ∀ k, k ≠ B → W.heap[k]? = w.heap[k]? := by
  have e1 : w.setCell ⟨B, o, none⟩ v1 = w.setRow B (cur.setIfInBounds o v1) := setCell_eq_setRow w B o cur t (0, 0) v1 h
  have h2 := setRow_heap w B _ (cur.setIfInBounds o v1) t _ h
  have e2 := setCell_eq_setRow (w.setRow B (cur.setIfInBounds o v1)) B (o + 1) _ t (0, 0) v2 h2
  refine ⟨_, rfl, ?_, ?_, ?_, ?_⟩
  · rw [e1, e2, drew_heap, hc]; exact setRow_heap _ B _ _ t _ h2
  · rw [e1, e2]; exact below_drewN (below_setRow (below_setRow hb hbB _) hbB _) 1
  · rw [e1, e2, drew_heap]; simp [World.setRow]
  · intro k hk; rw [e1, e2, drew_heap, setRow_other _ B k _ hk, setRow_other _ B k _ hk]
theorem cell_at {W : World} {B : Nat} {c : Array Value} {t : TypeId} (h : W.heap[B]? = some (.cells c t)) (o : Nat) (v : Value) (hv : c[o]? = some v) : W.cell? ⟨B, o, none⟩ = some v := (cell_of_row _ _ o _ _ _ h).trans hv
end Go.Proofs.Ytokglpemefkmjaa

namespace Go.Proofs.Ytokglpemefkmjaa
open Go.RowKit
set_option linter.unusedVariables false
set_option maxRecDepth 100000 in
set_option maxHeartbeats 4000000 in
theorem goBy_any (B : Nat) (kd o kh kw sh sw ph pw fr : Int) (A : Nat) (v1 v2 v3 v4 : Value) (c h k y0 y1 y17 y20 y21 kh' kw' hh ww : Int) (hk1 : IntKind.i64.wrap (kh - 1) = kh') (hk2 : IntKind.i64.wrap (kw - 1) = kw')
    (hW1 : ∀ w, Calls Try.prog 63 #[.int .i64 h, .int .i64 ph, .int .i64 kh, .int .i64 sh] w fun e w' => e = .returned (.int .i64 hh) ∧ w' = w)
    (hW2 : ∀ w, Calls Try.prog 63 #[.int .i64 k, .int .i64 pw, .int .i64 kw, .int .i64 sw] w fun e w' => e = .returned (.int .i64 ww) ∧ w' = w)
    (w : World) (hB : w.heap[B]? = some (.cells #[.int .i64 y0, .int .i64 y1, .int .i64 0, .int .i64 0, .int .i64 0, .int .i64 0, .int .i64 0, .int .i64 0, .int .i64 0, .int .i64 0, .int .i64 0, .int .i64 0, .int .i64 0, .int .i64 0, .int .i64 0, .int .i64 0, .int .i64 0, .int .i64 y17, .int .i64 h, .int .i64 k, .int .i64 y20, .int .i64 y21, .int .i64 0, .int .i64 0] 87)) :
    Calls Try.prog 53 #[.pointer (some ⟨B, 0, none⟩), .agg #[.int .i64 kd, .int .i64 o, .int .i64 kh, .int .i64 kw, .int .i64 sh, .int .i64 sw, .int .i64 ph, .int .i64 pw, .int .i64 fr, .float .f64 A, v1, v2, v3, v4], .agg #[.int .i64 c, .int .i64 h, .int .i64 k]] w fun e w' =>
      e = .returned (.tuple #[]) ∧ w'.heap[B]? = some (.cells #[.int .i64 y0, .int .i64 y1, .int .i64 1, .int .i64 16, .int .i64 1, .int .i64 16, .int .i64 1, .int .i64 16, .int .i64 1, .int .i64 16, .int .i64 0, .int .i64 kh', .int .i64 0, .int .i64 kw', .int .i64 0, .int .i64 0, .int .i64 0, .int .i64 y17, .int .i64 hh, .int .i64 ww, .int .i64 y20, .int .i64 y21, .int .i64 0, .int .i64 0] 87) ∧ Below B w w' := by
  have HB0 : Hid _ := hB
  have HW1 : Hid _ := hW1
  have HW2 : Hid _ := hW2
  have hBl := blk_lt hB
  clear hB hW1 hW2
  go_enter Try.func53, Try.ntmps53
  go_upto_region 1 with fail
  have hb1 : Below B w _ := ((Below.refl B w).alloc (by omega) (Obj.cells #[.int .i64 kd, .int .i64 o, .int .i64 kh, .int .i64 kw, .int .i64 sh, .int .i64 sw, .int .i64 ph, .int .i64 pw, .int .i64 fr, .float .f64 A, v1, v2, v3, v4] 30)).alloc (by simp only [alloc_size]; omega) (Obj.cells #[.int .i64 c, .int .i64 h, .int .i64 k] 25)
  have e1 := alloc_kept (alloc_kept HB0.out (Obj.cells #[.int .i64 kd, .int .i64 o, .int .i64 kh, .int .i64 kw, .int .i64 sh, .int .i64 sw, .int .i64 ph, .int .i64 pw, .int .i64 fr, .float .f64 A, v1, v2, v3, v4] 30)) (Obj.cells #[.int .i64 c, .int .i64 h, .int .i64 k] 25)
  have k0 := alloc_kept (heap_alloc_new w (Obj.cells #[.int .i64 kd, .int .i64 o, .int .i64 kh, .int .i64 kw, .int .i64 sh, .int .i64 sw, .int .i64 ph, .int .i64 pw, .int .i64 fr, .float .f64 A, v1, v2, v3, v4] 30)) (Obj.cells #[.int .i64 c, .int .i64 h, .int .i64 k] 25)
  have k1 := heap_at (w.alloc (Obj.cells #[.int .i64 kd, .int .i64 o, .int .i64 kh, .int .i64 kw, .int .i64 sh, .int .i64 sw, .int .i64 ph, .int .i64 pw, .int .i64 fr, .float .f64 A, v1, v2, v3, v4] 30)) (Obj.cells #[.int .i64 c, .int .i64 h, .int .i64 k] 25) (w.heap.size + 1) (by simp only [alloc_size])
  go_upto_region 5 with (first
    | (refine wpList_store_at (by rfl) 84 _ _ (by rfl) w B B 2 (.agg #[.int .i64 1, .int .i64 16]) _ #[.int .i64 y0, .int .i64 y1, .int .i64 1, .int .i64 16, .int .i64 0, .int .i64 0, .int .i64 0, .int .i64 0, .int .i64 0, .int .i64 0, .int .i64 0, .int .i64 0, .int .i64 0, .int .i64 0, .int .i64 0, .int .i64 0, .int .i64 0, .int .i64 y17, .int .i64 h, .int .i64 k, .int .i64 y20, .int .i64 y21, .int .i64 0, .int .i64 0] 87 (by rfl) (by rfl) e1 hb1 (Nat.le_refl _) 2 Try.infoBound (by rfl) (Nat.le_of_ble_eq_true rfl) (by exact one_int2 _ _) (by rfl) ?_; intro W2 e2 hb2 hs2 ho2)
    | (refine wpList_store_at (by rfl) 84 _ _ (by rfl) w B B 4 (.agg #[.int .i64 1, .int .i64 16]) _ #[.int .i64 y0, .int .i64 y1, .int .i64 1, .int .i64 16, .int .i64 1, .int .i64 16, .int .i64 0, .int .i64 0, .int .i64 0, .int .i64 0, .int .i64 0, .int .i64 0, .int .i64 0, .int .i64 0, .int .i64 0, .int .i64 0, .int .i64 0, .int .i64 y17, .int .i64 h, .int .i64 k, .int .i64 y20, .int .i64 y21, .int .i64 0, .int .i64 0] 87 (by rfl) (by rfl) e2 hb2 (Nat.le_refl _) 2 Try.infoBound (by rfl) (Nat.le_of_ble_eq_true rfl) (by exact one_int2 _ _) (by rfl) ?_; intro W3 e3 hb3 hs3 ho3)
    | (refine wpList_store_at (by rfl) 84 _ _ (by rfl) w B B 6 (.agg #[.int .i64 1, .int .i64 16]) _ #[.int .i64 y0, .int .i64 y1, .int .i64 1, .int .i64 16, .int .i64 1, .int .i64 16, .int .i64 1, .int .i64 16, .int .i64 0, .int .i64 0, .int .i64 0, .int .i64 0, .int .i64 0, .int .i64 0, .int .i64 0, .int .i64 0, .int .i64 0, .int .i64 y17, .int .i64 h, .int .i64 k, .int .i64 y20, .int .i64 y21, .int .i64 0, .int .i64 0] 87 (by rfl) (by rfl) e3 hb3 (Nat.le_refl _) 2 Try.infoBound (by rfl) (Nat.le_of_ble_eq_true rfl) (by exact one_int2 _ _) (by rfl) ?_; intro W4 e4 hb4 hs4 ho4)
    | (refine wpList_store_at (by rfl) 84 _ _ (by rfl) w B B 8 (.agg #[.int .i64 1, .int .i64 16]) _ #[.int .i64 y0, .int .i64 y1, .int .i64 1, .int .i64 16, .int .i64 1, .int .i64 16, .int .i64 1, .int .i64 16, .int .i64 1, .int .i64 16, .int .i64 0, .int .i64 0, .int .i64 0, .int .i64 0, .int .i64 0, .int .i64 0, .int .i64 0, .int .i64 y17, .int .i64 h, .int .i64 k, .int .i64 y20, .int .i64 y21, .int .i64 0, .int .i64 0] 87 (by rfl) (by rfl) e4 hb4 (Nat.le_refl _) 2 Try.infoBound (by rfl) (Nat.le_of_ble_eq_true rfl) (by exact one_int2 _ _) (by rfl) ?_; intro W5 e5 hb5 hs5 ho5))
  have K0 : Hid (W5.heap[w.heap.size]? = _) := (ho5 _ (by omega)).trans ((ho4 _ (by omega)).trans ((ho3 _ (by omega)).trans ((ho2 _ (by omega)).trans k0)))
  have K1 : Hid (W5.heap[w.heap.size + 1]? = _) := (ho5 _ (by omega)).trans ((ho4 _ (by omega)).trans ((ho3 _ (by omega)).trans ((ho2 _ (by omega)).trans k1)))
  clear hb1 e1 k0 k1 hb2 e2 ho2 hs2 hb3 e3 ho3 hs3 hb4 e4 ho4 hs4 ho5 hs5 HB0
  have a2 := cell_at K0.out 2 (.int .i64 kh) rfl
  have f0 := cell_at e5 10 (.int .i64 0) rfl
  have f1 := cell_at e5 11 (.int .i64 0) rfl
  have fz := fz_row e5
  go_region
  obtain ⟨W6, hW, e6, hb6, hs6, ho6⟩ := set2 (o := 10) (v1 := .int .i64 0) (v2 := .int .i64 kh') (c := #[.int .i64 y0, .int .i64 y1, .int .i64 1, .int .i64 16, .int .i64 1, .int .i64 16, .int .i64 1, .int .i64 16, .int .i64 1, .int .i64 16, .int .i64 0, .int .i64 kh', .int .i64 0, .int .i64 0, .int .i64 0, .int .i64 0, .int .i64 0, .int .i64 y17, .int .i64 h, .int .i64 k, .int .i64 y20, .int .i64 y21, .int .i64 0, .int .i64 0]) e5 hb5 (Nat.le_refl _) (by rfl)
  rw [hW]
  have K2 : Hid (W6.heap[w.heap.size]? = _) := (ho6 _ (by omega)).trans K0.out
  have K3 : Hid (W6.heap[w.heap.size + 1]? = _) := (ho6 _ (by omega)).trans K1.out
  clear hW ho6 hs6 e5 hb5 a2 f0 f1 fz K0 K1
  go_upto_region 6 with fail
  have a3 := cell_at K2.out 3 (.int .i64 kw) rfl
  have f0 := cell_at e6 12 (.int .i64 0) rfl
  have f1 := cell_at e6 13 (.int .i64 0) rfl
  have fz := fz_row e6
  go_region
  obtain ⟨W7, hW, e7, hb7, hs7, ho7⟩ := set2 (o := 12) (v1 := .int .i64 0) (v2 := .int .i64 kw') (c := #[.int .i64 y0, .int .i64 y1, .int .i64 1, .int .i64 16, .int .i64 1, .int .i64 16, .int .i64 1, .int .i64 16, .int .i64 1, .int .i64 16, .int .i64 0, .int .i64 kh', .int .i64 0, .int .i64 kw', .int .i64 0, .int .i64 0, .int .i64 0, .int .i64 y17, .int .i64 h, .int .i64 k, .int .i64 y20, .int .i64 y21, .int .i64 0, .int .i64 0]) e6 hb6 (Nat.le_refl _) (by rfl)
  rw [hW]
  have K4 := (ho7 _ (by omega)).trans K2.out
  have K5 := (ho7 _ (by omega)).trans K3.out
  have K6 : Hid _ := (And.intro K4 K5)
  obtain ⟨a0, a1, a2, a3, a4, a5, a6, a7, a8, a9, a10, a11, a12, a13⟩ := cells14 K4
  obtain ⟨q0, q1, q2⟩ := cells3 K5
  clear hW ho7 hs7 e6 hb6 f0 f1 fz K2 K3 K4 K5
  go_upto_region 8 with (first
    | (go_at_call 63; refine Calls.mono (HW1.out _) ?_; rintro e w' ⟨rfl, rfl⟩)
    | (refine wpList_store_at (by rfl) 3 _ _ (by rfl) w B B 18 (.int .i64 hh) _ #[.int .i64 y0, .int .i64 y1, .int .i64 1, .int .i64 16, .int .i64 1, .int .i64 16, .int .i64 1, .int .i64 16, .int .i64 1, .int .i64 16, .int .i64 0, .int .i64 kh', .int .i64 0, .int .i64 kw', .int .i64 0, .int .i64 0, .int .i64 0, .int .i64 y17, .int .i64 hh, .int .i64 k, .int .i64 y20, .int .i64 y21, .int .i64 0, .int .i64 0] 87 (by rfl) (by rfl) e7 hb7 (Nat.le_refl _) 1 Try.infoInt (by rfl) (Nat.le_of_ble_eq_true rfl) (by exact one_int _) (by rfl) ?_; intro W8 e8 hb8 hs8 ho8))
  have K7 := (ho8 _ (by omega)).trans K6.out.1
  have K8 := (ho8 _ (by omega)).trans K6.out.2
  obtain ⟨p0, p1, p2, p3, p4, p5, p6, p7, p8, p9, p10, p11, p12, p13⟩ := cells14 K7
  obtain ⟨r0, r1, r2⟩ := cells3 K8
  go_wp2_with (first
    | (go_at_call 63; refine Calls.mono (HW2.out _) ?_; rintro e w' ⟨rfl, rfl⟩)
    | (refine wpList_store_at (by rfl) 3 _ _ (by rfl) w B B 19 (.int .i64 ww) _ #[.int .i64 y0, .int .i64 y1, .int .i64 1, .int .i64 16, .int .i64 1, .int .i64 16, .int .i64 1, .int .i64 16, .int .i64 1, .int .i64 16, .int .i64 0, .int .i64 kh', .int .i64 0, .int .i64 kw', .int .i64 0, .int .i64 0, .int .i64 0, .int .i64 y17, .int .i64 hh, .int .i64 ww, .int .i64 y20, .int .i64 y21, .int .i64 0, .int .i64 0] 87 (by rfl) (by rfl) e8 hb8 (Nat.le_refl _) 1 Try.infoInt (by rfl) (Nat.le_of_ble_eq_true rfl) (by exact one_int _) (by rfl) ?_; intro W9 e9 hb9 hs9 ho9))
  go_end0
  exact ⟨rfl, e9, hb9⟩
end Go.Proofs.Ytokglpemefkmjaa

namespace Go.Proofs.Ytokglpemefkmjaa
open Go.RowKit
set_option linter.unusedVariables false
def uV (us : List Nat) : List Value := us.map fun (u : Nat) => Value.int .u64 (u : Int)
theorem uV_len (us : List Nat) : (uV us).length = us.length := by simp [uV]
theorem uV_snoc (us : List Nat) (u : Nat) : uV (us ++ [u]) = uV us ++ [.int .u64 (u : Int)] := by simp [uV]
theorem uV_at (us : List Nat) (j : Nat) (h : j < us.length) : (uV us)[j]? = some (.int .u64 ((us[j]?.getD 0 : Nat) : Int)) := by
  simp [uV, List.getElem?_eq_getElem h]
/-- A row of bits that the call made. -/
def OwnUi (w : World) (base : Nat) (v : Value) (us : List Nat) : Prop := w.ownsRow base 51 1 v (uV us).length (uV us)
theorem OwnUi.nil (w : World) (base : Nat) : OwnUi w base (.slice none 0 0) [] := World.ownsRow_nil w base _ 1
theorem OwnUi.keep {w w' : World} {base : Nat} {v : Value} {us : List Nat} (h : OwnUi w base v us) (hb : ∀ k, k < w.heap.size → (∀ cur, w.heap[k]? = some (.cells cur 51) → w'.heap[k]? = w.heap[k]?)) : OwnUi w' base v us := by
  refine ⟨h.1, ?_⟩
  rcases h.2 with h2 | ⟨g, cap, cur, hv, hg, hh, r⟩
  · exact .inl h2
  · exact .inr ⟨g, cap, cur, hv, hg, (hb g (Array.getElem?_eq_some_iff.1 hh).1 cur hh).trans hh, r⟩
theorem OwnUi.later {w w' : World} {base : Nat} {v : Value} {us : List Nat} (h : OwnUi w base v us) (hb : Below w.heap.size w w') : OwnUi w' base v us := h.keep fun k hk _ _ => hb.block k hk
theorem OwnUi.mono {w : World} {base b : Nat} {v : Value} {us : List Nat} (h : OwnUi w base v us) (hb : b ≤ base) : OwnUi w b v us := by
  refine ⟨h.1, ?_⟩
  rcases h.2 with h2 | ⟨g, cap, cur, hv, hg, r⟩
  · exact .inl h2
  · exact .inr ⟨g, cap, cur, hv, by omega, r⟩
/-- THE SLICE OF uint64 '.slice ao len cap' READS AS us. -/
structure RdU (w : World) (ao : Option Addr) (len cap : Nat) (us : List Nat) : Prop where
  length : us.length = len
  max : len ≤ maxLen
  cells : len = 0 ∨ ∃ b off, ao = some ⟨b, off, none⟩ ∧ ∀ j, j < len → w.cell? ⟨b, off + j, none⟩ = some (.int .u64 ((us[j]?.getD 0 : Nat) : Int))
theorem RdU.later {w w' : World} {ao : Option Addr} {len cap : Nat} {us : List Nat} (h : RdU w ao len cap us) (hb : Below w.heap.size w w') : RdU w' ao len cap us := by
  refine ⟨h.length, h.max, ?_⟩
  rcases h.cells with h0 | ⟨b, off, ha, hc⟩
  · exact .inl h0
  · refine .inr ⟨b, off, ha, fun j hj => ?_⟩
    have hlt := World.block_lt_of_cell? w _ (hc j hj)
    rw [hb.cell (p := ⟨b, off + j, none⟩) hlt]
    exact hc j hj
theorem OwnUi.rd {w : World} {base : Nat} {v : Value} {us : List Nat} (h : OwnUi w base v us) (hm : us.length ≤ 1000) : ∃ ao cap, v = .slice ao us.length cap ∧ RdU w ao us.length cap us := by
  have h' := h
  unfold OwnUi at h'
  rw [uV_len] at h'
  rcases h'.2 with ⟨rfl, h0⟩ | ⟨g, cap, cur, rfl, hg, hh, r⟩
  · exact ⟨none, 0, by rw [h0], rfl, by simp only [maxLen]; omega, .inl h0⟩
  · refine ⟨_, cap, rfl, rfl, by simp only [maxLen]; omega, .inr ⟨g, 0, rfl, fun j hj => ?_⟩⟩
    have := World.ownsRow.cells h' (g := g) rfl j _ (uV_at us j hj)
    rw [Addr.add_lit] at this
    exact this
theorem take_snoc' {us : List Nat} {k : Nat} (h : k < us.length) : us.take (k + 1) = us.take k ++ [us[k]?.getD 0] := by
  rw [List.take_succ_eq_append_getElem h, List.getElem?_eq_getElem h]; rfl
set_option maxRecDepth 100000 in
set_option maxHeartbeats 1000000 in
theorem bitsList_any (ao : Option Addr) (len cap : Nat) (us : List Nat) (w : World) (hr : RdF w ao len cap us) (hl : len ≤ 1000) :
    Calls Try.prog 32 #[.slice ao len cap] w fun e w' => ∃ v, e = .returned v ∧ OwnUi w' w.heap.size v us ∧ Below w.heap.size w w' := by
  have HR : Hid _ := hr
  have HLN : Hid _ := hr.length
  clear hr
  go_enter Try.func32, Try.ntmps32
  go_wp2_with fail
  go_loopg [3, 4] len (fun g v u wx => ∃ (i : Nat), u = .int .i64 i ∧ i + g = len ∧ Hid (OwnUi wx w.heap.size v (us.take i)) ∧ Hid (Below w.heap.size w wx))
  case atStart => exact ⟨0, rfl, by omega, OwnUi.nil _ _, Below.refl _ _⟩
  case round =>
    obtain ⟨i, rfl, hi, HO, HB⟩ := hrel
    have hsr := HB.out.size
    by_cases hlt : i < len
    · have hd : decide ((i : Int) < (len : Int)) = true := decide_eq_true (by omega)
      obtain ⟨g, rfl⟩ : ∃ g, gk = g + 1 := ⟨gk - 1, by omega⟩
      rcases (HR.out.later HB.out).cells with h0 | ⟨b, off, rfl, hc⟩
      · omega
      have g0 := hc i hlt
      have HTS : Hid _ := take_snoc' (us := us) (k := i) (by rw [HLN.out]; exact hlt)
      generalize us[i]?.getD 0 = x at *
      have HIG : Hid _ := hi
      clear hc hi
      go_wp2_with (first
        | (go_at_call 31; refine Calls.mono (bits_any x _) ?_; rintro e w' ⟨rfl, hw⟩; rw [hw]; clear hw)
        | (at_builtin; refine appendG1 Try.underlying52 Try.infoU rfl (by decide) wr (by rfl) _ _ (by rfl) w.heap.size _ _ (by rfl) HO.out _ (by rfl) (by rfl) (by rw [uV_len, List.length_take]; omega) (by omega) ?_; intro v5 w5 hO5 hk5 hb5; have HO5 : Hid _ := hO5; have HB5 : Hid (Below w.heap.size wr w5) := hb5; clear hO5 hb5 hk5))
      go_roundg g
      case measure => omega
      case rel =>
        refine ⟨i + 1, by go_num, by have := HIG.out; omega, ?_, HB.out.trans HB5.out⟩
        have := HO5.out
        unfold Hid OwnUi
        rw [HTS.out, uV_snoc]
        exact this
    · have hd : decide ((i : Int) < (len : Int)) = false := decide_eq_false (by omega)
      have HO2 : Hid (OwnUi wr w.heap.size u3 us) := by
        have := HO.out
        rw [List.take_of_length_le (by rw [HLN.out]; omega)] at this
        exact this
      go_wp2
      go_ret
      exact ⟨_, rfl, HO2.out, HB.out⟩
theorem OwnUi.sl {w : World} {base : Nat} {v : Value} {us : List Nat} (h : OwnUi w base v us) : ∃ ao n cap, v = .slice ao n cap := by
  rcases h.2 with ⟨rfl, h0⟩ | ⟨g, cap, cur, rfl, _⟩
  · exact ⟨none, 0, 0, rfl⟩
  · exact ⟨_, _, cap, rfl⟩
end Go.Proofs.Ytokglpemefkmjaa

namespace Go.Proofs.Ytokglpemefkmjaa
open Go.RowKit
set_option linter.unusedVariables false
/-- A block that is written cell by cell. -/
structure Wr (w0 : World) (base B : Nat) (t : TypeId) (x W : World) (cur : Array Value) : Prop where
  blk : W.heap[B]? = some (.cells cur t)
  bel : Below base w0 W
  oth : ∀ k, k ≠ B → W.heap[k]? = x.heap[k]?
theorem Wr.step {w0 x W : World} {base B : Nat} {t : TypeId} {cur : Array Value} (hB : base ≤ B) (h : Wr w0 base B t x W cur) (o : Nat) (v : Value) : Wr w0 base B t x (W.setCell ⟨B, o, none⟩ v) (cur.setIfInBounds o v) := by
  have e : W.setCell ⟨B, o, none⟩ v = W.setRow B (cur.setIfInBounds o v) := setCell_eq_setRow W B o cur t (0, 0) v h.blk
  rw [e]
  exact ⟨setRow_heap W B _ _ t _ h.blk, below_setRow h.bel hB _, fun k hk => (setRow_other W B k _ hk).trans (h.oth k hk)⟩
theorem frz {w : World} {B : Nat} {c : Array Value} {t : TypeId} (h : w.heap[B]? = some (.cells c t)) (o : Nat) : w.frozen? ⟨B, o, none⟩ = false := by simp [World.frozen?, h]
end Go.Proofs.Ytokglpemefkmjaa

namespace Go.Proofs.Ytokglpemefkmjaa
open Go.RowKit
set_option linter.unusedVariables false
theorem Wr.drewE {w0 x W : World} {base B : Nat} {t : TypeId} {cur : Array Value} (h : Wr w0 base B t x W cur) : Wr w0 base B t x W.drew cur := ⟨h.blk, h.bel.drew, h.oth⟩
set_option maxRecDepth 100000 in
set_option maxHeartbeats 4000000 in
theorem formScale_any (o kh kw sh sw ph pw fr : Int) (A : Nat) (v1 v2 v3 v4 : Value) (c h k : Int)  (w : World) :
    Calls Try.prog 45 #[.agg #[.int .i64 3, .int .i64 o, .int .i64 kh, .int .i64 kw, .int .i64 sh, .int .i64 sw, .int .i64 ph, .int .i64 pw, .int .i64 fr, .float .f64 A, v1, v2, v3, v4], .agg #[.int .i64 c, .int .i64 h, .int .i64 k]] w fun e w' =>
      e = .returned (.tuple #[.agg #[.int .i64 0, .int .i64 0, .int .i64 0, .int .i64 0, .int .i64 0, .int .i64 0, .int .i64 0, .int .i64 0, .int .i64 0, .int .i64 0, .int .i64 0, .int .i64 0, .int .i64 0, .int .i64 0, .int .i64 0, .int .i64 0, .int .i64 0, .int .i64 c, .int .i64 h, .int .i64 k, .int .i64 c, .int .i64 c, .int .i64 0, .int .i64 0], .bool true]) ∧ Below w.heap.size w w' := by
  have HS : Hid _ := size_any c h k
  go_enter Try.func45, Try.ntmps45
  go_wp2_with fail
  refine Calls.mono (HS.out _) ?_
  rintro e w1 ⟨rfl, hb⟩
  have HB1 : Hid (Below w.heap.size w w1) := to_call ((((Below.refl _ w).alloc (Nat.le_refl _) _).alloc (by simp only [alloc_size]; omega) _).alloc (by simp only [alloc_size]; omega) _) hb
  have k0 := kept hb (alloc_kept (alloc_kept (heap_alloc_new w _) _) _)
  have k1 := kept hb (alloc_kept (heap_at _ _ (w.heap.size + 1) (by simp only [alloc_size])) _)
  have k2 := kept hb (heap_at _ _ (w.heap.size + 1 + 1) (by simp only [alloc_size]))
  have HK : Hid (w1.heap[w.heap.size]? = _ ∧ w1.heap[w.heap.size + 1]? = _ ∧ w1.heap[w.heap.size + 1 + 1]? = _) := ⟨k0, k1, k2⟩
  have hsz := blk_lt k2
  obtain ⟨b0, b1, b2⟩ := cells3 k1
  clear k0 k1 k2 hb HS
  unfold szV
  generalize (szF [c, h, k] 1).1 = n1
  generalize (szF [c, h, k] 1).2 = n2
  go_upto_region 25 with (first | (refine wpList_store_row (by rfl) 87 _ _ (by rfl) w w.heap.size w1.heap.size _ _ (by rfl) (by rfl) (heap_alloc_new w1 _) (HB1.out.alloc (by omega) _) (by omega) 24 Try.infoForm (by rfl) (by rfl) (by exact one24 ..) ?_; intro W2 e2 hb2 hs2 ho2; obtain ⟨a0, a1, a2, a3, a4, a5, a6, a7, a8, a9, a10, a11, a12, a13⟩ := cells14 ((ho2 _ (by omega)).trans (alloc_kept HK.out.1 _))))
  have HK2 : Hid (W2.heap[w.heap.size]? = _ ∧ W2.heap[w.heap.size + 1]? = _ ∧ W2.heap[w.heap.size + 1 + 1]? = _) := ⟨(ho2 _ (by omega)).trans (alloc_kept HK.out.1 _), (ho2 _ (by omega)).trans (alloc_kept HK.out.2.1 _), (ho2 _ (by omega)).trans (alloc_kept HK.out.2.2 _)⟩
  have hsW : w1.heap.size < W2.heap.size := blk_lt e2
  obtain ⟨q0, q1, q2⟩ := cells3 HK2.out.2.1
  clear a0 a1 a2 a3 a4 a5 a6 a7 a8 a9 a10 a11 a12 a13 b0 b1 b2
  have f20 := cellAt e2 20 (.int .i64 0) rfl
  have f21 := cellAt e2 21 (.int .i64 0) rfl
  have fz := frz e2
  have hne : (20 : Nat) ≠ 21 := by decide
  go_region
  all_goals
    have HWR : Wr w w.heap.size w1.heap.size 87 W2 _ _ := (((Wr.mk e2 hb2 (fun _ _ => rfl) : Wr w w.heap.size w1.heap.size 87 W2 W2 _).step (by omega) 20 (.int .i64 c)).step (by omega) 21 (.int .i64 c)).drewE
    obtain ⟨W5, hW5⟩ : ∃ W5, ((W2.setCell ⟨w1.heap.size, 20, none⟩ (.int .i64 c)).setCell ⟨w1.heap.size, 21, none⟩ (.int .i64 c)).drew = W5 := ⟨_, rfl⟩
    rw [hW5] at HWR ⊢
    clear hW5
    have e5 : W5.heap[w1.heap.size]? = some (.cells #[.int .i64 0, .int .i64 0, .int .i64 0, .int .i64 0, .int .i64 0, .int .i64 0, .int .i64 0, .int .i64 0, .int .i64 0, .int .i64 0, .int .i64 0, .int .i64 0, .int .i64 0, .int .i64 0, .int .i64 0, .int .i64 0, .int .i64 0, .int .i64 c, .int .i64 h, .int .i64 k, .int .i64 c, .int .i64 c, .int .i64 0, .int .i64 0] 87) := HWR.blk
    have hb5 := HWR.bel
    have ho5 := HWR.oth
    have HK5 : Hid (W5.heap[w.heap.size]? = _ ∧ W5.heap[w.heap.size + 1]? = _ ∧ W5.heap[w.heap.size + 1 + 1]? = _) := ⟨(ho5 _ (by omega)).trans HK2.out.1, (ho5 _ (by omega)).trans HK2.out.2.1, (ho5 _ (by omega)).trans HK2.out.2.2⟩
    clear HWR f20 f21 fz
    go_upto_region 32 with fail
    go_wp2_with (first
      | (refine wpList_load_row (by rfl) 87 _ (by rfl) w1.heap.size _ (by rfl) e5 _ Try.underlying87 rfl 24 Try.infoForm (by rfl) ?_)
      | (refine wpList_store_row (by rfl) 87 _ _ (by rfl) w w.heap.size (w.heap.size + 1 + 1) _ _ (by rfl) (by rfl) HK5.out.2.2 hb5 (by omega) 24 Try.infoForm (by rfl) (by rfl) (by exact one24 ..) ?_; intro W9 e9 hb9 hs9 ho9))
    refine bodyPost_ret (res_form _ 4 5 (by kernel_rfl) _ _ (w.heap.size + 1 + 1) _ _ (by rfl) (by rfl) rfl e9) rfl ?_
    exact ⟨rfl, hb9⟩
set_option maxRecDepth 100000 in
set_option maxHeartbeats 4000000 in
theorem formMean_any (o kh kw sh sw ph pw fr : Int) (A : Nat) (v1 v2 v3 v4 : Value) (c h k : Int) (kh' kw' hh ww : Int) (hk1 : IntKind.i64.wrap (kh - 1) = kh') (hk2 : IntKind.i64.wrap (kw - 1) = kw')
    (hW1 : ∀ w, Calls Try.prog 63 #[.int .i64 h, .int .i64 ph, .int .i64 kh, .int .i64 sh] w fun e w' => e = .returned (.int .i64 hh) ∧ w' = w)
    (hW2 : ∀ w, Calls Try.prog 63 #[.int .i64 k, .int .i64 pw, .int .i64 kw, .int .i64 sw] w fun e w' => e = .returned (.int .i64 ww) ∧ w' = w) (w : World) :
    Calls Try.prog 45 #[.agg #[.int .i64 4, .int .i64 o, .int .i64 kh, .int .i64 kw, .int .i64 sh, .int .i64 sw, .int .i64 ph, .int .i64 pw, .int .i64 fr, .float .f64 A, v1, v2, v3, v4], .agg #[.int .i64 c, .int .i64 h, .int .i64 k]] w fun e w' =>
      e = .returned (.tuple #[.agg #[.int .i64 0, .int .i64 0, .int .i64 1, .int .i64 16, .int .i64 1, .int .i64 16, .int .i64 1, .int .i64 16, .int .i64 1, .int .i64 16, .int .i64 0, .int .i64 kh', .int .i64 0, .int .i64 kw', .int .i64 0, .int .i64 0, .int .i64 1, .int .i64 c, .int .i64 hh, .int .i64 ww, .int .i64 0, .int .i64 0, .int .i64 0, .int .i64 0], .bool true]) ∧ Below w.heap.size w w' := by
  have HW1 : Hid _ := hW1
  have HW2 : Hid _ := hW2
  clear hW1 hW2
  have HS : Hid _ := size_any c h k
  go_enter Try.func45, Try.ntmps45
  go_wp2_with fail
  refine Calls.mono (HS.out _) ?_
  rintro e w1 ⟨rfl, hb⟩
  have HB1 : Hid (Below w.heap.size w w1) := to_call ((((Below.refl _ w).alloc (Nat.le_refl _) _).alloc (by simp only [alloc_size]; omega) _).alloc (by simp only [alloc_size]; omega) _) hb
  have k0 := kept hb (alloc_kept (alloc_kept (heap_alloc_new w _) _) _)
  have k1 := kept hb (alloc_kept (heap_at _ _ (w.heap.size + 1) (by simp only [alloc_size])) _)
  have k2 := kept hb (heap_at _ _ (w.heap.size + 1 + 1) (by simp only [alloc_size]))
  have HK : Hid (w1.heap[w.heap.size]? = _ ∧ w1.heap[w.heap.size + 1]? = _ ∧ w1.heap[w.heap.size + 1 + 1]? = _) := ⟨k0, k1, k2⟩
  have hsz := blk_lt k2
  obtain ⟨b0, b1, b2⟩ := cells3 k1
  clear k0 k1 k2 hb HS
  unfold szV
  generalize (szF [c, h, k] 1).1 = n1
  generalize (szF [c, h, k] 1).2 = n2
  go_upto_region 22 with (first | (refine wpList_store_row (by rfl) 87 _ _ (by rfl) w w.heap.size w1.heap.size _ _ (by rfl) (by rfl) (heap_alloc_new w1 _) (HB1.out.alloc (by omega) _) (by omega) 24 Try.infoForm (by rfl) (by rfl) (by exact one24 ..) ?_; intro W2 e2 hb2 hs2 ho2; obtain ⟨a0, a1, a2, a3, a4, a5, a6, a7, a8, a9, a10, a11, a12, a13⟩ := cells14 ((ho2 _ (by omega)).trans (alloc_kept HK.out.1 _))))
  have HK2 : Hid (W2.heap[w.heap.size]? = _ ∧ W2.heap[w.heap.size + 1]? = _ ∧ W2.heap[w.heap.size + 1 + 1]? = _) := ⟨(ho2 _ (by omega)).trans (alloc_kept HK.out.1 _), (ho2 _ (by omega)).trans (alloc_kept HK.out.2.1 _), (ho2 _ (by omega)).trans (alloc_kept HK.out.2.2 _)⟩
  have hsW : w1.heap.size < W2.heap.size := blk_lt e2
  obtain ⟨q0, q1, q2⟩ := cells3 HK2.out.2.1
  have HG : Hid _ := goBy_any w1.heap.size 4 o kh kw sh sw ph pw fr A v1 v2 v3 v4 c h k 0 0 c 0 0 kh' kw' hh ww hk1 hk2 HW1.out HW2.out W2 e2
  go_upto_region 23 with (first
      | (refine wpList_load_row (by rfl) 30 _ (by rfl) w.heap.size _ (by rfl) HK2.out.1 _ Try.underlying30 rfl 14 Try.infoLy (by rfl) ?_)
      | (go_at_call 53; refine Calls.mono HG.out ?_; rintro e W6 ⟨rfl, e6, hb6⟩))
  have HK6 : Hid (W6.heap[w.heap.size]? = _ ∧ W6.heap[w.heap.size + 1]? = _ ∧ W6.heap[w.heap.size + 1 + 1]? = _) := ⟨(hb6.block _ (by omega)).trans HK2.out.1, (hb6.block _ (by omega)).trans HK2.out.2.1, (hb6.block _ (by omega)).trans HK2.out.2.2⟩
  have hb7 : Below w.heap.size w W6 := hb2.trans (hb6.mono (by omega))
  have p0 := cellAt HK6.out.1 0 (.int .i64 4) rfl
  have hs6 := blk_lt e6
  go_upto_region 32 with (first | (refine wpList_store_at (by rfl) 3 _ _ (by rfl) w w.heap.size w1.heap.size 16 (.int .i64 1) _ #[.int .i64 0, .int .i64 0, .int .i64 1, .int .i64 16, .int .i64 1, .int .i64 16, .int .i64 1, .int .i64 16, .int .i64 1, .int .i64 16, .int .i64 0, .int .i64 kh', .int .i64 0, .int .i64 kw', .int .i64 0, .int .i64 0, .int .i64 1, .int .i64 c, .int .i64 hh, .int .i64 ww, .int .i64 0, .int .i64 0, .int .i64 0, .int .i64 0] 87 (by rfl) (by rfl) e6 hb7 (by omega) 1 Try.infoInt (by rfl) (Nat.le_of_ble_eq_true rfl) (by exact one_int _) (by rfl) ?_; intro W8 e8 hb8 hs8 ho8))
  have HK8 : Hid (W8.heap[w.heap.size]? = _ ∧ W8.heap[w.heap.size + 1]? = _ ∧ W8.heap[w.heap.size + 1 + 1]? = _) := ⟨(ho8 _ (by omega)).trans HK6.out.1, (ho8 _ (by omega)).trans HK6.out.2.1, (ho8 _ (by omega)).trans HK6.out.2.2⟩
  go_wp2_with (first
    | (refine wpList_load_row (by rfl) 87 _ (by rfl) w1.heap.size _ (by rfl) e8 _ Try.underlying87 rfl 24 Try.infoForm (by rfl) ?_)
    | (refine wpList_store_row (by rfl) 87 _ _ (by rfl) w w.heap.size (w.heap.size + 1 + 1) _ _ (by rfl) (by rfl) HK8.out.2.2 hb8 (by omega) 24 Try.infoForm (by rfl) (by rfl) (by exact one24 ..) ?_; intro W9 e9 hb9 hs9 ho9))
  refine bodyPost_ret (res_form _ 4 5 (by kernel_rfl) _ _ (w.heap.size + 1 + 1) _ _ (by rfl) (by rfl) rfl e9) rfl ?_
  exact ⟨rfl, hb9⟩
end Go.Proofs.Ytokglpemefkmjaa

namespace Go.Proofs.Ytokglpemefkmjaa
open Go.RowKit
set_option linter.unusedVariables false
theorem hopV {P : Program} {ops : Array Oper} {Q : Exit → Act → World → Prop} {i : Nat} {o : Oper} {K : Act → World → Prop} {a : Act} {w w' : World} (d : Nat) {v : Value} (ho : ops[i]? = some o) (hg : o.guard = none) (hd : o.dst = some d) (hr : (execOp a.eval o).run P w = .ok (.value v) w') (h : K (a.put (some d) v) w') : wpOp P ops Q i K a w :=
  wpOp_step ho fun K' hK => by
    rw [if_pos (by simp [Region.wanted, hg])]
    unfold Oper.wp
    rw [hr]
    rw [← hd] at h
    exact hK _ _ h
theorem hopCd {P : Program} {ops : Array Oper} {Q : Exit → Act → World → Prop} {i : Nat} {o : Oper} {K : Act → World → Prop} {a : Act} {w : World} {f : FuncId} {args : Array Value} (d : Nat) (ho : ops[i]? = some o) (hw : Region.wanted o (yielded ops a.tmps) = true) (hd : o.dst = some d) (hr : (execOp a.eval o).run P w = .ok (.enter f args) w) (hc : Calls P f args w fun e w'' => ∃ v, e = .returned v ∧ K (a.put (some d) v) w'') : wpOp P ops Q i K a w :=
  wpOp_step ho fun K' hK => by
    rw [if_pos hw]
    unfold Oper.wp
    rw [hr, Oper.upon_enter]
    refine Calls.mono hc ?_
    rintro e w'' ⟨v, rfl, h⟩
    rw [← hd] at h
    exact hK _ _ h
theorem consH {P : Program} {md : Region.Mode} {ops : Array Oper} {Q : Exit → Act → World → Prop} {S : World → Prop} {fuel : Nat} {listed : Array Bool} {a : Act} {w : World} {i : Nat} {rs : List Nat} (l' : Array Bool) (hl : listed.setIfInBounds i true = l')
    (h : wpOp P ops Q i (fun a' w' => S w' ∧ wpAnyH P md ops Q S fuel l' a' w') a w) (hs : AllReadyH P md ops Q S fuel listed a w rs) : AllReadyH P md ops Q S fuel listed a w (i :: rs) := by
  subst hl
  intro j hj
  rcases List.mem_cons.1 hj with rfl | hj
  · exact h
  · exact hs j hj
theorem takeH {P : Program} {md : Region.Mode} {ops : Array Oper} {Q : Exit → Act → World → Prop} {S : World → Prop} (d : Nat) {i : Nat} {oi : Oper} {v : Value} {fuel : Nat} {listed : Array Bool} {a : Act} {w : World} (hi : ops[i]? = some oi) (hd : oi.dst = some d)
    (hs : Region.noSelect ops = true) (hf : Region.free md ops listed i = true) (hr : (Region.ready md ops listed).contains i = true)
    (hQ : ∀ c a w, Q (.panic c) (a.put (some d) v) w → Q (.panic c) a w) (hy : YieldsIf P ops S oi v a) (hS : S w)
    (h : wpAnyH P md ops Q S fuel (listed.setIfInBounds i true) (a.put (some d) v) w) : wpAnyH P md ops Q S (fuel + 1) listed a w :=
  wpAnyH_take hi hs hf hr (by rw [hd]; exact hQ) hy hS (by rw [hd]; exact h)
/-- What comes behind one operation, put in the place of the normal exit. -/
def QK (Q : Exit → Act → World → Prop) (K : Act → World → Prop) : Exit → Act → World → Prop
  | .normal => K
  | .exit i => Q (.exit i)
  | .goto l => Q (.goto l)
  | .ret => Q .ret
  | .panic c => Q (.panic c)
  | .outgrown => Q .outgrown
theorem upon_QK {P : Program} {o : Oper} {a : Act} {next : Act → World → Prop} {Q : Exit → Act → World → Prop} {K : Act → World → Prop} (r : Result Next) (h : o.upon P a next (QK Q K) r) : o.upon P a next Q r := by
  cases r with
  | ok n w => cases n <;> exact h
  | halt s w => cases s <;> exact h
/-- A law on a list of one operation serves as a step of a drawn region. -/
theorem hopL {P : Program} {ops : Array Oper} {Q : Exit → Act → World → Prop} {i : Nat} {o : Oper} {K : Act → World → Prop} {a : Act} {w : World} (ho : ops[i]? = some o) (h : wpList P ops (QK Q K) [o] a w) : wpOp P ops Q i K a w := by
  unfold wpOp
  rw [ho]
  unfold wpList at h
  show if Region.wanted o (yielded ops a.tmps) = true then _ else _
  split
  · rename_i hw
    rw [if_pos hw] at h
    rcases h with h | h
    · exact .inl (upon_QK _ h)
    · exact .inr ⟨h.1, h.2⟩
  · rename_i hw
    rw [if_neg hw] at h
    exact h
theorem ex_alloc {P : Program} {ρ : Operand → Value} (o : Oper) (t : TypeId) (ho : o.op = .alloc t) (v : Value) (w w' : World) (h : (Instr.alloc t true (.tuple #[])).run P w = .ok v w') : (execOp ρ o).run P w = .ok (.value v) w' := by
  unfold execOp
  simp only [ho, h, Sem.run_bind, Sem.run_pure, Result.andThen_ok]
end Go.Proofs.Ytokglpemefkmjaa

namespace Go.Proofs.Ytokglpemefkmjaa
open Go.RowKit
set_option linter.unusedVariables false
set_option linter.unusedSimpArgs false
set_option maxRecDepth 100000 in
set_option maxHeartbeats 40000000 in
theorem formConv_any (o kh kw sh sw ph pw fr : Int) (A : Nat) (v1 v2 v3 v4 : Value) (c h k : Int) (kh' kw' hh ww : Int) (hk1 : IntKind.i64.wrap (kh - 1) = kh') (hk2 : IntKind.i64.wrap (kw - 1) = kw')
    (hW1 : ∀ w, Calls Try.prog 63 #[.int .i64 h, .int .i64 ph, .int .i64 kh, .int .i64 sh] w fun e w' => e = .returned (.int .i64 hh) ∧ w' = w)
    (hW2 : ∀ w, Calls Try.prog 63 #[.int .i64 k, .int .i64 pw, .int .i64 kw, .int .i64 sw] w fun e w' => e = .returned (.int .i64 ww) ∧ w' = w) (p1 p2 p : Int) (hp1 : IntKind.i64.wrap (o * c) = p1) (hp2 : IntKind.i64.wrap (p1 * kh) = p2) (hp : IntKind.i64.wrap (p2 * kw) = p) (w : World) :
    Calls Try.prog 45 #[.agg #[.int .i64 2, .int .i64 o, .int .i64 kh, .int .i64 kw, .int .i64 sh, .int .i64 sw, .int .i64 ph, .int .i64 pw, .int .i64 fr, .float .f64 A, v1, v2, v3, v4], .agg #[.int .i64 c, .int .i64 h, .int .i64 k]] w fun e w' =>
      e = .returned (.tuple #[.agg #[.int .i64 1, .int .i64 256, .int .i64 1, .int .i64 16, .int .i64 1, .int .i64 16, .int .i64 1, .int .i64 16, .int .i64 1, .int .i64 16, .int .i64 0, .int .i64 kh', .int .i64 0, .int .i64 kw', .int .i64 0, .int .i64 0, .int .i64 0, .int .i64 o, .int .i64 hh, .int .i64 ww, .int .i64 p, .int .i64 o, .int .i64 0, .int .i64 0], .bool true]) ∧ Below w.heap.size w w' := by
  have HW1 : Hid _ := hW1
  have HW2 : Hid _ := hW2
  clear hW1 hW2
  have HS : Hid _ := size_any c h k
  go_enter Try.func45, Try.ntmps45
  go_wp2_with fail
  refine Calls.mono (HS.out _) ?_
  rintro e w1 ⟨rfl, hb⟩
  have HB1 : Hid (Below w.heap.size w w1) := to_call ((((Below.refl _ w).alloc (Nat.le_refl _) _).alloc (by simp only [alloc_size]; omega) _).alloc (by simp only [alloc_size]; omega) _) hb
  have k0 := kept hb (alloc_kept (alloc_kept (heap_alloc_new w _) _) _)
  have k1 := kept hb (alloc_kept (heap_at _ _ (w.heap.size + 1) (by simp only [alloc_size])) _)
  have k2 := kept hb (heap_at _ _ (w.heap.size + 1 + 1) (by simp only [alloc_size]))
  have HK : Hid (w1.heap[w.heap.size]? = _ ∧ w1.heap[w.heap.size + 1]? = _ ∧ w1.heap[w.heap.size + 1 + 1]? = _) := ⟨k0, k1, k2⟩
  have hsz := blk_lt k2
  obtain ⟨b0, b1, b2⟩ := cells3 k1
  clear k0 k1 k2 hb HS
  unfold szV
  generalize (szF [c, h, k] 1).1 = n1
  generalize (szF [c, h, k] 1).2 = n2
  go_upto_region 19 with (first | (refine wpList_store_row (by rfl) 87 _ _ (by rfl) w w.heap.size w1.heap.size _ _ (by rfl) (by rfl) (heap_alloc_new w1 _) (HB1.out.alloc (by omega) _) (by omega) 24 Try.infoForm (by rfl) (by rfl) (by exact one24 ..) ?_; intro W2 e2 hb2 hs2 ho2; obtain ⟨a0, a1, a2, a3, a4, a5, a6, a7, a8, a9, a10, a11, a12, a13⟩ := cells14 ((ho2 _ (by omega)).trans (alloc_kept HK.out.1 _))))
  have HK2 : Hid (W2.heap[w.heap.size]? = _ ∧ W2.heap[w.heap.size + 1]? = _ ∧ W2.heap[w.heap.size + 1 + 1]? = _) := ⟨(ho2 _ (by omega)).trans (alloc_kept HK.out.1 _), (ho2 _ (by omega)).trans (alloc_kept HK.out.2.1 _), (ho2 _ (by omega)).trans (alloc_kept HK.out.2.2 _)⟩
  have hsW : w1.heap.size < W2.heap.size := blk_lt e2
  clear a0 a1 a2 a3 a4 a5 a6 a7 a8 a9 a10 a11 a12 a13 b0 b1 b2
  go_upto_region 20 with (first | (refine wpList_store_at (by rfl) 84 _ _ (by rfl) w w.heap.size w1.heap.size 0 (.agg #[.int .i64 1, .int .i64 256]) _ #[.int .i64 1, .int .i64 256, .int .i64 0, .int .i64 0, .int .i64 0, .int .i64 0, .int .i64 0, .int .i64 0, .int .i64 0, .int .i64 0, .int .i64 0, .int .i64 0, .int .i64 0, .int .i64 0, .int .i64 0, .int .i64 0, .int .i64 0, .int .i64 c, .int .i64 h, .int .i64 k, .int .i64 0, .int .i64 0, .int .i64 0, .int .i64 0] 87 (by rfl) (by rfl) e2 hb2 (by omega) 2 Try.infoBound (by rfl) (Nat.le_of_ble_eq_true rfl) (by exact one_int2 _ _) (by rfl) ?_; intro W3 e3 hb3 hs3 ho3))
  have HK3 : Hid (W3.heap[w.heap.size]? = _ ∧ W3.heap[w.heap.size + 1]? = _ ∧ W3.heap[w.heap.size + 1 + 1]? = _) := ⟨(ho3 _ (by omega)).trans HK2.out.1, (ho3 _ (by omega)).trans HK2.out.2.1, (ho3 _ (by omega)).trans HK2.out.2.2⟩
  have q1 := cellAt HK3.out.1 1 (.int .i64 o) rfl
  go_upto_region 21 with (first | (refine wpList_store_at (by rfl) 3 _ _ (by rfl) w w.heap.size w1.heap.size 17 (.int .i64 o) _ #[.int .i64 1, .int .i64 256, .int .i64 0, .int .i64 0, .int .i64 0, .int .i64 0, .int .i64 0, .int .i64 0, .int .i64 0, .int .i64 0, .int .i64 0, .int .i64 0, .int .i64 0, .int .i64 0, .int .i64 0, .int .i64 0, .int .i64 0, .int .i64 o, .int .i64 h, .int .i64 k, .int .i64 0, .int .i64 0, .int .i64 0, .int .i64 0] 87 (by rfl) (by rfl) e3 hb3 (by omega) 1 Try.infoInt (by rfl) (Nat.le_of_ble_eq_true rfl) (by exact one_int _) (by rfl) ?_; intro W4 e4 hb4 hs4 ho4))
  have HK4 : Hid (W4.heap[w.heap.size]? = _ ∧ W4.heap[w.heap.size + 1]? = _ ∧ W4.heap[w.heap.size + 1 + 1]? = _) := ⟨(ho4 _ (by omega)).trans HK3.out.1, (ho4 _ (by omega)).trans HK3.out.2.1, (ho4 _ (by omega)).trans HK3.out.2.2⟩
  clear q1 e2 hb2 hs2 ho2 hb3 hs3 ho3 e3 hs4 ho4
  have q1 := cellAt HK4.out.1 1 (.int .i64 o) rfl
  have q2 := cellAt HK4.out.1 2 (.int .i64 kh) rfl
  have q3 := cellAt HK4.out.1 3 (.int .i64 kw) rfl
  obtain ⟨b0, b1, b2⟩ := cells3 HK4.out.2.1
  have hS : (fun w' => w'.cell? ⟨w.heap.size, 1, none⟩ = some (.int .i64 o) ∧ w'.cell? ⟨w.heap.size, 2, none⟩ = some (.int .i64 kh) ∧ w'.cell? ⟨w.heap.size, 3, none⟩ = some (.int .i64 kw) ∧ w'.cell? ⟨w.heap.size + 1, 0, none⟩ = some (.int .i64 c)) W4.drew := ⟨cellAt (HK4.out.1) 1 (.int .i64 o) rfl, cellAt (HK4.out.1) 2 (.int .i64 kh) rfl, cellAt (HK4.out.1) 3 (.int .i64 kw) rfl, (cells3 (HK4.out.2.1)).1⟩
  clear q1 q2 q3 b0 b1 b2
  refine wp_region_noPanic ?_
  refine wp_region_held_drew (S := (fun w' => w'.cell? ⟨w.heap.size, 1, none⟩ = some (.int .i64 o) ∧ w'.cell? ⟨w.heap.size, 2, none⟩ = some (.int .i64 kh) ∧ w'.cell? ⟨w.heap.size, 3, none⟩ = some (.int .i64 kw) ∧ w'.cell? ⟨w.heap.size + 1, 0, none⟩ = some (.int .i64 c))) (by kernel_rfl) hS (fun _ => ?_)
  refine takeH 60 (i := 0) (v := ?_) rfl rfl (by kernel_rfl) (by kernel_rfl) (by kernel_rfl) (fun _ _ _ h => h) (Or.inl ⟨by kernel_rfl, ?_⟩) (by assumption) ?_
  rotate_left
  · intro w' hSw; (try dsimp only at hSw); go_simp; try with_reducible rfl
  try simp only [Act.put, List.setIfInBounds_toArray, List.set_cons_zero, List.set_cons_succ]
  refine takeH 61 (i := 1) (v := ?_) rfl rfl (by kernel_rfl) (by kernel_rfl) (by kernel_rfl) (fun _ _ _ h => h) (Or.inl ⟨by kernel_rfl, ?_⟩) (by assumption) ?_
  rotate_left
  · intro w' hSw; (try dsimp only at hSw); go_simp; try with_reducible rfl
  try simp only [Act.put, List.setIfInBounds_toArray, List.set_cons_zero, List.set_cons_succ]
  refine takeH 62 (i := 2) (v := ?_) rfl rfl (by kernel_rfl) (by kernel_rfl) (by kernel_rfl) (fun _ _ _ h => h) (Or.inl ⟨by kernel_rfl, ?_⟩) (by assumption) ?_
  rotate_left
  · intro w' hSw; (try dsimp only at hSw); go_simp; try with_reducible rfl
  try simp only [Act.put, List.setIfInBounds_toArray, List.set_cons_zero, List.set_cons_succ]
  refine takeH 63 (i := 3) (v := ?_) rfl rfl (by kernel_rfl) (by kernel_rfl) (by kernel_rfl) (fun _ _ _ h => h) (Or.inl ⟨by kernel_rfl, ?_⟩) (by assumption) ?_
  rotate_left
  · intro w' hSw; (try dsimp only at hSw); go_simp; try with_reducible rfl
  try simp only [Act.put, List.setIfInBounds_toArray, List.set_cons_zero, List.set_cons_succ]
  refine takeH 64 (i := 4) (v := ?_) rfl rfl (by kernel_rfl) (by kernel_rfl) (by kernel_rfl) (fun _ _ _ h => h) (Or.inl ⟨by kernel_rfl, ?_⟩) (by assumption) ?_
  rotate_left
  · intro w' hSw; (try dsimp only at hSw); go_simp; try with_reducible rfl
  try simp only [Act.put, List.setIfInBounds_toArray, List.set_cons_zero, List.set_cons_succ]
  refine takeH 65 (i := 5) (v := ?_) rfl rfl (by kernel_rfl) (by kernel_rfl) (by kernel_rfl) (fun _ _ _ h => h) (Or.inl ⟨by kernel_rfl, ?_⟩) (by assumption) ?_
  rotate_left
  · intro w' hSw; (try dsimp only at hSw); go_simp; try with_reducible rfl
  try simp only [Act.put, List.setIfInBounds_toArray, List.set_cons_zero, List.set_cons_succ]
  refine takeH 66 (i := 6) (v := ?_) rfl rfl (by kernel_rfl) (by kernel_rfl) (by kernel_rfl) (fun _ _ _ h => h) (Or.inl ⟨by kernel_rfl, ?_⟩) (by assumption) ?_
  rotate_left
  · intro w' hSw; (try dsimp only at hSw); go_simp; try with_reducible rfl
  try simp only [Act.put, List.setIfInBounds_toArray, List.set_cons_zero, List.set_cons_succ]
  refine takeH 67 (i := 7) (v := ?_) rfl rfl (by kernel_rfl) (by kernel_rfl) (by kernel_rfl) (fun _ _ _ h => h) (Or.inl ⟨by kernel_rfl, ?_⟩) (by assumption) ?_
  rotate_left
  · intro w' hSw; (try dsimp only at hSw); go_simp; try with_reducible rfl
  try simp only [Act.put, List.setIfInBounds_toArray, List.set_cons_zero, List.set_cons_succ]
  refine takeH 68 (i := 8) (v := ?_) rfl rfl (by kernel_rfl) (by kernel_rfl) (by kernel_rfl) (fun _ _ _ h => h) (Or.inl ⟨by kernel_rfl, ?_⟩) (by assumption) ?_
  rotate_left
  · intro w' hSw; (try dsimp only at hSw); go_simp; try with_reducible rfl
  try simp only [Act.put, List.setIfInBounds_toArray, List.set_cons_zero, List.set_cons_succ]
  refine takeH 69 (i := 9) (v := ?_) rfl rfl (by kernel_rfl) (by kernel_rfl) (by kernel_rfl) (fun _ _ _ h => h) (Or.inl ⟨by kernel_rfl, ?_⟩) (by assumption) ?_
  rotate_left
  · intro w' hSw; (try dsimp only at hSw); go_simp; try with_reducible rfl
  try simp only [Act.put, List.setIfInBounds_toArray, List.set_cons_zero, List.set_cons_succ]
  refine takeH 70 (i := 10) (v := ?_) rfl rfl (by kernel_rfl) (by kernel_rfl) (by kernel_rfl) (fun _ _ _ h => h) (Or.inl ⟨by kernel_rfl, ?_⟩) (by assumption) ?_
  rotate_left
  · intro w' hSw; (try dsimp only at hSw); go_simp; try with_reducible rfl
  try simp only [Act.put, List.setIfInBounds_toArray, List.set_cons_zero, List.set_cons_succ]
  refine takeH 71 (i := 11) (v := ?_) rfl rfl (by kernel_rfl) (by kernel_rfl) (by kernel_rfl) (fun _ _ _ h => h) (Or.inl ⟨by kernel_rfl, ?_⟩) (by assumption) ?_
  rotate_left
  · intro w' hSw; (try dsimp only at hSw); go_simp; try with_reducible rfl
  try simp only [Act.put, List.setIfInBounds_toArray, List.set_cons_zero, List.set_cons_succ]
  refine takeH 72 (i := 12) (v := ?_) rfl rfl (by kernel_rfl) (by kernel_rfl) (by kernel_rfl) (fun _ _ _ h => h) (Or.inl ⟨by kernel_rfl, ?_⟩) (by assumption) ?_
  rotate_left
  · intro w' hSw; (try dsimp only at hSw); go_simp; try with_reducible rfl
  try simp only [Act.put, List.setIfInBounds_toArray, List.set_cons_zero, List.set_cons_succ]
  refine takeH 73 (i := 13) (v := ?_) rfl rfl (by kernel_rfl) (by kernel_rfl) (by kernel_rfl) (fun _ _ _ h => h) (Or.inl ⟨by kernel_rfl, ?_⟩) (by assumption) ?_
  rotate_left
  · intro w' hSw; (try dsimp only at hSw); go_simp; try with_reducible rfl
  try simp only [Act.put, List.setIfInBounds_toArray, List.set_cons_zero, List.set_cons_succ]
  refine wpAnyH_ready (rs := [14]) (by kernel_rfl) (by simp) ?_
  refine consH _ rfl (hopL rfl (wpList_store_at (by rfl) 3 _ _ (by rfl) w w.heap.size w1.heap.size 20 (.int .i64 p) _ #[.int .i64 1, .int .i64 256, .int .i64 0, .int .i64 0, .int .i64 0, .int .i64 0, .int .i64 0, .int .i64 0, .int .i64 0, .int .i64 0, .int .i64 0, .int .i64 0, .int .i64 0, .int .i64 0, .int .i64 0, .int .i64 0, .int .i64 0, .int .i64 o, .int .i64 h, .int .i64 k, .int .i64 p, .int .i64 0, .int .i64 0, .int .i64 0] 87 (by kernel_rfl) (by kernel_rfl) e4 hb4.drew (by omega) 1 Try.infoInt (by rfl) (Nat.le_of_ble_eq_true rfl) (by exact one_int _) (by rfl) fun W6 e6 hb6 hs6 ho6 => ?_)) AllReadyH.nil
  have HK6 : Hid (W6.heap[w.heap.size]? = _ ∧ W6.heap[w.heap.size + 1]? = _ ∧ W6.heap[w.heap.size + 1 + 1]? = _) := ⟨(ho6 _ (by omega)).trans HK4.out.1, (ho6 _ (by omega)).trans HK4.out.2.1, (ho6 _ (by omega)).trans HK4.out.2.2⟩
  have hS6 : (fun w' => w'.cell? ⟨w.heap.size, 1, none⟩ = some (.int .i64 o) ∧ w'.cell? ⟨w.heap.size, 2, none⟩ = some (.int .i64 kh) ∧ w'.cell? ⟨w.heap.size, 3, none⟩ = some (.int .i64 kw) ∧ w'.cell? ⟨w.heap.size + 1, 0, none⟩ = some (.int .i64 c)) W6 := ⟨cellAt (HK6.out.1) 1 (.int .i64 o) rfl, cellAt (HK6.out.1) 2 (.int .i64 kh) rfl, cellAt (HK6.out.1) 3 (.int .i64 kw) rfl, (cells3 (HK6.out.2.1)).1⟩
  refine (And.intro hS6 ?_ : _ ∧ _)
  try simp only [Act.put, List.setIfInBounds_toArray, List.set_cons_zero, List.set_cons_succ]
  refine takeH 74 (i := 15) (v := ?_) rfl rfl (by kernel_rfl) (by kernel_rfl) (by kernel_rfl) (fun _ _ _ h => h) (Or.inl ⟨by kernel_rfl, ?_⟩) (by assumption) ?_
  rotate_left
  · intro w' hSw; (try dsimp only at hSw); go_simp; try with_reducible rfl
  try simp only [Act.put, List.setIfInBounds_toArray, List.set_cons_zero, List.set_cons_succ]
  refine wpAnyH_ready (rs := [16]) (by kernel_rfl) (by simp) ?_
  refine consH _ rfl (hopL rfl (wpList_store_at (by rfl) 3 _ _ (by rfl) w w.heap.size w1.heap.size 21 (.int .i64 o) _ #[.int .i64 1, .int .i64 256, .int .i64 0, .int .i64 0, .int .i64 0, .int .i64 0, .int .i64 0, .int .i64 0, .int .i64 0, .int .i64 0, .int .i64 0, .int .i64 0, .int .i64 0, .int .i64 0, .int .i64 0, .int .i64 0, .int .i64 0, .int .i64 o, .int .i64 h, .int .i64 k, .int .i64 p, .int .i64 o, .int .i64 0, .int .i64 0] 87 (by kernel_rfl) (by kernel_rfl) e6 hb6 (by omega) 1 Try.infoInt (by rfl) (Nat.le_of_ble_eq_true rfl) (by exact one_int _) (by rfl) fun W5 e5 hb5 hs5 ho5 => ?_)) AllReadyH.nil
  have HK5 : Hid (W5.heap[w.heap.size]? = _ ∧ W5.heap[w.heap.size + 1]? = _ ∧ W5.heap[w.heap.size + 1 + 1]? = _) := ⟨(ho5 _ (by omega)).trans HK6.out.1, (ho5 _ (by omega)).trans HK6.out.2.1, (ho5 _ (by omega)).trans HK6.out.2.2⟩
  have hS5 : (fun w' => w'.cell? ⟨w.heap.size, 1, none⟩ = some (.int .i64 o) ∧ w'.cell? ⟨w.heap.size, 2, none⟩ = some (.int .i64 kh) ∧ w'.cell? ⟨w.heap.size, 3, none⟩ = some (.int .i64 kw) ∧ w'.cell? ⟨w.heap.size + 1, 0, none⟩ = some (.int .i64 c)) W5 := ⟨cellAt (HK5.out.1) 1 (.int .i64 o) rfl, cellAt (HK5.out.1) 2 (.int .i64 kh) rfl, cellAt (HK5.out.1) 3 (.int .i64 kw) rfl, (cells3 (HK5.out.2.1)).1⟩
  refine (And.intro hS5 ?_ : _ ∧ _)
  try simp only [Act.put, List.setIfInBounds_toArray, List.set_cons_zero, List.set_cons_succ]
  refine wpAnyH_done (by kernel_rfl) ?_ _
  refine NoPanic.normal ?_
  try simp only [Act.put, List.setIfInBounds_toArray, List.set_cons_zero, List.set_cons_succ]
  clear hS hS5 hS6 hb6 hs6 ho6 e6 HK6 HK4 hb4 e4 hs5 ho5
  have HG : Hid _ := goBy_any w1.heap.size 2 o kh kw sh sw ph pw fr A v1 v2 v3 v4 c h k 1 256 o p o kh' kw' hh ww hk1 hk2 HW1.out HW2.out W5 e5
  obtain ⟨q0, q1, q2⟩ := cells3 HK5.out.2.1
  have K5 : Hid _ := HK5.out.1
  have hlt5 := blk_lt e5
  go_upto_region 23 with (first
    | (refine wpList_load_row (by rfl) 30 _ (by rfl) w.heap.size _ (by rfl) K5.out _ Try.underlying30 rfl 14 Try.infoLy (by rfl) ?_)
    | (go_at_call 53; refine Calls.mono HG.out ?_; rintro e W6 ⟨rfl, e6, hb6⟩))
  have HK6 : Hid (W6.heap[w.heap.size]? = _ ∧ W6.heap[w.heap.size + 1]? = _ ∧ W6.heap[w.heap.size + 1 + 1]? = _) := ⟨(hb6.block _ (by omega)).trans HK5.out.1, (hb6.block _ (by omega)).trans HK5.out.2.1, (hb6.block _ (by omega)).trans HK5.out.2.2⟩
  have hb7 : Below w.heap.size w W6 := hb5.trans (hb6.mono (by omega))
  have p0 := cellAt HK6.out.1 0 (.int .i64 2) rfl
  go_upto_region 32 with fail
  go_wp2_with (first
    | (refine wpList_load_row (by rfl) 87 _ (by rfl) w1.heap.size _ (by rfl) e6 _ Try.underlying87 rfl 24 Try.infoForm (by rfl) ?_)
    | (refine wpList_store_row (by rfl) 87 _ _ (by rfl) w w.heap.size (w.heap.size + 1 + 1) _ _ (by rfl) (by rfl) HK6.out.2.2 hb7 (by omega) 24 Try.infoForm (by rfl) (by rfl) (by exact one24 ..) ?_; intro W9 e9 hb9 hs9 ho9))
  refine bodyPost_ret (res_form _ 4 5 (by kernel_rfl) _ _ (w.heap.size + 1 + 1) _ _ (by rfl) (by rfl) rfl e9) rfl ?_
  exact ⟨rfl, hb9⟩
end Go.Proofs.Ytokglpemefkmjaa

namespace Go.Proofs.Ytokglpemefkmjaa
open Go.RowKit
set_option linter.unusedVariables false
set_option maxRecDepth 100000 in
set_option maxHeartbeats 2000000 in
theorem fieldsA_ok (A : Nat) (hA : A < 18446744073709551616) (hF : Fin A) (l0 l1 l2 l3 l4 l5 l6 l7 m0 m1 m2 m3 m4 m5 m6 m7 g0 g1 g2 g3 g4 g5 g6 g7 c h k n1 n2 n3 n4 K : Int) (v1 v2 v3 v4 : Value) (q0 : l0 ≤ g0 ∧ g0 ≤ m0) (q1 : l1 ≤ g1 ∧ g1 ≤ m1) (q2 : l2 ≤ g2 ∧ g2 ≤ m2) (q3 : l3 ≤ g3 ∧ g3 ≤ m3) (q4 : l4 ≤ g4 ∧ g4 ≤ m4) (q5 : l5 ≤ g5 ∧ g5 ≤ m5) (q6 : l6 ≤ g6 ∧ g6 ≤ m6) (q7 : l7 ≤ g7 ∧ g7 ≤ m7) (w : World) :
    Calls Try.prog 46 #[.agg #[.int .i64 l0, .int .i64 m0, .int .i64 l1, .int .i64 m1, .int .i64 l2, .int .i64 m2, .int .i64 l3, .int .i64 m3, .int .i64 l4, .int .i64 m4, .int .i64 l5, .int .i64 m5, .int .i64 l6, .int .i64 m6, .int .i64 l7, .int .i64 m7, .int .i64 1, .int .i64 c, .int .i64 h, .int .i64 k, .int .i64 n1, .int .i64 n2, .int .i64 n3, .int .i64 n4], .agg #[.int .i64 K, .int .i64 g0, .int .i64 g1, .int .i64 g2, .int .i64 g3, .int .i64 g4, .int .i64 g5, .int .i64 g6, .int .i64 g7, .float .f64 A, v1, v2, v3, v4]] w fun e w' => e = .returned (.int .i64 0) ∧ Below w.heap.size w w' := by
  go_enter Try.func46, Try.ntmps46
  go_upto_region 2 with fail
  go_loopg [24] 8 (fun g v wx => ∃ (i : Nat), v = .int .i64 i ∧ i + g = 8 ∧ Hid (Below w.heap.size w wx) ∧ Hid (wx.heap[w.heap.size]? = some (.cells #[.int .i64 l0, .int .i64 m0, .int .i64 l1, .int .i64 m1, .int .i64 l2, .int .i64 m2, .int .i64 l3, .int .i64 m3, .int .i64 l4, .int .i64 m4, .int .i64 l5, .int .i64 m5, .int .i64 l6, .int .i64 m6, .int .i64 l7, .int .i64 m7, .int .i64 1, .int .i64 c, .int .i64 h, .int .i64 k, .int .i64 n1, .int .i64 n2, .int .i64 n3, .int .i64 n4] 87) ∧ wx.heap[w.heap.size + 1]? = some (.cells #[.int .i64 K, .int .i64 g0, .int .i64 g1, .int .i64 g2, .int .i64 g3, .int .i64 g4, .int .i64 g5, .int .i64 g6, .int .i64 g7, .float .f64 A, v1, v2, v3, v4] 30)))
  case atStart => exact ⟨0, rfl, by omega, (((Below.refl _ w).alloc (Nat.le_refl _) _).alloc (by simp only [alloc_size]; omega) _), alloc_kept (heap_alloc_new w _) _, heap_at _ _ (w.heap.size + 1) (by simp only [alloc_size])⟩
  case round =>
    obtain ⟨i, rfl, hi, HB, HK⟩ := hrel
    obtain rfl | rfl | rfl | rfl | rfl | rfl | rfl | rfl | rfl : i = 0 ∨ i = 1 ∨ i = 2 ∨ i = 3 ∨ i = 4 ∨ i = 5 ∨ i = 6 ∨ i = 7 ∨ i = 8 := by omega
    · have hix := ix8_0 g0 g1 g2 g3 g4 g5 g6 g7 wr
      have c0 := cellAt HK.out.1 0 (.int .i64 l0) rfl
      have c1 := cellAt HK.out.1 1 (.int .i64 m0) rfl
      have HH : Hid _ := holds_in l0 m0 g0 wr
      rw [inB_true q0] at HH
      clear q0 q1 q2 q3 q4 q5 q6 q7
      go_wp2_with fail
      refine Calls.mono HH.out ?_
      rintro e w2 ⟨rfl, hb⟩
      have HB2 : Hid (Below w.heap.size w w2) := to_call HB.out hb
      have HK2 : Hid _ := (And.intro (kept hb HK.out.1) (kept hb HK.out.2))
      clear hb HH c0 c1 hix HB HK
      go_wp2
      go_roundg 7
      case measure => omega
      case rel => exact ⟨1, rfl, by omega, HB2, HK2⟩
    · have hix := ix8_1 g0 g1 g2 g3 g4 g5 g6 g7 wr
      have c0 := cellAt HK.out.1 2 (.int .i64 l1) rfl
      have c1 := cellAt HK.out.1 3 (.int .i64 m1) rfl
      have HH : Hid _ := holds_in l1 m1 g1 wr
      rw [inB_true q1] at HH
      clear q0 q1 q2 q3 q4 q5 q6 q7
      go_wp2_with fail
      refine Calls.mono HH.out ?_
      rintro e w2 ⟨rfl, hb⟩
      have HB2 : Hid (Below w.heap.size w w2) := to_call HB.out hb
      have HK2 : Hid _ := (And.intro (kept hb HK.out.1) (kept hb HK.out.2))
      clear hb HH c0 c1 hix HB HK
      go_wp2
      go_roundg 6
      case measure => omega
      case rel => exact ⟨2, rfl, by omega, HB2, HK2⟩
    · have hix := ix8_2 g0 g1 g2 g3 g4 g5 g6 g7 wr
      have c0 := cellAt HK.out.1 4 (.int .i64 l2) rfl
      have c1 := cellAt HK.out.1 5 (.int .i64 m2) rfl
      have HH : Hid _ := holds_in l2 m2 g2 wr
      rw [inB_true q2] at HH
      clear q0 q1 q2 q3 q4 q5 q6 q7
      go_wp2_with fail
      refine Calls.mono HH.out ?_
      rintro e w2 ⟨rfl, hb⟩
      have HB2 : Hid (Below w.heap.size w w2) := to_call HB.out hb
      have HK2 : Hid _ := (And.intro (kept hb HK.out.1) (kept hb HK.out.2))
      clear hb HH c0 c1 hix HB HK
      go_wp2
      go_roundg 5
      case measure => omega
      case rel => exact ⟨3, rfl, by omega, HB2, HK2⟩
    · have hix := ix8_3 g0 g1 g2 g3 g4 g5 g6 g7 wr
      have c0 := cellAt HK.out.1 6 (.int .i64 l3) rfl
      have c1 := cellAt HK.out.1 7 (.int .i64 m3) rfl
      have HH : Hid _ := holds_in l3 m3 g3 wr
      rw [inB_true q3] at HH
      clear q0 q1 q2 q3 q4 q5 q6 q7
      go_wp2_with fail
      refine Calls.mono HH.out ?_
      rintro e w2 ⟨rfl, hb⟩
      have HB2 : Hid (Below w.heap.size w w2) := to_call HB.out hb
      have HK2 : Hid _ := (And.intro (kept hb HK.out.1) (kept hb HK.out.2))
      clear hb HH c0 c1 hix HB HK
      go_wp2
      go_roundg 4
      case measure => omega
      case rel => exact ⟨4, rfl, by omega, HB2, HK2⟩
    · have hix := ix8_4 g0 g1 g2 g3 g4 g5 g6 g7 wr
      have c0 := cellAt HK.out.1 8 (.int .i64 l4) rfl
      have c1 := cellAt HK.out.1 9 (.int .i64 m4) rfl
      have HH : Hid _ := holds_in l4 m4 g4 wr
      rw [inB_true q4] at HH
      clear q0 q1 q2 q3 q4 q5 q6 q7
      go_wp2_with fail
      refine Calls.mono HH.out ?_
      rintro e w2 ⟨rfl, hb⟩
      have HB2 : Hid (Below w.heap.size w w2) := to_call HB.out hb
      have HK2 : Hid _ := (And.intro (kept hb HK.out.1) (kept hb HK.out.2))
      clear hb HH c0 c1 hix HB HK
      go_wp2
      go_roundg 3
      case measure => omega
      case rel => exact ⟨5, rfl, by omega, HB2, HK2⟩
    · have hix := ix8_5 g0 g1 g2 g3 g4 g5 g6 g7 wr
      have c0 := cellAt HK.out.1 10 (.int .i64 l5) rfl
      have c1 := cellAt HK.out.1 11 (.int .i64 m5) rfl
      have HH : Hid _ := holds_in l5 m5 g5 wr
      rw [inB_true q5] at HH
      clear q0 q1 q2 q3 q4 q5 q6 q7
      go_wp2_with fail
      refine Calls.mono HH.out ?_
      rintro e w2 ⟨rfl, hb⟩
      have HB2 : Hid (Below w.heap.size w w2) := to_call HB.out hb
      have HK2 : Hid _ := (And.intro (kept hb HK.out.1) (kept hb HK.out.2))
      clear hb HH c0 c1 hix HB HK
      go_wp2
      go_roundg 2
      case measure => omega
      case rel => exact ⟨6, rfl, by omega, HB2, HK2⟩
    · have hix := ix8_6 g0 g1 g2 g3 g4 g5 g6 g7 wr
      have c0 := cellAt HK.out.1 12 (.int .i64 l6) rfl
      have c1 := cellAt HK.out.1 13 (.int .i64 m6) rfl
      have HH : Hid _ := holds_in l6 m6 g6 wr
      rw [inB_true q6] at HH
      clear q0 q1 q2 q3 q4 q5 q6 q7
      go_wp2_with fail
      refine Calls.mono HH.out ?_
      rintro e w2 ⟨rfl, hb⟩
      have HB2 : Hid (Below w.heap.size w w2) := to_call HB.out hb
      have HK2 : Hid _ := (And.intro (kept hb HK.out.1) (kept hb HK.out.2))
      clear hb HH c0 c1 hix HB HK
      go_wp2
      go_roundg 1
      case measure => omega
      case rel => exact ⟨7, rfl, by omega, HB2, HK2⟩
    · have hix := ix8_7 g0 g1 g2 g3 g4 g5 g6 g7 wr
      have c0 := cellAt HK.out.1 14 (.int .i64 l7) rfl
      have c1 := cellAt HK.out.1 15 (.int .i64 m7) rfl
      have HH : Hid _ := holds_in l7 m7 g7 wr
      rw [inB_true q7] at HH
      clear q0 q1 q2 q3 q4 q5 q6 q7
      go_wp2_with fail
      refine Calls.mono HH.out ?_
      rintro e w2 ⟨rfl, hb⟩
      have HB2 : Hid (Below w.heap.size w w2) := to_call HB.out hb
      have HK2 : Hid _ := (And.intro (kept hb HK.out.1) (kept hb HK.out.2))
      clear hb HH c0 c1 hix HB HK
      go_wp2
      go_roundg 0
      case measure => omega
      case rel => exact ⟨8, rfl, by omega, HB2, HK2⟩
    · have c0 := cellAt HK.out.1 16 (.int .i64 1) rfl
      have c1 := cellAt HK.out.2 9 (.float .f64 A) rfl
      have HA : Hid (Calls Try.prog 56 #[.float .f64 A] wr fun e w' => e = .returned (.bool true) ∧ w' = wr) := by
        have := numberM_any A hA wr
        rw [decide_eq_true hF] at this
        exact this
      clear q0 q1 q2 q3 q4 q5 q6 q7
      go_wp2_with (go_at_call 56; refine Calls.mono HA.out ?_; rintro e w2 ⟨rfl, hw⟩; rw [hw]; clear hw)
      go_ret
      exact ⟨rfl, HB.out⟩
end Go.Proofs.Ytokglpemefkmjaa

namespace Go.Proofs.Ytokglpemefkmjaa
open Go.RowKit
set_option linter.unusedVariables false
def idx (n : Nat) : List Int := (List.range n).map fun (j : Nat) => (j : Int)
def pk (us : List Nat) (s n : Nat) : List Nat := (List.range n).map fun (j : Nat) => us[s + j]?.getD 0
theorem idx_snoc (n : Nat) : idx (n + 1) = idx n ++ [(n : Int)] := by unfold idx; rw [List.range_succ, List.map_append]; rfl
theorem pk_snoc (us : List Nat) (s n : Nat) : pk us s (n + 1) = pk us s n ++ [us[s + n]?.getD 0] := by unfold pk; rw [List.range_succ, List.map_append]; rfl
theorem idx_len (n : Nat) : (idx n).length = n := by unfold idx; simp
theorem pk_len (us : List Nat) (s n : Nat) : (pk us s n).length = n := by unfold pk; simp
theorem cutLH (b off len cap lo hi : Nat) (h1 : lo ≤ hi) (h2 : hi ≤ cap) (h3 : lo < cap) (w : World) :
    (Instr.slice 27 (.slice (some ⟨b, off, none⟩) len cap) (some (.int .i64 (lo : Int))) (some (.int .i64 (hi : Int))) none).run Try.prog w = .ok (.slice (some ⟨b, off + lo, none⟩) (hi - lo) (cap - lo)) w := by
  rw [run_slice_lh w _ _ _ _ (by rw [Try.elemF]; exact Try.underlying27) .i64 .i64 lo hi (by omega) (by omega) (by omega), Try.elemF, sizeF64]
  simp only [Result.andThen, sliced, Int.toNat_natCast]
  rw [if_neg (by omega)]
  simp only [Option.map_some, Addr.add_lit, Nat.mul_one]
theorem cutLHn (b off len cap lo hi n : Nat) (h0 : lo + n = hi) (h2 : hi ≤ cap) (h3 : lo < cap) (w : World) :
    (Instr.slice 27 (.slice (some ⟨b, off, none⟩) len cap) (some (.int .i64 (lo : Int))) (some (.int .i64 (hi : Int))) none).run Try.prog w = .ok (.slice (some ⟨b, off + lo, none⟩) n (cap - lo)) w := by
  have := cutLH b off len cap lo hi (by omega) h2 h3 w
  rw [show hi - lo = n by omega] at this
  exact this
theorem ix3P (a b c : Int) (w : World) : (Instr.index 69 (.agg #[.int .i64 a, .int .i64 b, .int .i64 c]) (.int .i64 0)).run Try.prog w = .ok (.int .i64 a) w := by kernel_rfl
set_option maxRecDepth 100000 in
set_option maxHeartbeats 2000000 in
theorem scaleRow_any (x0 x1 x2 x3 x4 x5 x6 x7 x8 x9 x12 x13 : Value) (wo bo : Option Addr) (wn wc bn bc : Nat) (us vs : List Nat) (c h k q r s i : Int) (ch : Nat) (hq : q = (ch : Int)) (hcw : ch < wn) (hcb : ch < bn)
    (hP : ∀ w, Calls Try.prog 27 #[.int .i64 i, .agg #[.int .i64 c, .int .i64 h, .int .i64 k]] w fun e w' => e = .returned (.agg #[.int .i64 q, .int .i64 r, .int .i64 s]) ∧ Below w.heap.size w w')
    (w : World) (hW : RdF w wo wn wc us) (hB : RdF w bo bn bc vs) :
    Calls Try.prog 39 #[.agg #[x0, x1, x2, x3, x4, x5, x6, x7, x8, x9, .slice wo wn wc, .slice bo bn bc, x12, x13], .agg #[.int .i64 c, .int .i64 h, .int .i64 k], .int .i64 i] w fun e w' => ∃ v1 v2, e = .returned (.agg #[v1, v2, .float .f64 (vs[ch]?.getD 0)]) ∧ v1.oneCell' = true ∧ v2.oneCell' = true ∧ RowV w' w.heap.size v1 v2 [i] [us[ch]?.getD 0] ∧ Below w.heap.size w w' := by
  subst hq
  have HP : Hid _ := hP
  have HW : Hid _ := hW
  have HBB : Hid _ := hB
  clear hP hW hB
  have j0 : (0 : Int) ≤ (ch : Int) := by omega
  have j1 : (ch : Int) < (bn : Int) := by omega
  have j2 : (ch : Int) < (wn : Int) := by omega
  go_enter Try.func39, Try.ntmps39
  go_wp2_with fail
  refine Calls.mono (HP.out _) ?_
  rintro e w1 ⟨rfl, hb⟩
  have HB1 : Hid (Below w.heap.size w w1) := to_call ((((Below.refl _ w).alloc (Nat.le_refl _) _).alloc (by simp only [alloc_size]; omega) _).alloc (by simp only [alloc_size]; omega) _) hb
  have k0 := kept hb (alloc_kept (alloc_kept (heap_alloc_new w _) _) _)
  have k2 := kept hb (heap_at _ _ (w.heap.size + 1 + 1) (by simp only [alloc_size]))
  have hsz := blk_lt k2
  rcases (HBB.out.later HB1.out).cells with z | ⟨bb, boff, rfl, hcB⟩
  · omega
  have gB := hcB ch hcb
  have lB := World.block_lt_of_cell? w1 _ gB
  have hixF := fun (x : World) => (ix3P (ch : Int) r s x)
  have c11 := cellOf k0 11 (.slice (some ⟨bb, boff, none⟩) bn bc) rfl
  have K0 : Hid _ := k0
  have K2 : Hid _ := k2
  clear hb HP hcB k0 k2
  go_upto_region 3 with (first | (refine wpList_store_row (by rfl) 64 _ _ (by rfl) w w.heap.size w1.heap.size _ _ (by rfl) (by rfl) (heap_alloc_new w1 _) (HB1.out.alloc (by omega) _) (by omega) 3 Try.infoRow (by rfl) (by rfl) (by exact one_row _ _ _ rfl rfl) ?_; intro W2 e2 hb2 hs2 ho2))
  have K02 : Hid (W2.heap[w.heap.size]? = _) := (ho2 _ (by omega)).trans (alloc_kept K0.out _)
  have K22 : Hid (W2.heap[w.heap.size + 1 + 1]? = _) := (ho2 _ (by omega)).trans (alloc_kept K2.out _)
  rcases (HW.out.later hb2).cells with z | ⟨bw, woff, rfl, hcW⟩
  · omega
  have gW := hcW ch hcw
  have HO2 : Hid (RowO W2 W2.heap.size w1.heap.size [] [] (vs[ch]?.getD 0)) := ⟨_, _, e2, rfl, rfl, World.ownsRow_nil _ _ _ 1, World.ownsRow_nil _ _ _ 1⟩
  have HB2 : Hid _ := hb2
  have hl2 := blk_lt e2
  have c10 := cellOf K02.out 10 (.slice (some ⟨bw, woff, none⟩) wn wc) rfl
  clear c11 gB ho2 K0 K2 hcW hs2 e2 hb2
  go_upto_region 4 with (first | (go_at_call 47; refine Calls.mono (put_any w1.heap.size W2.heap.size [] [] _ i (us[ch]?.getD 0) _ HO2.out (Nat.le_refl _) w.heap.size (by omega) (by omega) (by simp) (by simp)) ?_; rintro e w4 ⟨rfl, o4, b4, t4⟩))
  have HB4 : Hid (Below w.heap.size w w4) := HB2.out.trans b4
  have HK4 : Hid (w4.heap[w.heap.size + 1 + 1]? = _) := (t4 _ (by omega) (by omega)).trans K22.out
  obtain ⟨v1, v2, k1, p1, p2, ov⟩ := o4
  have HV : Hid (RowV w4 w.heap.size v1 v2 [i] [us[ch]?.getD 0]) := ov.mono (by omega)
  have K1 : Hid (w4.heap[w1.heap.size]? = _) := k1
  clear k1 ov b4 t4 gW c10
  go_wp2_with (first
    | (refine wpList_load_row (by rfl) 64 _ (by rfl) w1.heap.size _ (by rfl) K1.out _ Try.underlying64 rfl 3 Try.infoRow (by rfl) ?_)
    | (refine wpList_store_row (by rfl) 64 _ _ (by rfl) w w.heap.size (w.heap.size + 1 + 1) _ _ (by rfl) (by rfl) HK4.out HB4.out (by omega) 3 Try.infoRow (by rfl) (by rfl) (by exact one_row _ _ _ p1 p2) ?_; intro W9 e9 hb9 hs9 ho9))
  refine bodyPost_ret (res_one _ 6 64 (by kernel_rfl) _ _ (w.heap.size + 1 + 1) _ (by rfl) _ Try.underlying64 rfl 3 Try.infoRow rfl e9) rfl ?_
  refine ⟨v1, v2, rfl, p1, p2, HV.out.keep fun k hk hv => ho9 k fun e => ?_, hb9⟩
  rcases hv with hv | hv
  · exact own_ne HV.out.o1 HK4.out (by decide) (e ▸ hv)
  · exact own_ne HV.out.o2 HK4.out (by decide) (e ▸ hv)
set_option maxRecDepth 100000 in
set_option maxHeartbeats 2000000 in
theorem denseRow_any (x0 x1 x2 x3 x4 x5 x6 x7 x8 x9 x12 x13 : Value) (wo bo : Option Addr) (wn wc bn bc : Nat) (us vs : List Nat) (c h k : Int) (n i : Nat) (hn : szF [c, h, k] 1 = ((n : Int), 0)) (hn0 : 1 ≤ n ∧ n ≤ 256) (hib : i < bn) (hbn : bn ≤ 256) (hwn : (i + 1) * n ≤ wn) (hwc : wn ≤ wc)
    (w : World) (hW : RdF w wo wn wc us) (hB : RdF w bo bn bc vs) :
    Calls Try.prog 37 #[.agg #[x0, x1, x2, x3, x4, x5, x6, x7, x8, x9, .slice wo wn wc, .slice bo bn bc, x12, x13], .agg #[.int .i64 c, .int .i64 h, .int .i64 k], .int .i64 (i : Int)] w fun e w' => ∃ v1 v2, e = .returned (.agg #[v1, v2, .float .f64 (vs[i]?.getD 0)]) ∧ v1.oneCell' = true ∧ v2.oneCell' = true ∧ RowV w' w.heap.size v1 v2 (idx n) (pk us (i * n) n) ∧ Below w.heap.size w w' := by
  have HS : Hid _ := fun w => size_of hn w
  have HW : Hid _ := hW
  have HBB : Hid _ := hB
  clear hW hB hn
  obtain ⟨lo, hlo⟩ : ∃ lo, i * n = lo := ⟨_, rfl⟩
  obtain ⟨hi, hhi⟩ : ∃ hi, (i + 1) * n = hi := ⟨_, rfl⟩
  have hlh : hi = lo + n := by rw [← hhi, ← hlo, Nat.add_mul, Nat.one_mul]
  have hlb : hi ≤ 65536 := by rw [← hhi]; exact Nat.mul_le_mul (show i + 1 ≤ 256 by omega) hn0.2
  rw [hhi] at hwn
  rw [hlo]
  have m1 : IntKind.i64.wrap ((i : Int) * (n : Int)) = (lo : Int) := by rw [← Int.natCast_mul, hlo, IntKind.wrap_i64]; omega
  have m2 : IntKind.i64.wrap ((i : Int) + 1) = ((i + 1 : Nat) : Int) := by rw [IntKind.wrap_i64]; omega
  have m2' : IntKind.i64.wrap ((i : Int) + 1) = (i : Int) + 1 := by rw [IntKind.wrap_i64]; omega
  have m3 : IntKind.i64.wrap (((i : Int) + 1) * (n : Int)) = (hi : Int) := by rw [show ((i : Int) + 1) * (n : Int) = (((i + 1) * n : Nat) : Int) by rw [Int.natCast_mul]; rfl, hhi, IntKind.wrap_i64]; omega
  have j0 : (0 : Int) ≤ (i : Int) := by omega
  have j1 : (i : Int) < (bn : Int) := by omega
  clear hlo hhi m2
  go_enter Try.func37, Try.ntmps37
  go_wp2_with fail
  refine Calls.mono (HS.out _) ?_
  rintro e w1 ⟨rfl, hb⟩
  have HB1 : Hid (Below w.heap.size w w1) := to_call ((((Below.refl _ w).alloc (Nat.le_refl _) _).alloc (by simp only [alloc_size]; omega) _).alloc (by simp only [alloc_size]; omega) _) hb
  have k0 := kept hb (alloc_kept (alloc_kept (heap_alloc_new w _) _) _)
  have k2 := kept hb (heap_at _ _ (w.heap.size + 1 + 1) (by simp only [alloc_size]))
  have hsz := blk_lt k2
  rcases (HBB.out.later HB1.out).cells with z | ⟨bb, boff, rfl, hcB⟩
  · omega
  have gB := hcB i hib
  have c11 := cellOf k0 11 (.slice (some ⟨bb, boff, none⟩) bn bc) rfl
  have K0 : Hid _ := k0
  have K2 : Hid _ := k2
  clear hb HS hcB k0 k2
  go_upto_region 3 with (first | (refine wpList_store_row (by rfl) 64 _ _ (by rfl) w w.heap.size w1.heap.size _ _ (by rfl) (by rfl) (heap_alloc_new w1 _) (HB1.out.alloc (by omega) _) (by omega) 3 Try.infoRow (by rfl) (by rfl) (by exact one_row _ _ _ rfl rfl) ?_; intro W2 e2 hb2 hs2 ho2))
  have K02 : Hid (W2.heap[w.heap.size]? = _) := (ho2 _ (by omega)).trans (alloc_kept K0.out _)
  have K22 : Hid (W2.heap[w.heap.size + 1 + 1]? = _) := (ho2 _ (by omega)).trans (alloc_kept K2.out _)
  rcases (HW.out.later hb2).cells with z | ⟨bw, woff, rfl, -⟩
  · omega
  have HO2 : Hid (RowO W2 W2.heap.size w1.heap.size [] [] (vs[i]?.getD 0)) := ⟨_, _, e2, rfl, rfl, World.ownsRow_nil _ _ _ 1, World.ownsRow_nil _ _ _ 1⟩
  have HB2 : Hid _ := hb2
  have hl2 := blk_lt e2
  have c10 := cellOf K02.out 10 (.slice (some ⟨bw, woff, none⟩) wn wc) rfl
  have hcut := fun (x : World) => cutLHn bw woff wn wc lo hi n hlh.symm (by omega) (by omega) x
  have hwn' : lo + n ≤ wn := by omega
  clear hlh
  clear c11 gB ho2 K0 K2 hs2 e2 hb2
  go_wp2_with fail

  go_loopg [34] n (fun g v wx => ∃ j : Nat, v = .int .i64 j ∧ j + g = n ∧ Hid (RowO wx W2.heap.size w1.heap.size (idx j) (pk us lo j) (vs[i]?.getD 0)) ∧ Hid (Below w.heap.size w wx) ∧ Hid (wx.heap[w.heap.size + 1 + 1]? = some (.cells #[.slice none 0 0, .slice none 0 0, .float .f64 0] 64)) ∧ W2.heap.size ≤ wx.heap.size)
  case atStart => exact ⟨0, rfl, by omega, HO2.out, HB2.out, K22.out, Nat.le_refl _⟩
  case round =>
    obtain ⟨j, rfl, hj, HO, HB, HK, hwr⟩ := hrel
    by_cases hlt : j < n
    · obtain ⟨g, rfl⟩ : ∃ g, gk = g + 1 := ⟨gk - 1, by omega⟩
      have hd : decide ((j : Int) < (n : Int)) = true := decide_eq_true (by omega)
      rcases (HW.out.later HB.out).cells with z | ⟨b', o', he, hcW⟩
      · omega
      cases he
      have gW := hcW (lo + j) (by omega)
      rw [← Nat.add_assoc] at gW
      have i0 : (0 : Int) ≤ (j : Int) := by omega
      have i1 : (j : Int) < (n : Int) := by omega
      have hw1 : IntKind.i64.wrap ((j : Int) + 1) = (j : Int) + 1 := by rw [IntKind.wrap_i64]; omega
      clear hcW
      go_wp2_with fail
      refine Calls.mono (put_any w1.heap.size W2.heap.size (idx j) (pk us lo j) _ j (us[lo + j]?.getD 0) _ HO.out hwr w.heap.size (by omega) (by omega) (by rw [idx_len]; omega) (by rw [pk_len]; omega)) ?_
      rintro e w4 ⟨rfl, o4, b4, t4⟩
      have HO4 : Hid _ := o4
      have HB4 : Hid (Below w.heap.size w w4) := HB.out.trans b4
      have HK4 : Hid (w4.heap[w.heap.size + 1 + 1]? = _) := (t4 _ (by omega) (by omega)).trans HK.out
      have hs4 := b4.size
      clear o4 b4 t4 gW
      go_wp2_with fail
      go_roundg g
      case measure => omega
      case rel => exact ⟨j + 1, by go_num, by omega, by have := HO4.out; rw [← idx_snoc, ← pk_snoc] at this; exact this, HB4.out, HK4.out, by omega⟩
    · obtain rfl : j = n := by omega
      have hd : decide ((j : Int) < (j : Int)) = false := decide_eq_false (by omega)
      obtain ⟨v1, v2, k1, p1, p2, ov⟩ := HO.out
      have HV : Hid (RowV wr w.heap.size v1 v2 (idx j) (pk us lo j)) := ov.mono (by omega)
      have K1 : Hid (wr.heap[w1.heap.size]? = _) := k1
      clear k1 ov
      go_wp2_with (first
        | (refine wpList_load_row (by rfl) 64 _ (by rfl) w1.heap.size _ (by rfl) K1.out _ Try.underlying64 rfl 3 Try.infoRow (by rfl) ?_)
        | (refine wpList_store_row (by rfl) 64 _ _ (by rfl) w w.heap.size (w.heap.size + 1 + 1) _ _ (by rfl) (by rfl) HK.out HB.out (by omega) 3 Try.infoRow (by rfl) (by rfl) (by exact one_row _ _ _ p1 p2) ?_; intro W9 e9 hb9 hs9 ho9))
      refine bodyPost_ret (res_one _ 6 64 (by kernel_rfl) _ _ (w.heap.size + 1 + 1) _ (by rfl) _ Try.underlying64 rfl 3 Try.infoRow rfl e9) rfl ?_
      refine ⟨v1, v2, rfl, p1, p2, HV.out.keep fun k hk hv => ho9 k fun e => ?_, hb9⟩
      rcases hv with hv | hv
      · exact own_ne HV.out.o1 HK.out (by decide) (e ▸ hv)
      · exact own_ne HV.out.o2 HK.out (by decide) (e ▸ hv)
end Go.Proofs.Ytokglpemefkmjaa

namespace Go.Proofs.Ytokglpemefkmjaa
open Go.RowKit
set_option linter.unusedVariables false
theorem cell_of_heapE {w w' : World} {B : Nat} (h : w'.heap[B]? = w.heap[B]?) (j : Nat) : w'.cell? ⟨B, j, none⟩ = w.cell? ⟨B, j, none⟩ := by unfold World.cell?; simp only [h]
theorem RowO.later {w w' : World} {base B : Nat} {cs : List Int} {ws : List Nat} {b : Nat} (h : RowO w base B cs ws b) (hb : Below w.heap.size w w') : RowO w' base B cs ws b := by
  obtain ⟨v1, v2, k, p1, p2, ov⟩ := h
  exact ⟨v1, v2, kept hb k, p1, p2, ov.later hb⟩
theorem OwnP.sl {w : World} {base : Nat} {v : Value} {ts : List P3} (h : OwnP w base v ts) : ∃ ao cap, v = .slice ao ts.length cap := by
  rcases h.form with ⟨rfl, rfl⟩ | ⟨g, cap, rfl, _⟩
  · exact ⟨_, _, rfl⟩
  · exact ⟨_, _, rfl⟩
theorem OwnP.at {w : World} {base : Nat} {ao : Option Addr} {n cap : Nat} {ts : List P3} (h : OwnP w base (.slice ao n cap) ts) {j : Nat} (hj : j < ts.length) : ∃ g, ao = some ⟨g, 0, none⟩ ∧ base ≤ g ∧ g < w.heap.size ∧ w.cell? ⟨g, j * 3, none⟩ = some (.int .i64 ts[j].1) ∧ w.cell? ⟨g, j * 3 + 1, none⟩ = some (.int .i64 ts[j].2.1) ∧ w.cell? ⟨g, j * 3 + 2, none⟩ = some (.int .i64 ts[j].2.2) := by
  rcases h.form with ⟨rfl, _⟩ | ⟨g, cap, e, hg, hl, hc⟩
  · simp at hj
  · cases e
    obtain ⟨q0, q1, q2⟩ := pcs_at ts j hj
    exact ⟨g, rfl, hg, hl, hc _ _ q0, hc _ _ q1, hc _ _ q2⟩
set_option maxRecDepth 100000 in
set_option maxHeartbeats 4000000 in
theorem meanRow_any (x0 x1 x2 x3 x4 x5 x6 x7 x8 x10 x11 x12 x13 : Value) (A : Nat) (c h k c' h' k' q r s i : Int) (ps : List P3) (ix : P3 → Int) (hps : ps.length ≤ 1000)
    (hO : ∀ w, Calls Try.prog 20 #[.agg #[x0, x1, x2, x3, x4, x5, x6, x7, x8, .float .f64 A, x10, x11, x12, x13], .agg #[.int .i64 c, .int .i64 h, .int .i64 k]] w fun e w' => e = .returned (.tuple #[.agg #[.int .i64 c', .int .i64 h', .int .i64 k'], .int .i64 0]) ∧ Below w.heap.size w w')
    (hP : ∀ w, Calls Try.prog 27 #[.int .i64 i, .agg #[.int .i64 c', .int .i64 h', .int .i64 k']] w fun e w' => e = .returned (.agg #[.int .i64 q, .int .i64 r, .int .i64 s]) ∧ Below w.heap.size w w')
    (hW : ∀ w, Calls Try.prog 26 #[.agg #[x0, x1, x2, x3, x4, x5, x6, x7, x8, .float .f64 A, x10, x11, x12, x13], .agg #[.int .i64 c, .int .i64 h, .int .i64 k], .agg #[.int .i64 q, .int .i64 r, .int .i64 s]] w fun e w' => ∃ v, e = .returned v ∧ OwnP w' w.heap.size v ps ∧ Below w.heap.size w w')
    (hI : ∀ p, p ∈ ps → ∀ w, Calls Try.prog 28 #[.agg #[.int .i64 p.1, .int .i64 p.2.1, .int .i64 p.2.2], .agg #[.int .i64 c, .int .i64 h, .int .i64 k]] w fun e w' => e = .returned (.int .i64 (ix p)) ∧ Below w.heap.size w w')
    (w : World) :
    Calls Try.prog 40 #[.agg #[x0, x1, x2, x3, x4, x5, x6, x7, x8, .float .f64 A, x10, x11, x12, x13], .agg #[.int .i64 c, .int .i64 h, .int .i64 k], .int .i64 i] w fun e w' => ∃ v1 v2, e = .returned (.agg #[v1, v2, .float .f64 0]) ∧ v1.oneCell' = true ∧ v2.oneCell' = true ∧ RowV w' w.heap.size v1 v2 (ps.map ix) (ps.map fun _ => A) ∧ Below w.heap.size w w' := by
  have HO : Hid _ := hO
  have HP : Hid _ := hP
  have HW : Hid _ := hW
  have HI : Hid _ := hI
  clear hO hP hW hI
  go_enter Try.func40, Try.ntmps40
  go_wp2_with fail
  refine Calls.mono (HO.out _) ?_
  rintro e w1 ⟨rfl, hb⟩
  have HB1 : Hid (Below w.heap.size w w1) := to_call ((((Below.refl _ w).alloc (Nat.le_refl _) _).alloc (by simp only [alloc_size]; omega) _).alloc (by simp only [alloc_size]; omega) _) hb
  have k0 := kept hb (alloc_kept (alloc_kept (heap_alloc_new w _) _) _)
  have k1 := kept hb (alloc_kept (heap_at _ _ (w.heap.size + 1) (by simp only [alloc_size])) _)
  have k2 := kept hb (heap_at _ _ (w.heap.size + 1 + 1) (by simp only [alloc_size]))
  have hsz := blk_lt k2
  clear hb HO
  go_upto_region 2 with (first | (refine wpList_store_row (by rfl) 25 _ _ (by rfl) w w.heap.size w1.heap.size _ _ (by rfl) (by rfl) (heap_alloc_new w1 _) (HB1.out.alloc (by omega) _) (by omega) 3 Try.infoShape (by rfl) (by rfl) (by exact one3 ..) ?_; intro W2 e2 hb2 hs2 ho2))
  go_upto_region 3 with fail
  have m0 := alloc_kept ((ho2 _ (by omega)).trans (alloc_kept k0 _)) (Obj.cells #[.slice none 0 0, .slice none 0 0, .float .f64 0] 64)
  have m1 := alloc_kept ((ho2 _ (by omega)).trans (alloc_kept k1 _)) (Obj.cells #[.slice none 0 0, .slice none 0 0, .float .f64 0] 64)
  have m2 := alloc_kept ((ho2 _ (by omega)).trans (alloc_kept k2 _)) (Obj.cells #[.slice none 0 0, .slice none 0 0, .float .f64 0] 64)
  have m3 := alloc_kept e2 (Obj.cells #[.slice none 0 0, .slice none 0 0, .float .f64 0] 64)
  have m4 := heap_alloc_new W2 (Obj.cells #[.slice none 0 0, .slice none 0 0, .float .f64 0] 64)
  have b3 := (hb2.alloc hb2.size (Obj.cells #[.slice none 0 0, .slice none 0 0, .float .f64 0] 64)).drew
  have hl2 := blk_lt e2
  have hR : W2.heap.size = w1.heap.size + 1 := by rw [hs2]; exact alloc_size ..
  obtain ⟨R, hRR⟩ : ∃ R, w1.heap.size + 1 = R := ⟨_, rfl⟩
  rw [hRR] at hR
  have hs3 : (W2.alloc (Obj.cells #[.slice none 0 0, .slice none 0 0, .float .f64 0] 64)).drew.heap.size = R + 1 := by rw [← hR]; exact alloc_size ..
  rw [hR] at m4
  rw [hRR]
  have hRl : w1.heap.size < R := by omega
  have N0 : Hid ((W2.alloc (Obj.cells #[.slice none 0 0, .slice none 0 0, .float .f64 0] 64)).drew.heap[w.heap.size]? = _) := m0
  have N1 : Hid ((W2.alloc (Obj.cells #[.slice none 0 0, .slice none 0 0, .float .f64 0] 64)).drew.heap[w.heap.size + 1]? = _) := m1
  have N2 : Hid ((W2.alloc (Obj.cells #[.slice none 0 0, .slice none 0 0, .float .f64 0] 64)).drew.heap[w.heap.size + 1 + 1]? = _) := m2
  have N3 : Hid ((W2.alloc (Obj.cells #[.slice none 0 0, .slice none 0 0, .float .f64 0] 64)).drew.heap[w1.heap.size]? = _) := m3
  have N4 : Hid ((W2.alloc (Obj.cells #[.slice none 0 0, .slice none 0 0, .float .f64 0] 64)).drew.heap[R]? = _) := m4
  have B3 : Hid (Below w.heap.size w (W2.alloc (Obj.cells #[.slice none 0 0, .slice none 0 0, .float .f64 0] 64)).drew) := b3
  clear m0 m1 m2 m3 m4 k0 k1 k2 e2 hb2 hs2 ho2 b3 HB1 hR hRR hl2
  generalize hWW : W2.alloc (Obj.cells #[.slice none 0 0, .slice none 0 0, .float .f64 0] 64) = W3 at *
  clear hWW
  obtain ⟨a0, a1, a2, a3, a4, a5, a6, a7, a8, a9, a10, a11, a12, a13⟩ := cells14 N0.out
  obtain ⟨b0, b1, b2⟩ := cells3 N1.out
  obtain ⟨d0, d1, d2⟩ := cells3 N3.out
  go_region_held3 (fun w' => w'.cell? ⟨w.heap.size, 0, none⟩ = some (x0) ∧ w'.cell? ⟨w.heap.size, 1, none⟩ = some (x1) ∧ w'.cell? ⟨w.heap.size, 2, none⟩ = some (x2) ∧ w'.cell? ⟨w.heap.size, 3, none⟩ = some (x3) ∧ w'.cell? ⟨w.heap.size, 4, none⟩ = some (x4) ∧ w'.cell? ⟨w.heap.size, 5, none⟩ = some (x5) ∧ w'.cell? ⟨w.heap.size, 6, none⟩ = some (x6) ∧ w'.cell? ⟨w.heap.size, 7, none⟩ = some (x7) ∧ w'.cell? ⟨w.heap.size, 8, none⟩ = some (x8) ∧ w'.cell? ⟨w.heap.size, 9, none⟩ = some (.float .f64 A) ∧ w'.cell? ⟨w.heap.size, 10, none⟩ = some (x10) ∧ w'.cell? ⟨w.heap.size, 11, none⟩ = some (x11) ∧ w'.cell? ⟨w.heap.size, 12, none⟩ = some (x12) ∧ w'.cell? ⟨w.heap.size, 13, none⟩ = some (x13) ∧ w'.cell? ⟨w.heap.size + 1, 0, none⟩ = some (.int .i64 c) ∧ w'.cell? ⟨w.heap.size + 1, 1, none⟩ = some (.int .i64 h) ∧ w'.cell? ⟨w.heap.size + 1, 2, none⟩ = some (.int .i64 k) ∧ w'.cell? ⟨w1.heap.size, 0, none⟩ = some (.int .i64 c') ∧ w'.cell? ⟨w1.heap.size, 1, none⟩ = some (.int .i64 h') ∧ w'.cell? ⟨w1.heap.size, 2, none⟩ = some (.int .i64 k')) (go_keep)
    (first
      | (go_at_call 27; refine Calls.mono (HP.out _) ?_; rintro e5 w5 ⟨rfl, hb5⟩; have B5 : Hid (Below w.heap.size w w5) := to_call B3.out hb5; have G5 : Hid (Below W3.drew.heap.size W3.drew w5) := hb5; clear hb5; obtain ⟨a0, a1, a2, a3, a4, a5, a6, a7, a8, a9, a10, a11, a12, a13⟩ := cells14 (kept G5.out N0.out); obtain ⟨b0, b1, b2⟩ := cells3 (kept G5.out N1.out); obtain ⟨d0, d1, d2⟩ := cells3 (kept G5.out N3.out))
      | (go_at_call 26; refine Calls.mono (HW.out _) ?_; rintro e6 w6 ⟨v6, rfl, op6, hb6⟩; have G6 : Hid (Below W3.drew.heap.size W3.drew w6) := G5.out.trans (hb6.mono G5.out.size); have OP6 : Hid (OwnP w6 W3.drew.heap.size v6 ps) := op6.mono G5.out.size; clear hb6 op6; obtain ⟨ao6, cap6, rfl⟩ := OP6.out.sl; obtain ⟨a0, a1, a2, a3, a4, a5, a6, a7, a8, a9, a10, a11, a12, a13⟩ := cells14 (kept G6.out N0.out); obtain ⟨b0, b1, b2⟩ := cells3 (kept G6.out N1.out); obtain ⟨d0, d1, d2⟩ := cells3 (kept G6.out N3.out)))
  have B6 : Hid (Below w.heap.size w w6) := to_call B3.out G6.out
  have M0 : Hid _ := kept G6.out N0.out
  have M1 : Hid _ := kept G6.out N1.out
  have M2 : Hid _ := kept G6.out N2.out
  have M4 : Hid _ := kept G6.out N4.out
  have hs6 := blk_lt M4.out
  have HO6 : Hid (RowO w6 w6.heap.size R [] [] 0) := ⟨_, _, M4.out, rfl, rfl, World.ownsRow_nil _ _ _ 1, World.ownsRow_nil _ _ _ 1⟩
  clear a0 a1 a2 a3 a4 a5 a6 a7 a8 a9 a10 a11 a12 a13 b0 b1 b2 d0 d1 d2 N0 N1 N2 N3 N4 G5 G6 B5 HP HW B3
  go_wp2_with fail
  go_loopg [25] ps.length (fun g v wx => ∃ j : Nat, v = .int .i64 j ∧ j + g = ps.length ∧ Hid (RowO wx w6.heap.size R ((ps.take j).map ix) ((ps.take j).map fun _ => A) 0) ∧ Hid (Below w.heap.size w wx) ∧ Hid (∀ k, k < w6.heap.size → k ≠ R → wx.heap[k]? = w6.heap[k]?) ∧ w6.heap.size ≤ wx.heap.size)
  case atStart => exact ⟨0, rfl, by omega, HO6.out, B6.out, fun _ _ _ => rfl, Nat.le_refl _⟩
  case round =>
    obtain ⟨j, rfl, hj, HO, HB, HK, hwr⟩ := hrel
    by_cases hlt : j < ps.length
    · obtain ⟨g, rfl⟩ : ∃ g, gk = g + 1 := ⟨gk - 1, by omega⟩
      have hd : decide ((j : Int) < (ps.length : Int)) = true := decide_eq_true (by omega)
      obtain ⟨gb, rfl, hgb, hgl, t0, t1, t2⟩ := OP6.out.at hlt
      obtain ⟨p, hp⟩ : ∃ p, ps[j] = p := ⟨_, rfl⟩
      have hpm : p ∈ ps := by rw [← hp]; exact List.getElem_mem hlt
      have HTK : Hid (ps.take (j + 1) = ps.take j ++ [p]) := by unfold Hid; rw [List.take_succ_eq_append_getElem hlt, hp]
      rw [hp] at t0 t1 t2
      have hgR : gb ≠ R := by omega
      have hcg := cell_of_heapE (HK.out gb hgl hgR)
      rw [← hcg] at t0 t1 t2
      have i0 : (0 : Int) ≤ (j : Int) := by omega
      have i1 : (j : Int) < (ps.length : Int) := by omega
      have hw1 : IntKind.i64.wrap ((j : Int) + 1) = (j : Int) + 1 := by have := hps; rw [IntKind.wrap_i64]; omega
      go_wp2_with fail
      have X0 : Hid (wr.heap[w.heap.size]? = _) := (HK.out _ (by omega) (by omega)).trans M0.out
      have X1 : Hid (wr.heap[w.heap.size + 1]? = _) := (HK.out _ (by omega) (by omega)).trans M1.out
      have hxb : Below wr.heap.size wr (wr.alloc (Obj.cells #[.int .i64 p.1, .int .i64 p.2.1, .int .i64 p.2.2] 69)).drew := ((Below.refl _ wr).alloc (Nat.le_refl _) _).drew
      have XP : Hid ((wr.alloc (Obj.cells #[.int .i64 p.1, .int .i64 p.2.1, .int .i64 p.2.2] 69)).drew.heap[wr.heap.size]? = _) := heap_alloc_new wr _
      have XB : Hid _ := hxb
      clear t0 t1 t2 hxb hcg
      obtain ⟨t0, t1, t2⟩ := cells3 XP.out
      obtain ⟨b0, b1, b2⟩ := cells3 (kept XB.out X1.out)
      have a9 := cellOf (kept XB.out X0.out) 9 (.float .f64 A) rfl
      have hl1 : ((ps.take j).map ix).length ≤ 1000 := by rw [List.length_map, List.length_take]; omega
      have hl2 : ((ps.take j).map fun _ => A).length ≤ 1000 := by rw [List.length_map, List.length_take]; omega
      go_region_with
        (first
          | (go_at_call 28; refine Calls.mono (HI.out p hpm _) ?_; rintro e7 w7 ⟨rfl, hb7⟩; have G7 : Hid (Below wr.heap.size wr w7) := to_call XB.out hb7; clear hb7; have a9 := cellOf (kept G7.out X0.out) 9 (.float .f64 A) rfl)
          | (go_at_call 47; refine Calls.mono (put_any R w6.heap.size _ _ 0 (ix p) A _ (RowO.later HO.out G7.out) (Nat.le_trans hwr G7.out.size) w.heap.size (by omega) (by omega) hl1 hl2) ?_; rintro e8 w8 ⟨rfl, o8, b8, t8⟩))
      all_goals
        have HO8 : Hid _ := o8
        have HB8 : Hid (Below w.heap.size w w8) := (to_call HB.out G7.out).trans b8
        have HK8 : Hid (∀ k, k < w6.heap.size → k ≠ R → w8.heap[k]? = w6.heap[k]?) := fun k hk hne => ((t8 k hk hne).trans (G7.out.block k (by omega))).trans (HK.out k hk hne)
        have hs8 : w6.heap.size ≤ w8.heap.size := Nat.le_trans (Nat.le_trans hwr G7.out.size) b8.size
        clear o8 b8 t8 t0 t1 t2 b0 b1 b2 a9
        go_wp2_with fail
        go_roundg g
        case measure => omega
        case rel => exact ⟨j + 1, by go_num, by omega, by have := HO8.out; unfold Hid; rw [HTK.out, List.map_append, List.map_append]; exact this, HB8.out, HK8.out, hs8⟩
    · obtain rfl : j = ps.length := by omega
      have hd : decide ((ps.length : Int) < (ps.length : Int)) = false := decide_eq_false (by omega)
      obtain ⟨v1, v2, k1, p1, p2, ov⟩ := HO.out
      have HV : Hid (RowV wr w.heap.size v1 v2 (ps.map ix) (ps.map fun _ => A)) := by
        have := ov.mono (show w.heap.size ≤ w6.heap.size by omega)
        rw [List.take_length] at this
        exact this
      have K1 : Hid (wr.heap[R]? = _) := k1
      have HKR : Hid (wr.heap[w.heap.size + 1 + 1]? = _) := (HK.out _ (by omega) (by omega)).trans M2.out
      clear k1 ov
      go_wp2_with (first
        | (refine wpList_load_row (by rfl) 64 _ (by rfl) R _ (by rfl) K1.out _ Try.underlying64 rfl 3 Try.infoRow (by rfl) ?_)
        | (refine wpList_store_row (by rfl) 64 _ _ (by rfl) w w.heap.size (w.heap.size + 1 + 1) _ _ (by rfl) (by rfl) HKR.out HB.out (by omega) 3 Try.infoRow (by rfl) (by rfl) (by exact one_row _ _ _ p1 p2) ?_; intro W9 e9 hb9 hs9 ho9))
      refine bodyPost_ret (res_one _ 6 64 (by kernel_rfl) _ _ (w.heap.size + 1 + 1) _ (by rfl) _ Try.underlying64 rfl 3 Try.infoRow rfl e9) rfl ?_
      refine ⟨v1, v2, rfl, p1, p2, HV.out.keep fun k hk hv => ho9 k fun e => ?_, hb9⟩
      rcases hv with hv | hv
      · exact own_ne HV.out.o1 HKR.out (by decide) (e ▸ hv)
      · exact own_ne HV.out.o2 HKR.out (by decide) (e ▸ hv)
end Go.Proofs.Ytokglpemefkmjaa

namespace Go.Proofs.Ytokglpemefkmjaa
open Go.RowKit
set_option linter.unusedVariables false
set_option maxRecDepth 100000 in
set_option maxHeartbeats 1000000 in
theorem put2_any (B base : Nat) (cs : List Int) (ws : List Nat) (b : Nat) (c : Int) (x : Nat) (w : World) (h : RowO w base B cs ws b) (hbb : base ≤ w.heap.size) (b0 : Nat) (hB : b0 ≤ B) (hb0 : b0 ≤ base) (h1 : cs.length ≤ 1000) (h2 : ws.length ≤ 1000) :
    Calls Try.prog 47 #[.pointer (some ⟨B, 0, none⟩), .int .i64 c, .float .f64 x] w fun e w' => e = .returned (.tuple #[]) ∧ RowO w' base B (cs ++ [c]) (ws ++ [x]) b ∧ Below b0 w w' ∧ (∀ k, k < base → k ≠ B → w'.heap[k]? = w.heap[k]?) ∧ ∀ (k : Nat) (T : TypeId) (cur : Array Value), w.heap[k]? = some (.cells cur T) → 3 ≠ T → 26 ≠ T → k ≠ B → w'.heap[k]? = some (.cells cur T) := by
  obtain ⟨v1, v2, k, p1, p2, O⟩ := h
  have HO : Hid _ := O
  have K : Hid _ := k
  have hlB := blk_lt k
  have a0 := cellOf k 0 v1 rfl
  have h1' : (inV cs).length + 1 ≤ 1000000 := by simp [inV]; omega
  have h2' : (flV' ws).length + 1 ≤ 1000000 := by simp [flV']; omega
  clear k O h1 h2
  go_enter Try.func47, Try.ntmps47
  go_upto_region 1 with (first
    | (at_builtin; refine appendG1 Try.underlying35 Try.infoI rfl (by decide) w (by rfl) _ _ (by rfl) base v1 _ (by rfl) HO.out.o1 (.int .i64 c) (by rfl) (by rfl) h1' hbb ?_; intro v3 W3 o3 t3 hb3; have k3 : W3.heap[B]? = some (.cells #[v1, v2, .float .f64 b] 64) := (t3 B hlB (own_ne HO.out.o1 K.out (by decide))).trans K.out; clear a0)
    | (refine wpList_store_at (by rfl) 35 _ _ (by rfl) w b0 B 0 v3 _ #[v3, v2, .float .f64 b] 64 (by rfl) (by rfl) k3 (hb3.mono hb0) hB 1 Try.infoSl1 (by rw [(own_one o3).2]; rfl) (by simp) (one_v (own_one o3).1 (own_one o3).2) (by rw [(own_one o3).2]; rfl) ?_; intro W4 e4 hb4 hs4 ho4))
  have HO4 : Hid (RowV W4 base v3 v2 (cs ++ [c]) ws) := by
    refine ⟨?_, ?_⟩
    · have e : inV (cs ++ [c]) = inV cs ++ [.int .i64 c] := by simp [inV]
      rw [e]
      exact own_keep o3 fun k hk => ho4 k fun e => own_ne o3 k3 (by decide) (e ▸ hk)
    · refine own_keep HO.out.o2 fun k hk => ?_
      rw [ho4 k fun e => own_ne HO.out.o2 K.out (by decide) (e ▸ hk)]
      exact t3 k (World.ownsRow.lt HO.out.o2 k hk).2 (own_apart HO.out.o2 HO.out.o1 (by decide) k hk)
  have hq3 := (own_one o3).1
  have a1 := cellOf e4 1 v2 rfl
  have E4 : Hid _ := e4
  have hl4 := blk_lt e4
  have HB4 : Hid _ := hb4
  have hs4' := hb4.size
  have hbw : base ≤ W4.heap.size := by omega
  have OT4 : Hid (∀ k, k < base → k ≠ B → W4.heap[k]? = w.heap[k]?) := fun k h1 h2 => (ho4 k h2).trans (hb3.block k h1)
  have OT5 : Hid (∀ (k : Nat) (T : TypeId) (cur : Array Value), w.heap[k]? = some (.cells cur T) → 3 ≠ T → 26 ≠ T → k ≠ B → W4.heap[k]? = some (.cells cur T)) := fun k T cur hk h1 h2 h3 => (ho4 k h3).trans ((t3 k (blk_lt hk) (own_ne HO.out.o1 hk h1)).trans hk)
  clear e4 hb4 ho4 hs4 hb3 k3 t3 o3 HO K
  go_wp2_with (first
    | (at_builtin; refine appendG1 Try.underlying27 Try.infoF rfl (by decide) W4 (by rfl) _ _ (by rfl) base v2 _ (by rfl) HO4.out.o2 (.float .f64 x) (by rfl) (by rfl) h2' hbw ?_; intro v5 W5 o5 t5 hb5; have k5 : W5.heap[B]? = some (.cells #[v3, v2, .float .f64 b] 64) := (t5 B hl4 (own_ne HO4.out.o2 E4.out (by decide))).trans E4.out; clear a1)
    | (refine wpList_store_at (by rfl) 27 _ _ (by rfl) w b0 B 1 v5 _ #[v3, v5, .float .f64 b] 64 (by rfl) (by rfl) k5 (HB4.out.trans (hb5.mono hb0)) hB 1 Try.infoSl2 (by rw [(own_one o5).2]; rfl) (by simp) (one_v (own_one o5).1 (own_one o5).2) (by rw [(own_one o5).2]; rfl) ?_; intro W6 e6 hb6 hs6 ho6))
  go_end0
  refine ⟨rfl, ⟨v3, v5, e6, hq3, (own_one o5).1, ?_, ?_⟩, hb6, fun k h1 h2 => (ho6 k h2).trans ((hb5.block k h1).trans (OT4.out k h1 h2)), fun k T cur hk h1 h2 h3 => (ho6 k h3).trans ((t5 k (blk_lt (OT5.out k T cur hk h1 h2 h3)) (own_ne HO4.out.o2 (OT5.out k T cur hk h1 h2 h3) h2)).trans (OT5.out k T cur hk h1 h2 h3))⟩
  · refine own_keep HO4.out.o1 fun k hk => ?_
    rw [ho6 k fun e => own_ne HO4.out.o1 E4.out (by decide) (e ▸ hk)]
    exact t5 k (World.ownsRow.lt HO4.out.o1 k hk).2 (own_apart HO4.out.o1 HO4.out.o2 (by decide) k hk)
  · have e : flV' (ws ++ [x]) = flV' ws ++ [.float .f64 x] := by simp [flV']
    rw [e]
    exact own_keep o5 fun k hk => ho6 k fun e => own_ne o5 k5 (by decide) (e ▸ hk)
end Go.Proofs.Ytokglpemefkmjaa

namespace Go.Proofs.Ytokglpemefkmjaa
open Go.RowKit
set_option linter.unusedVariables false
structure IXc (a b d c h k r : Int) : Prop where
  ok : ∀ w, Calls Try.prog 28 #[.agg #[.int .i64 a, .int .i64 b, .int .i64 d], .agg #[.int .i64 c, .int .i64 h, .int .i64 k]] w fun e w' => e = .returned (.int .i64 r) ∧ Below w.heap.size w w'
set_option maxRecDepth 100000 in
set_option maxHeartbeats 8000000 in
theorem convRow_any (x0 x4 x5 x6 x7 x8 x9 x12 x13 : Value) (wo bo : Option Addr) (wn wc bn bc : Nat) (us vs : List Nat) (o kh kw c h k c' h' k' r s i f0 f1 f2 g0 g1 g2 oc fc : Int) (f : Nat) (ps : List P3) (ix d0 d1 d2 kk : P3 → Int) (jx : P3 → Nat) (hps : ps.length ≤ 1000) (hfb : f < bn)
    (hoc : IntKind.i64.wrap (o * c) = oc) (hfc : IntKind.i64.wrap ((f : Int) * c) = fc) (hkk : ∀ p, p ∈ ps → IntKind.i64.wrap (d0 p + fc) = kk p) (hjx : ∀ p, p ∈ ps → jx p < wn)
    (hO : ∀ w, Calls Try.prog 20 #[.agg #[x0, .int .i64 o, .int .i64 kh, .int .i64 kw, x4, x5, x6, x7, x8, x9, .slice wo wn wc, .slice bo bn bc, x12, x13], .agg #[.int .i64 c, .int .i64 h, .int .i64 k]] w fun e w' => e = .returned (.tuple #[.agg #[.int .i64 c', .int .i64 h', .int .i64 k'], .int .i64 0]) ∧ Below w.heap.size w w')
    (hP : ∀ w, Calls Try.prog 27 #[.int .i64 i, .agg #[.int .i64 c', .int .i64 h', .int .i64 k']] w fun e w' => e = .returned (.agg #[.int .i64 (f : Int), .int .i64 r, .int .i64 s]) ∧ Below w.heap.size w w')
    (hN : ∀ w, Calls Try.prog 42 #[.agg #[x0, .int .i64 o, .int .i64 kh, .int .i64 kw, x4, x5, x6, x7, x8, x9, .slice wo wn wc, .slice bo bn bc, x12, x13], .agg #[.int .i64 c, .int .i64 h, .int .i64 k], .agg #[.int .i64 (f : Int), .int .i64 r, .int .i64 s]] w fun e w' => e = .returned (.tuple #[.agg #[.int .i64 f0, .int .i64 f1, .int .i64 f2], .agg #[.int .i64 g0, .int .i64 g1, .int .i64 g2]]) ∧ Below w.heap.size w w')
    (hW : ∀ w, Calls Try.prog 26 #[.agg #[x0, .int .i64 o, .int .i64 kh, .int .i64 kw, x4, x5, x6, x7, x8, x9, .slice wo wn wc, .slice bo bn bc, x12, x13], .agg #[.int .i64 c, .int .i64 h, .int .i64 k], .agg #[.int .i64 (f : Int), .int .i64 r, .int .i64 s]] w fun e w' => ∃ v, e = .returned v ∧ OwnP w' w.heap.size v ps ∧ Below w.heap.size w w')
    (hI : ∀ p, p ∈ ps → ∀ w, Calls Try.prog 28 #[.agg #[.int .i64 p.1, .int .i64 p.2.1, .int .i64 p.2.2], .agg #[.int .i64 c, .int .i64 h, .int .i64 k]] w fun e w' => e = .returned (.int .i64 (ix p)) ∧ Below w.heap.size w w')
    (hF : ∀ p, p ∈ ps → ∀ w, Calls Try.prog 48 #[.agg #[.int .i64 p.1, .int .i64 p.2.1, .int .i64 p.2.2], .agg #[.int .i64 f0, .int .i64 f1, .int .i64 f2]] w fun e w' => e = .returned (.agg #[.int .i64 (d0 p), .int .i64 (d1 p), .int .i64 (d2 p)]) ∧ Below w.heap.size w w')
    (hJ : ∀ p, p ∈ ps → ∀ w, Calls Try.prog 28 #[.agg #[.int .i64 (kk p), .int .i64 (d1 p), .int .i64 (d2 p)], .agg #[.int .i64 oc, .int .i64 kh, .int .i64 kw]] w fun e w' => e = .returned (.int .i64 (jx p : Int)) ∧ Below w.heap.size w w')
    (w : World) (hUW : RdF w wo wn wc us) (hUB : RdF w bo bn bc vs) :
    Calls Try.prog 38 #[.agg #[x0, .int .i64 o, .int .i64 kh, .int .i64 kw, x4, x5, x6, x7, x8, x9, .slice wo wn wc, .slice bo bn bc, x12, x13], .agg #[.int .i64 c, .int .i64 h, .int .i64 k], .int .i64 i] w fun e w' => ∃ v1 v2, e = .returned (.agg #[v1, v2, .float .f64 (vs[f]?.getD 0)]) ∧ v1.oneCell' = true ∧ v2.oneCell' = true ∧ RowV w' w.heap.size v1 v2 (ps.map ix) (ps.map fun p => us[jx p]?.getD 0) ∧ Below w.heap.size w w' := by
  have HO : Hid _ := hO
  have HP : Hid _ := hP
  have HN : Hid _ := hN
  have HW : Hid _ := hW
  have HI : Hid _ := hI
  have HF : Hid _ := hF
  have HJ : Hid _ := hJ
  have HUW : Hid _ := hUW
  have HUB : Hid _ := hUB
  have HKK : Hid _ := hkk
  have HJX : Hid _ := hjx
  clear hO hP hN hW hI hF hJ hUW hUB hkk hjx
  have j0 : (0 : Int) ≤ (f : Int) := by omega
  have j1 : (f : Int) < (bn : Int) := by omega
  go_enter Try.func38, Try.ntmps38
  go_wp2_with fail
  refine Calls.mono (HO.out _) ?_
  rintro e w1 ⟨rfl, hb⟩
  have HB1 : Hid (Below w.heap.size w w1) := to_call ((((Below.refl _ w).alloc (Nat.le_refl _) _).alloc (by simp only [alloc_size]; omega) _).alloc (by simp only [alloc_size]; omega) _) hb
  have k0 := kept hb (alloc_kept (alloc_kept (heap_alloc_new w _) _) _)
  have k1 := kept hb (alloc_kept (heap_at _ _ (w.heap.size + 1) (by simp only [alloc_size])) _)
  have k2 := kept hb (heap_at _ _ (w.heap.size + 1 + 1) (by simp only [alloc_size]))
  have hsz := blk_lt k2
  clear hb HO
  go_wp2_with fail
  have X1 : Below w.heap.size w (w1.alloc (.cells #[.int .i64 c', .int .i64 h', .int .i64 k'] 25)) := HB1.out.alloc HB1.out.size _
  refine Calls.mono (HP.out _) ?_
  rintro e w3 ⟨rfl, hb⟩
  have HB3 : Hid (Below w.heap.size w w3) := to_call X1 hb
  have m0 := kept hb (alloc_kept k0 _)
  have m1 := kept hb (alloc_kept k1 _)
  have m2 := kept hb (alloc_kept k2 _)
  have hs3 : w1.heap.size + 1 ≤ w3.heap.size := by have := hb.size; rw [alloc_size] at this; exact this
  clear hb HP X1 k0 k1 k2 HB1
  go_upto_region 3 with fail
  have X3 : Hid (Below w.heap.size w (w3.alloc (.cells #[.int .i64 (f : Int), .int .i64 r, .int .i64 s] 69))) := HB3.out.alloc HB3.out.size _
  have p0 := alloc_kept m0 (.cells #[.int .i64 (f : Int), .int .i64 r, .int .i64 s] 69)
  have p1 := alloc_kept m1 (.cells #[.int .i64 (f : Int), .int .i64 r, .int .i64 s] 69)
  have p2 := alloc_kept m2 (.cells #[.int .i64 (f : Int), .int .i64 r, .int .i64 s] 69)
  have p3 := heap_alloc_new w3 (.cells #[.int .i64 (f : Int), .int .i64 r, .int .i64 s] 69)
  have hs4 : (w3.alloc (.cells #[.int .i64 (f : Int), .int .i64 r, .int .i64 s] 69)).heap.size = w3.heap.size + 1 := alloc_size ..
  generalize w3.alloc (.cells #[.int .i64 (f : Int), .int .i64 r, .int .i64 s] 69) = w4 at *
  clear m0 m1 m2 HB3
  obtain ⟨b0, b1, b2⟩ := cells3 p1
  obtain ⟨t0, t1, t2⟩ := cells3 p3
  go_wp2_with (first | (refine wpList_load_row (by rfl) 30 _ (by rfl) w.heap.size _ (by rfl) p0 _ Try.underlying30 rfl 14 Try.infoLy (by rfl) ?_))
  refine Calls.mono (HN.out _) ?_
  rintro e w5 ⟨rfl, hb⟩
  have HB5 : Hid (Below w.heap.size w w5) := to_call X3.out hb
  have n0 := kept hb p0
  have n1 := kept hb p1
  have n2 := kept hb p2
  have n3 := kept hb p3
  have hs5 : w3.heap.size + 1 ≤ w5.heap.size := by have := hb.size; omega
  clear hb HN X3 p0 p1 p2 p3 b0 b1 b2 t0 t1 t2 hs4
  go_upto_region 4 with fail
  have HB6 : Hid (Below w.heap.size w ((w5.alloc (.cells #[.int .i64 f0, .int .i64 f1, .int .i64 f2] 69)).alloc (.cells #[.int .i64 g0, .int .i64 g1, .int .i64 g2] 69))) := (HB5.out.alloc HB5.out.size _).alloc (by simp only [alloc_size]; have := HB5.out.size; omega) _
  have m0 := alloc_kept (alloc_kept n0 (.cells #[.int .i64 f0, .int .i64 f1, .int .i64 f2] 69)) (.cells #[.int .i64 g0, .int .i64 g1, .int .i64 g2] 69)
  have m1 := alloc_kept (alloc_kept n1 (.cells #[.int .i64 f0, .int .i64 f1, .int .i64 f2] 69)) (.cells #[.int .i64 g0, .int .i64 g1, .int .i64 g2] 69)
  have m2 := alloc_kept (alloc_kept n2 (.cells #[.int .i64 f0, .int .i64 f1, .int .i64 f2] 69)) (.cells #[.int .i64 g0, .int .i64 g1, .int .i64 g2] 69)
  have m3 := alloc_kept (alloc_kept n3 (.cells #[.int .i64 f0, .int .i64 f1, .int .i64 f2] 69)) (.cells #[.int .i64 g0, .int .i64 g1, .int .i64 g2] 69)
  have m4 := alloc_kept (heap_alloc_new w5 (.cells #[.int .i64 f0, .int .i64 f1, .int .i64 f2] 69)) (.cells #[.int .i64 g0, .int .i64 g1, .int .i64 g2] 69)
  have hs6 : ((w5.alloc (.cells #[.int .i64 f0, .int .i64 f1, .int .i64 f2] 69)).alloc (.cells #[.int .i64 g0, .int .i64 g1, .int .i64 g2] 69)).heap.size = w5.heap.size + 2 := by simp only [alloc_size]
  generalize (w5.alloc (.cells #[.int .i64 f0, .int .i64 f1, .int .i64 f2] 69)).alloc (.cells #[.int .i64 g0, .int .i64 g1, .int .i64 g2] 69) = v1f at *
  clear n0 n1 n2 n3 HB5
  obtain ⟨b0, b1, b2⟩ := cells3 m1
  obtain ⟨t0, t1, t2⟩ := cells3 m3
  have a1 := cellOf m0 1 (.int .i64 o) rfl
  have a2 := cellOf m0 2 (.int .i64 kh) rfl
  have a3 := cellOf m0 3 (.int .i64 kw) rfl
  go_upto_region 6 with fail
  have HB7 : Hid (Below w.heap.size w (v1f.alloc (.cells #[.int .i64 oc, .int .i64 kh, .int .i64 kw] 25))) := HB6.out.alloc HB6.out.size _
  have q0 := alloc_kept m0 (.cells #[.int .i64 oc, .int .i64 kh, .int .i64 kw] 25)
  have q1 := alloc_kept m1 (.cells #[.int .i64 oc, .int .i64 kh, .int .i64 kw] 25)
  have q2 := alloc_kept m2 (.cells #[.int .i64 oc, .int .i64 kh, .int .i64 kw] 25)
  have q3 := alloc_kept m3 (.cells #[.int .i64 oc, .int .i64 kh, .int .i64 kw] 25)
  have q4 := alloc_kept m4 (.cells #[.int .i64 oc, .int .i64 kh, .int .i64 kw] 25)
  have q5 := heap_at v1f (.cells #[.int .i64 oc, .int .i64 kh, .int .i64 kw] 25) (w5.heap.size + 2) hs6
  have hs7 : (v1f.alloc (.cells #[.int .i64 oc, .int .i64 kh, .int .i64 kw] 25)).heap.size = w5.heap.size + 3 := by rw [alloc_size]; omega
  generalize v1f.alloc (.cells #[.int .i64 oc, .int .i64 kh, .int .i64 kw] 25) = v2 at *
  clear m0 m1 m2 m3 m4 HB6 b0 b1 b2 t0 t1 t2 a1 a2 a3
  rcases (HUB.out.later HB7.out).cells with z | ⟨bb, boff, rfl, hcB⟩
  · omega
  have gB := hcB f hfb
  have a11 := cellOf q0 11 (.slice (some ⟨bb, boff, none⟩) bn bc) rfl
  clear hcB
  go_upto_region 7 with (first | (refine wpList_store_row (by rfl) 64 _ _ (by rfl) w w.heap.size (w5.heap.size + 3) _ _ (by rfl) (by rfl) (heap_at v2 _ (w5.heap.size + 3) hs7) (HB7.out.alloc HB7.out.size _) (by omega) 3 Try.infoRow (by rfl) (by rfl) (by exact one_row _ _ _ rfl rfl) ?_; intro v3 s6 hb8 hs8 ho8))
  have HB8 : Hid (Below w.heap.size w v3) := hb8
  have s0 := (ho8 _ (by omega)).trans (alloc_kept q0 _)
  have s1 := (ho8 _ (by omega)).trans (alloc_kept q1 _)
  have s2 := (ho8 _ (by omega)).trans (alloc_kept q2 _)
  have s3 := (ho8 _ (by omega)).trans (alloc_kept q3 _)
  have s4 := (ho8 _ (by omega)).trans (alloc_kept q4 _)
  have s5 := (ho8 _ (by omega)).trans (alloc_kept q5 _)
  have hs9 : v3.heap.size = w5.heap.size + 4 := by rw [hs8, alloc_size]; omega
  clear q0 q1 q2 q3 q4 q5 HB7 gB a11 hb8 hs8 ho8
  obtain ⟨b0, b1, b2⟩ := cells3 s1
  obtain ⟨t0, t1, t2⟩ := cells3 s3
  go_wp2_with (first
    | (refine wpList_load_row (by rfl) 30 _ (by rfl) w.heap.size _ (by rfl) s0 _ Try.underlying30 rfl 14 Try.infoLy (by rfl) ?_)
    | (go_at_call 26; refine Calls.mono (HW.out _) ?_; rintro e6 w6 ⟨v6, rfl, op6, hb6⟩; have G6 : Hid (Below v3.heap.size v3 w6) := hb6; have OP6 : Hid (OwnP w6 v3.heap.size v6 ps) := op6; clear hb6 op6; obtain ⟨ao6, cap6, rfl⟩ := OP6.out.sl))
  have B6 : Hid (Below w.heap.size w w6) := to_call HB8.out G6.out
  have M0 : Hid _ := kept G6.out s0
  have M1 : Hid _ := kept G6.out s1
  have M2 : Hid _ := kept G6.out s2
  have M4 : Hid _ := kept G6.out s4
  have M5 : Hid _ := kept G6.out s5
  have M6 : Hid _ := kept G6.out s6
  have hl6 := blk_lt M6.out
  have HO6 : Hid (RowO w6 w6.heap.size (w5.heap.size + 3) [] [] (vs[f]?.getD 0)) := ⟨_, _, M6.out, rfl, rfl, World.ownsRow_nil _ _ _ 1, World.ownsRow_nil _ _ _ 1⟩
  have hv36 : w5.heap.size + 4 ≤ w6.heap.size := by have := G6.out.size; omega
  rw [hs9] at OP6
  clear b0 b1 b2 t0 t1 t2 s0 s1 s2 s3 s4 s5 s6 G6 HW HB8
  go_loopg [57] ps.length (fun g v wx => ∃ j : Nat, v = .int .i64 j ∧ j + g = ps.length ∧ Hid (RowO wx w6.heap.size (w5.heap.size + 3) ((ps.take j).map ix) ((ps.take j).map fun p => us[jx p]?.getD 0) (vs[f]?.getD 0)) ∧ Hid (Below w.heap.size w wx) ∧ Hid (∀ k, k < w6.heap.size → k ≠ w5.heap.size + 3 → wx.heap[k]? = w6.heap[k]?) ∧ w6.heap.size ≤ wx.heap.size)
  case atStart => exact ⟨0, rfl, by omega, HO6.out, B6.out, fun _ _ _ => rfl, Nat.le_refl _⟩
  case round =>
    obtain ⟨j, rfl, hj, HO, HB, HK, hwr⟩ := hrel
    by_cases hlt : j < ps.length
    · obtain ⟨g, rfl⟩ : ∃ g, gk = g + 1 := ⟨gk - 1, by omega⟩
      have hd : decide ((j : Int) < (ps.length : Int)) = true := decide_eq_true (by omega)
      obtain ⟨gb, rfl, hgb, hgl, t0, t1, t2⟩ := OP6.out.at hlt
      obtain ⟨p, hp⟩ : ∃ p, ps[j] = p := ⟨_, rfl⟩
      have hpm : p ∈ ps := by rw [← hp]; exact List.getElem_mem hlt
      have HTK : Hid (ps.take (j + 1) = ps.take j ++ [p]) := by unfold Hid; rw [List.take_succ_eq_append_getElem hlt, hp]
      rw [hp] at t0 t1 t2
      have hcg := cell_of_heapE (HK.out gb hgl (by omega))
      rw [← hcg] at t0 t1 t2
      have i0 : (0 : Int) ≤ (j : Int) := by omega
      have i1 : (j : Int) < (ps.length : Int) := by omega
      have hw1 : IntKind.i64.wrap ((j : Int) + 1) = (j : Int) + 1 := by have := hps; rw [IntKind.wrap_i64]; omega
      have hkp := HKK.out p hpm
      have hjp := HJX.out p hpm
      have ix1 : IXc p.1 p.2.1 p.2.2 c h k (ix p) := ⟨HI.out p hpm⟩
      have ix2 : IXc (kk p) (d1 p) (d2 p) oc kh kw (jx p : Int) := ⟨HJ.out p hpm⟩
      have hFp : Hid _ := HF.out p hpm
      go_upto_region 10 with fail
      have X4 : (wr.alloc (Obj.cells #[.int .i64 p.1, .int .i64 p.2.1, .int .i64 p.2.2] 69)).heap[w5.heap.size]? = _ := alloc_kept ((HK.out _ (by omega) (by omega)).trans M4.out) (Obj.cells #[.int .i64 p.1, .int .i64 p.2.1, .int .i64 p.2.2] 69)
      obtain ⟨f0c, f1c, f2c⟩ := cells3 X4
      clear t0 t1 t2 hcg
      go_wp2_with fail
      refine Calls.mono (hFp.out _) ?_
      rintro e7 w7 ⟨rfl, hb7⟩
      have XB : Hid (Below wr.heap.size wr (wr.alloc (Obj.cells #[.int .i64 p.1, .int .i64 p.2.1, .int .i64 p.2.2] 69))) := (Below.refl _ wr).alloc (Nat.le_refl _) _
      have Y3 := kept hb7 (heap_alloc_new wr (Obj.cells #[.int .i64 p.1, .int .i64 p.2.1, .int .i64 p.2.2] 69))
      have Y0 := kept hb7 (alloc_kept ((HK.out _ (by omega) (by omega)).trans M0.out) (Obj.cells #[.int .i64 p.1, .int .i64 p.2.1, .int .i64 p.2.2] 69))
      have Y1 := kept hb7 (alloc_kept ((HK.out _ (by omega) (by omega)).trans M1.out) (Obj.cells #[.int .i64 p.1, .int .i64 p.2.1, .int .i64 p.2.2] 69))
      have Y5 := kept hb7 (alloc_kept ((HK.out _ (by omega) (by omega)).trans M5.out) (Obj.cells #[.int .i64 p.1, .int .i64 p.2.1, .int .i64 p.2.2] 69))
      have G7 : Hid (Below wr.heap.size wr w7) := to_call XB.out hb7
      obtain ⟨b0, b1, b2⟩ := cells3 Y1
      clear hb7 XB X4 f0c f1c f2c hFp
      go_upto_region 11 with fail
      have hm7 : w.heap.size ≤ w7.heap.size := Nat.le_trans (Nat.le_trans (show w.heap.size ≤ w6.heap.size by omega) hwr) G7.out.size
      have V7 : Below w.heap.size w (w7.alloc (Obj.cells #[.int .i64 (d0 p), .int .i64 (d1 p), .int .i64 (d2 p)] 69)) := (to_call HB.out G7.out).alloc hm7 _
      have V7r : Below wr.heap.size wr (w7.alloc (Obj.cells #[.int .i64 (d0 p), .int .i64 (d1 p), .int .i64 (d2 p)] 69)) := G7.out.alloc G7.out.size _
      have y0 := alloc_kept Y0 (Obj.cells #[.int .i64 (d0 p), .int .i64 (d1 p), .int .i64 (d2 p)] 69)
      have y1 := alloc_kept Y1 (Obj.cells #[.int .i64 (d0 p), .int .i64 (d1 p), .int .i64 (d2 p)] 69)
      have y3 := alloc_kept Y3 (Obj.cells #[.int .i64 (d0 p), .int .i64 (d1 p), .int .i64 (d2 p)] 69)
      have y5 := alloc_kept Y5 (Obj.cells #[.int .i64 (d0 p), .int .i64 (d1 p), .int .i64 (d2 p)] 69)
      have y6 := heap_alloc_new w7 (Obj.cells #[.int .i64 (d0 p), .int .i64 (d1 p), .int .i64 (d2 p)] 69)
      have hm8 : (w7.alloc (Obj.cells #[.int .i64 (d0 p), .int .i64 (d1 p), .int .i64 (d2 p)] 69)).heap.size = w7.heap.size + 1 := alloc_size ..
      have hm9 : wr.heap.size + 1 ≤ w7.heap.size := by have := blk_lt Y3; omega
      generalize w7.alloc (Obj.cells #[.int .i64 (d0 p), .int .i64 (d1 p), .int .i64 (d2 p)] 69) = v7 at *
      clear Y0 Y1 Y3 Y5 b0 b1 b2
      obtain ⟨b0, b1, b2⟩ := cells3 y1
      obtain ⟨k0, k1, k2⟩ := cells3 y6
      go_upto_region 12 with (first | (refine wpList_store_at (by rfl) 3 _ _ (by rfl) wr wr.heap.size w7.heap.size 0 (.int .i64 (kk p)) _ #[.int .i64 (kk p), .int .i64 (d1 p), .int .i64 (d2 p)] 69 (by rfl) (by rfl) y6 V7r G7.out.size 1 Try.infoInt (by rfl) (Nat.le_of_ble_eq_true rfl) (by exact one_int _) (by rfl) ?_; intro v8 e8 hb8 hs8 ho8))
      have V8r : Hid (Below wr.heap.size wr v8) := hb8
      have hw8 : v8.heap.size = w7.heap.size + 1 := by omega
      have Z0 : Hid _ := (ho8 _ (by omega)).trans y0
      have Z1 : Hid _ := (ho8 _ (by omega)).trans y1
      have Z3 : Hid _ := (ho8 _ (by omega)).trans y3
      have Z5 : Hid _ := (ho8 _ (by omega)).trans y5
      have Z6 : Hid _ := e8
      rcases (HUW.out.later (to_call HB.out V8r.out)).cells with z | ⟨bw, woff, rfl, hcW⟩
      · omega
      have gW0 := hcW (jx p) hjp
      have lW : bw < v8.heap.size := World.block_lt_of_cell? v8 _ gW0
      have lWw : bw < w.heap.size := by
        rcases HUW.out.cells with z | ⟨b', o', he, hc⟩
        · omega
        · cases he; exact World.block_lt_of_cell? w _ (hc (jx p) hjp)
      have D8 : Hid (Below v8.heap.size v8 v8.drew) := (Below.refl _ _).drew
      clear hcW hb8 hs8 ho8 e8 y0 y1 y3 y5 y6 b0 b1 b2 k0 k1 k2 V7 V7r hm8
      obtain ⟨u0, u1, u2⟩ := cells3 (kept D8.out Z3.out)
      obtain ⟨b0, b1, b2⟩ := cells3 (kept D8.out Z1.out)
      obtain ⟨q0, q1, q2⟩ := cells3 (kept D8.out Z5.out)
      obtain ⟨k0, k1, k2⟩ := cells3 (kept D8.out Z6.out)
      have a10 := cellOf (kept D8.out Z0.out) 10 (.slice (some ⟨bw, woff, none⟩) wn wc) rfl
      have gW := (D8.out.cell (p := ⟨bw, woff + jx p, none⟩) lW).trans gW0
      have jj0 : (0 : Int) ≤ (jx p : Int) := by omega
      have jj1 : (jx p : Int) < (wn : Int) := by omega
      have hl1 : ((ps.take j).map ix).length ≤ 1000 := by rw [List.length_map, List.length_take]; omega
      have hl2 : ((ps.take j).map fun p => us[jx p]?.getD 0).length ≤ 1000 := by rw [List.length_map, List.length_take]; omega
      have HO8 : Hid _ := RowO.later HO.out V8r.out
      go_region_held3 (fun w' => w'.cell? ⟨wr.heap.size, 0, none⟩ = some (.int .i64 p.1) ∧ w'.cell? ⟨wr.heap.size, 1, none⟩ = some (.int .i64 p.2.1) ∧ w'.cell? ⟨wr.heap.size, 2, none⟩ = some (.int .i64 p.2.2) ∧ w'.cell? ⟨w.heap.size + 1, 0, none⟩ = some (.int .i64 c) ∧ w'.cell? ⟨w.heap.size + 1, 1, none⟩ = some (.int .i64 h) ∧ w'.cell? ⟨w.heap.size + 1, 2, none⟩ = some (.int .i64 k) ∧ w'.cell? ⟨w7.heap.size, 0, none⟩ = some (.int .i64 (kk p)) ∧ w'.cell? ⟨w7.heap.size, 1, none⟩ = some (.int .i64 (d1 p)) ∧ w'.cell? ⟨w7.heap.size, 2, none⟩ = some (.int .i64 (d2 p)) ∧ w'.cell? ⟨w5.heap.size + 2, 0, none⟩ = some (.int .i64 oc) ∧ w'.cell? ⟨w5.heap.size + 2, 1, none⟩ = some (.int .i64 kh) ∧ w'.cell? ⟨w5.heap.size + 2, 2, none⟩ = some (.int .i64 kw) ∧ w'.cell? ⟨w.heap.size, 10, none⟩ = some (.slice (some ⟨bw, woff, none⟩) wn wc) ∧ w'.cell? ⟨bw, woff + jx p, none⟩ = some (.float .f64 (us[jx p]?.getD 0))) (go_keep)
        (first
          | (go_at_call 28; refine Calls.mono ((show IXc _ _ _ _ _ _ _ by first | exact ix1 | exact ix2).ok _) ?_; rintro e9 w9 ⟨rfl, hb9⟩; first | (have G9 : Hid (Below v8.heap.size v8 w9) := D8.out.trans hb9; clear hb9; obtain ⟨u0, u1, u2⟩ := cells3 (kept G9.out Z3.out); obtain ⟨b0, b1, b2⟩ := cells3 (kept G9.out Z1.out); obtain ⟨q0, q1, q2⟩ := cells3 (kept G9.out Z5.out); obtain ⟨k0, k1, k2⟩ := cells3 (kept G9.out Z6.out); have a10 := cellOf (kept G9.out Z0.out) 10 (.slice (some ⟨bw, woff, none⟩) wn wc) rfl; have gW := (G9.out.cell (p := ⟨bw, woff + jx p, none⟩) lW).trans gW0) | (have GA : Hid (Below v8.heap.size v8 w9) := G9.out.trans (hb9.mono G9.out.size); clear hb9; obtain ⟨u0, u1, u2⟩ := cells3 (kept GA.out Z3.out); obtain ⟨b0, b1, b2⟩ := cells3 (kept GA.out Z1.out); obtain ⟨q0, q1, q2⟩ := cells3 (kept GA.out Z5.out); obtain ⟨k0, k1, k2⟩ := cells3 (kept GA.out Z6.out); have a10 := cellOf (kept GA.out Z0.out) 10 (.slice (some ⟨bw, woff, none⟩) wn wc) rfl; have gW := (GA.out.cell (p := ⟨bw, woff + jx p, none⟩) lW).trans gW0))
          | (go_at_call 47; refine Calls.mono (put2_any (w5.heap.size + 3) w6.heap.size _ _ _ (ix p) (us[jx p]?.getD 0) _ (RowO.later HO8.out GA.out) (Nat.le_trans (Nat.le_trans hwr V8r.out.size) GA.out.size) w.heap.size (by omega) (by omega) hl1 hl2) ?_; rintro eb wb ⟨rfl, ob, bb', tb, tT⟩; obtain ⟨u0, u1, u2⟩ := cells3 (tT _ _ _ (kept GA.out Z3.out) (by decide) (by decide) (by omega)); obtain ⟨b0, b1, b2⟩ := cells3 (tT _ _ _ (kept GA.out Z1.out) (by decide) (by decide) (by omega)); obtain ⟨q0, q1, q2⟩ := cells3 (tT _ _ _ (kept GA.out Z5.out) (by decide) (by decide) (by omega)); obtain ⟨k0, k1, k2⟩ := cells3 (tT _ _ _ (kept GA.out Z6.out) (by decide) (by decide) (by omega)); have a10 := cellOf (tT _ _ _ (kept GA.out Z0.out) (by decide) (by decide) (by omega)) 10 (.slice (some ⟨bw, woff, none⟩) wn wc) rfl; have gW := (cell_of_heapE (tb bw (by omega) (by omega)) (woff + jx p)).trans ((GA.out.cell (p := ⟨bw, woff + jx p, none⟩) lW).trans gW0)))
      have HOb : Hid _ := ob
      have HBb : Hid (Below w.heap.size w wb) := (to_call (to_call HB.out V8r.out) GA.out).trans bb'
      have HKb : Hid (∀ k, k < w6.heap.size → k ≠ w5.heap.size + 3 → wb.heap[k]? = w6.heap[k]?) := fun k hk hne => (((tb k hk hne).trans (GA.out.block k (by omega))).trans (V8r.out.block k (by omega))).trans (HK.out k hk hne)
      have hsb : w6.heap.size ≤ wb.heap.size := Nat.le_trans (Nat.le_trans (Nat.le_trans hwr V8r.out.size) GA.out.size) bb'.size
      clear ob bb' tb tT u0 u1 u2 b0 b1 b2 q0 q1 q2 k0 k1 k2 a10 gW
      go_wp2_with fail
      go_roundg g
      case measure => omega
      case rel => exact ⟨j + 1, by go_num, by omega, by have := HOb.out; unfold Hid; rw [HTK.out, List.map_append, List.map_append]; exact this, HBb.out, HKb.out, hsb⟩
    · obtain rfl : j = ps.length := by omega
      have hd : decide ((ps.length : Int) < (ps.length : Int)) = false := decide_eq_false (by omega)
      obtain ⟨v1, v2, k1, p1, p2, ov⟩ := HO.out
      have HV : Hid (RowV wr w.heap.size v1 v2 (ps.map ix) (ps.map fun p => us[jx p]?.getD 0)) := by
        have := ov.mono (show w.heap.size ≤ w6.heap.size by omega)
        rw [List.take_length] at this
        exact this
      have K1 : Hid (wr.heap[w5.heap.size + 3]? = _) := k1
      have HKR : Hid (wr.heap[w.heap.size + 1 + 1]? = _) := (HK.out _ (by omega) (by omega)).trans M2.out
      clear k1 ov
      go_wp2_with (first
        | (refine wpList_load_row (by rfl) 64 _ (by rfl) (w5.heap.size + 3) _ (by rfl) K1.out _ Try.underlying64 rfl 3 Try.infoRow (by rfl) ?_)
        | (refine wpList_store_row (by rfl) 64 _ _ (by rfl) w w.heap.size (w.heap.size + 1 + 1) _ _ (by rfl) (by rfl) HKR.out HB.out (by omega) 3 Try.infoRow (by rfl) (by rfl) (by exact one_row _ _ _ p1 p2) ?_; intro W9 e9 hb9 hs9 ho9))
      refine bodyPost_ret (res_one _ 6 64 (by kernel_rfl) _ _ (w.heap.size + 1 + 1) _ (by rfl) _ Try.underlying64 rfl 3 Try.infoRow rfl e9) rfl ?_
      refine ⟨v1, v2, rfl, p1, p2, HV.out.keep fun k hk hv => ho9 k fun e => ?_, hb9⟩
      rcases hv with hv | hv
      · exact own_ne HV.out.o1 HKR.out (by decide) (e ▸ hv)
      · exact own_ne HV.out.o2 HKR.out (by decide) (e ▸ hv)
end Go.Proofs.Ytokglpemefkmjaa

namespace Go.Proofs.Ytokglpemefkmjaa
open Go.RowKit
set_option linter.unusedVariables false
set_option maxRecDepth 100000 in
set_option maxHeartbeats 1000000 in
theorem rowOfDense (c h k i : Int) (x1 x2 x3 x4 x5 x6 x7 x8 x9 x10 x11 x12 x13 : Value) (cs : List Int) (ws : List Nat) (b : Nat) (w : World)
    (hT : ∀ wx, Below w.heap.size w wx → Calls Try.prog 37 #[.agg #[.int .i64 1, x1, x2, x3, x4, x5, x6, x7, x8, x9, x10, x11, x12, x13], .agg #[.int .i64 c, .int .i64 h, .int .i64 k], .int .i64 i] wx fun e w' => ∃ v1 v2, e = .returned (.agg #[v1, v2, .float .f64 b]) ∧ v1.oneCell' = true ∧ v2.oneCell' = true ∧ RowV w' wx.heap.size v1 v2 cs ws ∧ Below wx.heap.size wx w') :
    Calls Try.prog 23 #[.agg #[.int .i64 1, x1, x2, x3, x4, x5, x6, x7, x8, x9, x10, x11, x12, x13], .agg #[.int .i64 c, .int .i64 h, .int .i64 k], .int .i64 i] w fun e w' => ∃ v1 v2, e = .returned (.agg #[v1, v2, .float .f64 b]) ∧ v1.oneCell' = true ∧ v2.oneCell' = true ∧ RowV w' w.heap.size v1 v2 cs ws ∧ Below w.heap.size w w' := by
  have HT : Hid _ := hT
  clear hT
  go_enter Try.func23, Try.ntmps23
  go_wp2_with fail
  refine Calls.mono (HT.out _ ((((Below.refl _ w).alloc (Nat.le_refl _) _).alloc (by simp only [alloc_size]; omega) _).alloc (by simp only [alloc_size]; omega) _)) ?_
  rintro e w1 ⟨v1, v2, rfl, p1, p2, ov, hb⟩
  have k2 := kept hb (heap_at _ _ (w.heap.size + 1 + 1) (by simp only [alloc_size]))
  have HB1 : Hid (Below w.heap.size w w1) := to_call ((((Below.refl _ w).alloc (Nat.le_refl _) _).alloc (by simp only [alloc_size]; omega) _).alloc (by simp only [alloc_size]; omega) _) hb
  have HV : Hid (RowV w1 w.heap.size v1 v2 cs ws) := ov.mono (by simp only [alloc_size]; omega)
  have HK : Hid _ := k2
  clear k2 hb ov HT
  go_wp2_with (first
    | (refine wpList_store_row (by rfl) 64 _ _ (by rfl) w w.heap.size (w.heap.size + 1 + 1) _ _ (by rfl) (by rfl) HK.out HB1.out (by omega) 3 Try.infoRow (by rfl) (by rfl) (by exact one_row _ _ _ p1 p2) ?_; intro W9 e9 hb9 hs9 ho9))
  refine bodyPost_ret (res_one _ 6 64 (by kernel_rfl) _ _ (w.heap.size + 1 + 1) _ (by rfl) _ Try.underlying64 rfl 3 Try.infoRow rfl e9) rfl ?_
  refine ⟨v1, v2, rfl, p1, p2, HV.out.keep fun k hk hv => ho9 k fun e => ?_, hb9⟩
  rcases hv with hv | hv
  · exact own_ne HV.out.o1 HK.out (by decide) (e ▸ hv)
  · exact own_ne HV.out.o2 HK.out (by decide) (e ▸ hv)
set_option maxRecDepth 100000 in
set_option maxHeartbeats 1000000 in
theorem rowOfConv (c h k i : Int) (x1 x2 x3 x4 x5 x6 x7 x8 x9 x10 x11 x12 x13 : Value) (cs : List Int) (ws : List Nat) (b : Nat) (w : World)
    (hT : ∀ wx, Below w.heap.size w wx → Calls Try.prog 38 #[.agg #[.int .i64 2, x1, x2, x3, x4, x5, x6, x7, x8, x9, x10, x11, x12, x13], .agg #[.int .i64 c, .int .i64 h, .int .i64 k], .int .i64 i] wx fun e w' => ∃ v1 v2, e = .returned (.agg #[v1, v2, .float .f64 b]) ∧ v1.oneCell' = true ∧ v2.oneCell' = true ∧ RowV w' wx.heap.size v1 v2 cs ws ∧ Below wx.heap.size wx w') :
    Calls Try.prog 23 #[.agg #[.int .i64 2, x1, x2, x3, x4, x5, x6, x7, x8, x9, x10, x11, x12, x13], .agg #[.int .i64 c, .int .i64 h, .int .i64 k], .int .i64 i] w fun e w' => ∃ v1 v2, e = .returned (.agg #[v1, v2, .float .f64 b]) ∧ v1.oneCell' = true ∧ v2.oneCell' = true ∧ RowV w' w.heap.size v1 v2 cs ws ∧ Below w.heap.size w w' := by
  have HT : Hid _ := hT
  clear hT
  go_enter Try.func23, Try.ntmps23
  go_wp2_with fail
  refine Calls.mono (HT.out _ ((((Below.refl _ w).alloc (Nat.le_refl _) _).alloc (by simp only [alloc_size]; omega) _).alloc (by simp only [alloc_size]; omega) _)) ?_
  rintro e w1 ⟨v1, v2, rfl, p1, p2, ov, hb⟩
  have k2 := kept hb (heap_at _ _ (w.heap.size + 1 + 1) (by simp only [alloc_size]))
  have HB1 : Hid (Below w.heap.size w w1) := to_call ((((Below.refl _ w).alloc (Nat.le_refl _) _).alloc (by simp only [alloc_size]; omega) _).alloc (by simp only [alloc_size]; omega) _) hb
  have HV : Hid (RowV w1 w.heap.size v1 v2 cs ws) := ov.mono (by simp only [alloc_size]; omega)
  have HK : Hid _ := k2
  clear k2 hb ov HT
  go_wp2_with (first
    | (refine wpList_store_row (by rfl) 64 _ _ (by rfl) w w.heap.size (w.heap.size + 1 + 1) _ _ (by rfl) (by rfl) HK.out HB1.out (by omega) 3 Try.infoRow (by rfl) (by rfl) (by exact one_row _ _ _ p1 p2) ?_; intro W9 e9 hb9 hs9 ho9))
  refine bodyPost_ret (res_one _ 6 64 (by kernel_rfl) _ _ (w.heap.size + 1 + 1) _ (by rfl) _ Try.underlying64 rfl 3 Try.infoRow rfl e9) rfl ?_
  refine ⟨v1, v2, rfl, p1, p2, HV.out.keep fun k hk hv => ho9 k fun e => ?_, hb9⟩
  rcases hv with hv | hv
  · exact own_ne HV.out.o1 HK.out (by decide) (e ▸ hv)
  · exact own_ne HV.out.o2 HK.out (by decide) (e ▸ hv)
set_option maxRecDepth 100000 in
set_option maxHeartbeats 1000000 in
theorem rowOfScale (c h k i : Int) (x1 x2 x3 x4 x5 x6 x7 x8 x9 x10 x11 x12 x13 : Value) (cs : List Int) (ws : List Nat) (b : Nat) (w : World)
    (hT : ∀ wx, Below w.heap.size w wx → Calls Try.prog 39 #[.agg #[.int .i64 3, x1, x2, x3, x4, x5, x6, x7, x8, x9, x10, x11, x12, x13], .agg #[.int .i64 c, .int .i64 h, .int .i64 k], .int .i64 i] wx fun e w' => ∃ v1 v2, e = .returned (.agg #[v1, v2, .float .f64 b]) ∧ v1.oneCell' = true ∧ v2.oneCell' = true ∧ RowV w' wx.heap.size v1 v2 cs ws ∧ Below wx.heap.size wx w') :
    Calls Try.prog 23 #[.agg #[.int .i64 3, x1, x2, x3, x4, x5, x6, x7, x8, x9, x10, x11, x12, x13], .agg #[.int .i64 c, .int .i64 h, .int .i64 k], .int .i64 i] w fun e w' => ∃ v1 v2, e = .returned (.agg #[v1, v2, .float .f64 b]) ∧ v1.oneCell' = true ∧ v2.oneCell' = true ∧ RowV w' w.heap.size v1 v2 cs ws ∧ Below w.heap.size w w' := by
  have HT : Hid _ := hT
  clear hT
  go_enter Try.func23, Try.ntmps23
  go_wp2_with fail
  refine Calls.mono (HT.out _ ((((Below.refl _ w).alloc (Nat.le_refl _) _).alloc (by simp only [alloc_size]; omega) _).alloc (by simp only [alloc_size]; omega) _)) ?_
  rintro e w1 ⟨v1, v2, rfl, p1, p2, ov, hb⟩
  have k2 := kept hb (heap_at _ _ (w.heap.size + 1 + 1) (by simp only [alloc_size]))
  have HB1 : Hid (Below w.heap.size w w1) := to_call ((((Below.refl _ w).alloc (Nat.le_refl _) _).alloc (by simp only [alloc_size]; omega) _).alloc (by simp only [alloc_size]; omega) _) hb
  have HV : Hid (RowV w1 w.heap.size v1 v2 cs ws) := ov.mono (by simp only [alloc_size]; omega)
  have HK : Hid _ := k2
  clear k2 hb ov HT
  go_wp2_with (first
    | (refine wpList_store_row (by rfl) 64 _ _ (by rfl) w w.heap.size (w.heap.size + 1 + 1) _ _ (by rfl) (by rfl) HK.out HB1.out (by omega) 3 Try.infoRow (by rfl) (by rfl) (by exact one_row _ _ _ p1 p2) ?_; intro W9 e9 hb9 hs9 ho9))
  refine bodyPost_ret (res_one _ 6 64 (by kernel_rfl) _ _ (w.heap.size + 1 + 1) _ (by rfl) _ Try.underlying64 rfl 3 Try.infoRow rfl e9) rfl ?_
  refine ⟨v1, v2, rfl, p1, p2, HV.out.keep fun k hk hv => ho9 k fun e => ?_, hb9⟩
  rcases hv with hv | hv
  · exact own_ne HV.out.o1 HK.out (by decide) (e ▸ hv)
  · exact own_ne HV.out.o2 HK.out (by decide) (e ▸ hv)
set_option maxRecDepth 100000 in
set_option maxHeartbeats 1000000 in
theorem rowOfMean (c h k i : Int) (x1 x2 x3 x4 x5 x6 x7 x8 x9 x10 x11 x12 x13 : Value) (cs : List Int) (ws : List Nat) (b : Nat) (w : World)
    (hT : ∀ wx, Below w.heap.size w wx → Calls Try.prog 40 #[.agg #[.int .i64 4, x1, x2, x3, x4, x5, x6, x7, x8, x9, x10, x11, x12, x13], .agg #[.int .i64 c, .int .i64 h, .int .i64 k], .int .i64 i] wx fun e w' => ∃ v1 v2, e = .returned (.agg #[v1, v2, .float .f64 b]) ∧ v1.oneCell' = true ∧ v2.oneCell' = true ∧ RowV w' wx.heap.size v1 v2 cs ws ∧ Below wx.heap.size wx w') :
    Calls Try.prog 23 #[.agg #[.int .i64 4, x1, x2, x3, x4, x5, x6, x7, x8, x9, x10, x11, x12, x13], .agg #[.int .i64 c, .int .i64 h, .int .i64 k], .int .i64 i] w fun e w' => ∃ v1 v2, e = .returned (.agg #[v1, v2, .float .f64 b]) ∧ v1.oneCell' = true ∧ v2.oneCell' = true ∧ RowV w' w.heap.size v1 v2 cs ws ∧ Below w.heap.size w w' := by
  have HT : Hid _ := hT
  clear hT
  go_enter Try.func23, Try.ntmps23
  go_wp2_with fail
  refine Calls.mono (HT.out _ ((((Below.refl _ w).alloc (Nat.le_refl _) _).alloc (by simp only [alloc_size]; omega) _).alloc (by simp only [alloc_size]; omega) _)) ?_
  rintro e w1 ⟨v1, v2, rfl, p1, p2, ov, hb⟩
  have k2 := kept hb (heap_at _ _ (w.heap.size + 1 + 1) (by simp only [alloc_size]))
  have HB1 : Hid (Below w.heap.size w w1) := to_call ((((Below.refl _ w).alloc (Nat.le_refl _) _).alloc (by simp only [alloc_size]; omega) _).alloc (by simp only [alloc_size]; omega) _) hb
  have HV : Hid (RowV w1 w.heap.size v1 v2 cs ws) := ov.mono (by simp only [alloc_size]; omega)
  have HK : Hid _ := k2
  clear k2 hb ov HT
  go_wp2_with (first
    | (refine wpList_store_row (by rfl) 64 _ _ (by rfl) w w.heap.size (w.heap.size + 1 + 1) _ _ (by rfl) (by rfl) HK.out HB1.out (by omega) 3 Try.infoRow (by rfl) (by rfl) (by exact one_row _ _ _ p1 p2) ?_; intro W9 e9 hb9 hs9 ho9))
  refine bodyPost_ret (res_one _ 6 64 (by kernel_rfl) _ _ (w.heap.size + 1 + 1) _ (by rfl) _ Try.underlying64 rfl 3 Try.infoRow rfl e9) rfl ?_
  refine ⟨v1, v2, rfl, p1, p2, HV.out.keep fun k hk hv => ho9 k fun e => ?_, hb9⟩
  rcases hv with hv | hv
  · exact own_ne HV.out.o1 HK.out (by decide) (e ▸ hv)
  · exact own_ne HV.out.o2 HK.out (by decide) (e ▸ hv)
end Go.Proofs.Ytokglpemefkmjaa

namespace Go.Proofs.Ytokglpemefkmjaa
open Go.RowKit
set_option linter.unusedVariables false
end Go.Proofs.Ytokglpemefkmjaa

namespace Go.Proofs.Ytokglpemefkmjaa
open Go.RowKit
set_option linter.unusedVariables false
/-- What the law's small tells. -/
def smallV (seed i : Int) : Int := IntKind.u64.wrap (IntKind.u64.wrap (IntKind.u64.wrap (IntKind.u64.wrap seed * 2862933555777941757) + IntKind.u64.wrap (IntKind.u64.wrap i * 3037000493)) + 11)
def smallU (seed i : Int) : Int := IntKind.u64.wrap (bits BinOp.xor IntKind.u64 (smallV seed i) (smallV seed i / 536870912) * 11400714819323198485) / 1099511627776
def smallZ (seed i : Int) : Int := wrap64 (wrap64 ((smallU seed i).tmod 19) - 9)
set_option maxRecDepth 100000 in
theorem small_any (seed i : Int) (w : World) : Calls Try.prog 15 #[.int .i64 seed, .int .i64 i] w fun e w' => e = .returned (.int .i64 (smallZ seed i)) ∧ w' = w := by
  go_enter Try.func15, Try.ntmps15
  go_wp2_with fail
  go_ret
  exact ⟨rfl, rfl⟩
theorem smallU_nonneg (seed i : Int) : 0 ≤ smallU seed i := by
  unfold smallU
  have : 0 ≤ IntKind.u64.wrap (bits BinOp.xor IntKind.u64 (smallV seed i) (smallV seed i / 536870912) * 11400714819323198485) := by
    generalize (bits BinOp.xor IntKind.u64 (smallV seed i) (smallV seed i / 536870912) * 11400714819323198485) = x
    rw [IntKind.wrap_u64]; omega
  omega
theorem smallZ_bd (seed i : Int) : -9 ≤ smallZ seed i ∧ smallZ seed i ≤ 9 := by
  unfold smallZ
  rw [Int.tmod_eq_emod_of_nonneg (smallU_nonneg seed i)]
  generalize smallU seed i = x
  unfold wrap64
  omega
/-- A float of a small whole number. -/
def flZ (v : Int) : Nat := FloatKind.f64.nearest v
theorem flZ_all : ∀ n : _root_.Fin 19, flZ ((n : Nat) - 9 : Int) < 18446744073709551616 ∧ frung (flZ ((n : Nat) - 9 : Int)) < infK := by decide +kernel
theorem flZ_lt {v : Int} (h : -9 ≤ v ∧ v ≤ 9) : flZ v < 18446744073709551616 ∧ frung (flZ v) < infK := by
  have := flZ_all ⟨(v + 9).toNat, by omega⟩
  rw [show (((⟨(v + 9).toNat, by omega⟩ : _root_.Fin 19) : Nat) - 9 : Int) = v by simp; omega] at this
  exact this
structure RdIn (w : World) (ao : Option Addr) (len cap : Nat) (cs : List Int) : Prop where
  length : cs.length = len
  max : len ≤ 1000000
  cells : len = 0 ∨ ∃ b off, ao = some ⟨b, off, none⟩ ∧ ∀ j, j < len → w.cell? ⟨b, off + j, none⟩ = some (.int .i64 (cs[j]?.getD 0))
theorem RdIn.later {w w' : World} {ao : Option Addr} {len cap : Nat} {cs : List Int} (h : RdIn w ao len cap cs) (hb : Below w.heap.size w w') : RdIn w' ao len cap cs := by
  refine ⟨h.length, h.max, ?_⟩
  rcases h.cells with h0 | ⟨b, off, ha, hc⟩
  · exact .inl h0
  · refine .inr ⟨b, off, ha, fun j hj => ?_⟩
    rw [hb.cell (p := ⟨b, off + j, none⟩) (World.block_lt_of_cell? w _ (hc j hj))]
    exact hc j hj
set_option maxRecDepth 100000 in
set_option maxHeartbeats 1000000 in
theorem sameInts_any (ao bo : Option Addr) (len cap bcap : Nat) (us : List Int) (w : World) (h : RdIn w ao len cap us) (h' : RdIn w bo len bcap us) :
    Calls Try.prog 14 #[.slice ao len cap, .slice bo len bcap] w fun e w' => e = .returned (.bool true) ∧ Below w.heap.size w w' := by
  have HR : Hid _ := h
  have HS : Hid _ := h'
  have hmx := h.max
  clear h h'
  go_enter Try.func14, Try.ntmps14
  go_wp2_with fail
  go_loopg [5] len (fun g iv wx => ∃ k : Nat, iv = .int .i64 k ∧ k + g = len ∧ Hid (Below w.heap.size w wx))
  case atStart => exact ⟨0, rfl, by omega, Below.refl _ _⟩
  case round =>
    obtain ⟨k, rfl, hk, HB⟩ := hrel
    by_cases hlt : k < len
    · have hd : decide ((k : Int) < (len : Int)) = true := decide_eq_true (by omega)
      obtain ⟨g, rfl⟩ : ∃ g, gk = g + 1 := ⟨gk - 1, by omega⟩
      rcases (HR.out.later HB.out).cells with h0 | ⟨b, off, rfl, hc⟩
      · omega
      rcases (HS.out.later HB.out).cells with h0 | ⟨b', off', rfl, hc'⟩
      · omega
      have g0 := hc k hlt
      have g1 := hc' k hlt
      generalize us[k]?.getD 0 = u at *
      clear hc hc'
      go_upto_region 6 with fail
      go_quiet (fail)
      go_wp2
      go_roundg g
      case measure => omega
      case rel => exact ⟨k + 1, by go_num, by omega, below_drewN HB.out _⟩
    · have hd : decide ((k : Int) < (len : Int)) = false := decide_eq_false (by omega)
      go_wp2
      go_ret
      exact ⟨rfl, HB.out⟩
end Go.Proofs.Ytokglpemefkmjaa

namespace Go.Proofs.Ytokglpemefkmjaa
open Go.RowKit
set_option linter.unusedVariables false
theorem szF_mk {c h k : Int} (hc : 1 ≤ c ∧ c ≤ 256) (hh : 1 ≤ h) (hk : 1 ≤ k) (hch : c * h ≤ 256) (hn : c * h * k ≤ 256) : szF [c, h, k] 1 = (c * h * k, 0) := by
  have e1 : ¬ (c < 1 ∨ (256 : Int) / 1 < c) := by omega
  rw [szF_ok _ _ _ e1, Int.one_mul]
  have h2 : h ≤ 256 / c := by rw [Int.le_ediv_iff_mul_le (by omega)]; rw [Int.mul_comm]; exact hch
  rw [szF_ok _ _ _ (by omega)]
  have hp : 0 < c * h := Int.mul_pos (by omega) (by omega)
  have h3 : k ≤ 256 / (c * h) := by rw [Int.le_ediv_iff_mul_le hp]; rw [Int.mul_comm]; exact hn
  rw [szF_ok _ _ _ (by omega)]
  rfl
set_option maxRecDepth 100000 in
set_option maxHeartbeats 1000000 in
theorem formDense_any (o kh kw sh sw ph pw fr : Int) (A : Nat) (v1 v2 v3 v4 : Value) (c h k : Int) (n p : Int) (hn : szF [c, h, k] 1 = (n, 0)) (hp : IntKind.i64.wrap (o * n) = p) (w : World) :
    Calls Try.prog 45 #[.agg #[.int .i64 1, .int .i64 o, .int .i64 kh, .int .i64 kw, .int .i64 sh, .int .i64 sw, .int .i64 ph, .int .i64 pw, .int .i64 fr, .float .f64 A, v1, v2, v3, v4], .agg #[.int .i64 c, .int .i64 h, .int .i64 k]] w fun e w' =>
      e = .returned (.tuple #[.agg #[.int .i64 1, .int .i64 256, .int .i64 0, .int .i64 0, .int .i64 0, .int .i64 0, .int .i64 0, .int .i64 0, .int .i64 0, .int .i64 0, .int .i64 0, .int .i64 0, .int .i64 0, .int .i64 0, .int .i64 0, .int .i64 0, .int .i64 0, .int .i64 o, .int .i64 1, .int .i64 1, .int .i64 p, .int .i64 o, .int .i64 0, .int .i64 0], .bool true]) ∧ Below w.heap.size w w' := by
  have HS : Hid _ := size_any c h k
  go_enter Try.func45, Try.ntmps45
  go_wp2_with fail
  refine Calls.mono (HS.out _) ?_
  rintro e w1 ⟨rfl, hb⟩
  have HB1 : Hid (Below w.heap.size w w1) := to_call ((((Below.refl _ w).alloc (Nat.le_refl _) _).alloc (by simp only [alloc_size]; omega) _).alloc (by simp only [alloc_size]; omega) _) hb
  have k0 := kept hb (alloc_kept (alloc_kept (heap_alloc_new w _) _) _)
  have k1 := kept hb (alloc_kept (heap_at _ _ (w.heap.size + 1) (by simp only [alloc_size])) _)
  have k2 := kept hb (heap_at _ _ (w.heap.size + 1 + 1) (by simp only [alloc_size]))
  have HK : Hid (w1.heap[w.heap.size]? = _ ∧ w1.heap[w.heap.size + 1]? = _ ∧ w1.heap[w.heap.size + 1 + 1]? = _) := ⟨k0, k1, k2⟩
  have hsz := blk_lt k2
  obtain ⟨b0, b1, b2⟩ := cells3 k1
  clear k0 k1 k2 hb HS
  unfold szV
  rw [hn]
  clear hn
  go_upto_region 16 with (first | (refine wpList_store_row (by rfl) 87 _ _ (by rfl) w w.heap.size w1.heap.size _ _ (by rfl) (by rfl) (heap_alloc_new w1 _) (HB1.out.alloc (by omega) _) (by omega) 24 Try.infoForm (by rfl) (by rfl) (by exact one24 ..) ?_; intro W2 e2 hb2 hs2 ho2; obtain ⟨a0, a1, a2, a3, a4, a5, a6, a7, a8, a9, a10, a11, a12, a13⟩ := cells14 ((ho2 _ (by omega)).trans (alloc_kept HK.out.1 _))))
  have HK2 : Hid (W2.heap[w.heap.size]? = _ ∧ W2.heap[w.heap.size + 1]? = _ ∧ W2.heap[w.heap.size + 1 + 1]? = _) := ⟨(ho2 _ (by omega)).trans (alloc_kept HK.out.1 _), (ho2 _ (by omega)).trans (alloc_kept HK.out.2.1 _), (ho2 _ (by omega)).trans (alloc_kept HK.out.2.2 _)⟩
  have hsW : w1.heap.size < W2.heap.size := blk_lt e2
  go_upto_region 17 with (first | (refine wpList_store_at (by rfl) 84 _ _ (by rfl) w w.heap.size w1.heap.size 0 (.agg #[.int .i64 1, .int .i64 256]) _ #[.int .i64 1, .int .i64 256, .int .i64 0, .int .i64 0, .int .i64 0, .int .i64 0, .int .i64 0, .int .i64 0, .int .i64 0, .int .i64 0, .int .i64 0, .int .i64 0, .int .i64 0, .int .i64 0, .int .i64 0, .int .i64 0, .int .i64 0, .int .i64 c, .int .i64 h, .int .i64 k, .int .i64 0, .int .i64 0, .int .i64 0, .int .i64 0] 87 (by rfl) (by rfl) e2 hb2 (by omega) 2 Try.infoBound (by rfl) (Nat.le_of_ble_eq_true rfl) (by exact one_int2 _ _) (by rfl) ?_; intro W3 e3 hb3 hs3 ho3))
  have HK3 : Hid (W3.heap[w.heap.size]? = _ ∧ W3.heap[w.heap.size + 1]? = _ ∧ W3.heap[w.heap.size + 1 + 1]? = _) := ⟨(ho3 _ (by omega)).trans HK2.out.1, (ho3 _ (by omega)).trans HK2.out.2.1, (ho3 _ (by omega)).trans HK2.out.2.2⟩
  have q1 := cellAt HK3.out.1 1 (.int .i64 o) rfl
  go_upto_region 18 with (first | (refine wpList_store_at (by rfl) 25 _ _ (by rfl) w w.heap.size w1.heap.size 17 (.agg #[.int .i64 o, .int .i64 1, .int .i64 1]) _ #[.int .i64 1, .int .i64 256, .int .i64 0, .int .i64 0, .int .i64 0, .int .i64 0, .int .i64 0, .int .i64 0, .int .i64 0, .int .i64 0, .int .i64 0, .int .i64 0, .int .i64 0, .int .i64 0, .int .i64 0, .int .i64 0, .int .i64 0, .int .i64 o, .int .i64 1, .int .i64 1, .int .i64 0, .int .i64 0, .int .i64 0, .int .i64 0] 87 (by rfl) (by rfl) e3 hb3 (by omega) 3 Try.infoShape (by rfl) (Nat.le_of_ble_eq_true rfl) (by exact one_int3 _ _ _) (by rfl) ?_; intro W4 e4 hb4 hs4 ho4))
  have HK4 : Hid (W4.heap[w.heap.size]? = _ ∧ W4.heap[w.heap.size + 1]? = _ ∧ W4.heap[w.heap.size + 1 + 1]? = _) := ⟨(ho4 _ (by omega)).trans HK3.out.1, (ho4 _ (by omega)).trans HK3.out.2.1, (ho4 _ (by omega)).trans HK3.out.2.2⟩
  have q4 := cellAt HK4.out.1 1 (.int .i64 o) rfl
  have f20 := cellAt e4 20 (.int .i64 0) rfl
  have f21 := cellAt e4 21 (.int .i64 0) rfl
  have fz := frz e4
  have hne : (20 : Nat) ≠ 21 := by decide
  clear a0 a1 a2 a3 a4 a5 a6 a7 a8 a9 a10 a11 a12 a13 q1 b0 b1 b2 e2 hb2 hs2 ho2 hb3 hs3 ho3 e3 hs4 ho4
  go_region
  all_goals
    have HWR : Wr w w.heap.size w1.heap.size 87 W4 _ _ := (((Wr.mk e4 hb4 (fun _ _ => rfl) : Wr w w.heap.size w1.heap.size 87 W4 W4 _).step (by omega) 20 (.int .i64 p)).step (by omega) 21 (.int .i64 o)).drewE
    obtain ⟨W5, hW5⟩ : ∃ W5, ((W4.setCell ⟨w1.heap.size, 20, none⟩ (.int .i64 p)).setCell ⟨w1.heap.size, 21, none⟩ (.int .i64 o)).drew = W5 := ⟨_, rfl⟩
    rw [hW5] at HWR ⊢
    clear hW5
    have e5 : W5.heap[w1.heap.size]? = some (.cells #[.int .i64 1, .int .i64 256, .int .i64 0, .int .i64 0, .int .i64 0, .int .i64 0, .int .i64 0, .int .i64 0, .int .i64 0, .int .i64 0, .int .i64 0, .int .i64 0, .int .i64 0, .int .i64 0, .int .i64 0, .int .i64 0, .int .i64 0, .int .i64 o, .int .i64 1, .int .i64 1, .int .i64 p, .int .i64 o, .int .i64 0, .int .i64 0] 87) := HWR.blk
    have hb5 := HWR.bel
    have ho5 := HWR.oth
    have HK5 : Hid (W5.heap[w.heap.size]? = _ ∧ W5.heap[w.heap.size + 1]? = _ ∧ W5.heap[w.heap.size + 1 + 1]? = _) := ⟨(ho5 _ (by omega)).trans HK4.out.1, (ho5 _ (by omega)).trans HK4.out.2.1, (ho5 _ (by omega)).trans HK4.out.2.2⟩
    clear HWR f20 f21 fz q4 HK4 hb4
    go_upto_region 32 with fail
    go_wp2_with (first
      | (refine wpList_load_row (by rfl) 87 _ (by rfl) w1.heap.size _ (by rfl) e5 _ Try.underlying87 rfl 24 Try.infoForm (by rfl) ?_)
      | (refine wpList_store_row (by rfl) 87 _ _ (by rfl) w w.heap.size (w.heap.size + 1 + 1) _ _ (by rfl) (by rfl) HK5.out.2.2 hb5 (by omega) 24 Try.infoForm (by rfl) (by rfl) (by exact one24 ..) ?_; intro W9 e9 hb9 hs9 ho9))
    refine bodyPost_ret (res_form _ 4 5 (by kernel_rfl) _ _ (w.heap.size + 1 + 1) _ _ (by rfl) (by rfl) rfl e9) rfl ?_
    exact ⟨rfl, hb9⟩
theorem leL (a : Int) : a ≤ a ∧ a ≤ a := ⟨Int.le_refl _, Int.le_refl _⟩
end Go.Proofs.Ytokglpemefkmjaa

namespace Go.Proofs.Ytokglpemefkmjaa
open Go.RowKit
set_option linter.unusedVariables false
theorem inV_at (cs : List Int) (j : Nat) (h : j < cs.length) : (inV cs)[j]? = some (.int .i64 (cs[j]?.getD 0)) := by
  unfold inV
  rw [List.getElem?_map, List.getElem?_eq_getElem h]
  rfl
theorem flV'_at (us : List Nat) (j : Nat) (h : j < us.length) : (flV' us)[j]? = some (.float .f64 (us[j]?.getD 0)) := by
  unfold flV'
  rw [List.getElem?_map, List.getElem?_eq_getElem h]
  rfl
theorem RowV.rdI {w : World} {base : Nat} {v1 v2 : Value} {cs : List Int} {ws : List Nat} (h : RowV w base v1 v2 cs ws) (hm : cs.length ≤ 1000) : ∃ ao cap, v1 = .slice ao cs.length cap ∧ RdIn w ao cs.length cap cs := by
  rcases h.o1.2 with ⟨h0, h1⟩ | ⟨g, cap, cur, hv, hg, hh, hc, hx, hs, ht⟩
  · have hl : cs.length = 0 := by rw [show (inV cs).length = cs.length by simp [inV]] at h1; exact h1
    exact ⟨none, 0, by rw [h0, hl], ⟨rfl, by omega, .inl hl⟩⟩
  · rw [show (inV cs).length = cs.length by simp [inV]] at hv
    refine ⟨some ⟨g, 0, none⟩, cap, hv, ⟨rfl, by omega, .inr ⟨g, 0, rfl, fun j hj => ?_⟩⟩⟩
    rw [cell_of_row _ g _ _ _ _ hh]
    have hu := inV_at cs j hj
    rw [← ht, List.getElem?_take] at hu
    split at hu
    · rw [Array.getElem?_toList] at hu; rw [Nat.zero_add]; exact hu
    · cases hu
theorem RowV.rdF {w : World} {base : Nat} {v1 v2 : Value} {cs : List Int} {ws : List Nat} (h : RowV w base v1 v2 cs ws) (hm : ws.length ≤ 1000) (hl : ∀ u ∈ ws, u < 18446744073709551616) : ∃ ao cap, v2 = .slice ao ws.length cap ∧ RdF w ao ws.length cap ws := by
  have hmx : ws.length ≤ maxLen := Nat.le_trans hm (by decide)
  rcases h.o2.2 with ⟨h0, h1⟩ | ⟨g, cap, cur, hv, hg, hh, hc, hx, hs, ht⟩
  · have hl0 : ws.length = 0 := by rw [show (flV' ws).length = ws.length by simp [flV']] at h1; exact h1
    exact ⟨none, 0, by rw [h0, hl0], ⟨rfl, hmx, hl, .inl hl0⟩⟩
  · rw [show (flV' ws).length = ws.length by simp [flV']] at hv
    refine ⟨some ⟨g, 0, none⟩, cap, hv, ⟨rfl, hmx, hl, .inr ⟨g, 0, rfl, fun j hj => ?_⟩⟩⟩
    rw [cell_of_row _ g _ _ _ _ hh]
    have hu := flV'_at ws j hj
    rw [← ht, List.getElem?_take] at hu
    split at hu
    · rw [Array.getElem?_toList] at hu; rw [Nat.zero_add]; exact hu
    · cases hu
end Go.Proofs.Ytokglpemefkmjaa
