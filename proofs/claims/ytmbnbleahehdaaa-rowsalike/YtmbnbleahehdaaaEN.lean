import Derived.Test.YtmbnbleahehdaaaEI
namespace Go.Proofs.Ytmbnbleahehdaaa
open Go.RowKit
set_option linter.unusedVariables false

set_option maxRecDepth 100000 in
set_option maxHeartbeats 1000000 in
theorem put2_any (B base : Nat) (cs : List Int) (ws : List Nat) (b : Nat) (c : Int) (x : Nat) (w : World) (h : RowO w base B cs ws b) (hbb : base ≤ w.heap.size) (b0 : Nat) (hB : b0 ≤ B) (hb0 : b0 ≤ base) (h1 : cs.length ≤ 1000) (h2 : ws.length ≤ 1000) :
    Calls Try.prog 44 #[.pointer (some ⟨B, 0, none⟩), .int .i64 c, .float .f64 x] w fun e w' => e = .returned (.tuple #[]) ∧ RowO w' base B (cs ++ [c]) (ws ++ [x]) b ∧ Below b0 w w' ∧ (∀ k, k < base → k ≠ B → w'.heap[k]? = w.heap[k]?) ∧ ∀ (k : Nat) (T : TypeId) (cur : Array Value), w.heap[k]? = some (.cells cur T) → 3 ≠ T → 26 ≠ T → k ≠ B → w'.heap[k]? = some (.cells cur T) := by
  obtain ⟨v1, v2, k, p1, p2, O⟩ := h
  have HO : Hid _ := O
  have K : Hid _ := k
  have hlB := blk_lt k
  have a0 := cellOf k 0 v1 rfl
  have h1' : (inV cs).length + 1 ≤ 1000000 := by simp [inV]; omega
  have h2' : (flV' ws).length + 1 ≤ 1000000 := by simp [flV']; omega
  clear k O h1 h2
  go_enter Try.func44, Try.ntmps44
  go_upto_region 1 with (first
    | (at_builtin; refine appendG1 Try.underlying37 Try.infoI rfl (by decide) w (by rfl) _ _ (by rfl) base v1 _ (by rfl) HO.out.o1 (.int .i64 c) (by rfl) (by rfl) h1' hbb ?_; intro v3 W3 o3 t3 hb3; have k3 : W3.heap[B]? = some (.cells #[v1, v2, .float .f64 b] 71) := (t3 B hlB (own_ne HO.out.o1 K.out (by decide))).trans K.out; clear a0)
    | (refine wpList_store_at (by rfl) 37 _ _ (by rfl) w b0 B 0 v3 _ #[v3, v2, .float .f64 b] 71 (by rfl) (by rfl) k3 (hb3.mono hb0) hB 1 Try.infoSl1 (by rw [(own_one o3).2]; rfl) (by simp) (one_v (own_one o3).1 (own_one o3).2) (by rw [(own_one o3).2]; rfl) ?_; intro W4 e4 hb4 hs4 ho4))
  have HO4 : Hid (RowV W4 base v3 v2 (cs ++ [c]) ws) := by
    refine ⟨?_, ?_⟩
    · have e : inV (cs ++ [c]) = inV cs ++ [.int .i64 c] := by simp [inV]
      rw [e]
      exact own_keep o3 fun k hk => ho4 k fun e => own_ne o3 k3 (by decide) (e ▸ hk)
    · refine own_keep HO.out.o2 fun k hk => ?_
      rw [ho4 k fun e => own_ne HO.out.o2 K.out (by decide) (e ▸ hk)]
      exact t3 k (World.ownsRow.lt HO.out.o2 k hk).2 (own_apart HO.out.o2 HO.out.o1 (by decide) k hk)
  have hq3 := (own_one o3).1
  have a1 := cellOf e4 1 v2 rfl
  have E4 : Hid _ := e4
  have hl4 := blk_lt e4
  have HB4 : Hid _ := hb4
  have hs4' := hb4.size
  have hbw : base ≤ W4.heap.size := by omega
  have OT4 : Hid (∀ k, k < base → k ≠ B → W4.heap[k]? = w.heap[k]?) := fun k h1 h2 => (ho4 k h2).trans (hb3.block k h1)
  have OT5 : Hid (∀ (k : Nat) (T : TypeId) (cur : Array Value), w.heap[k]? = some (.cells cur T) → 3 ≠ T → 26 ≠ T → k ≠ B → W4.heap[k]? = some (.cells cur T)) := fun k T cur hk h1 h2 h3 => (ho4 k h3).trans ((t3 k (blk_lt hk) (own_ne HO.out.o1 hk h1)).trans hk)
  clear e4 hb4 ho4 hs4 hb3 k3 t3 o3 HO K
  go_wp2_with (first
    | (at_builtin; refine appendG1 Try.underlying27 Try.infoF rfl (by decide) W4 (by rfl) _ _ (by rfl) base v2 _ (by rfl) HO4.out.o2 (.float .f64 x) (by rfl) (by rfl) h2' hbw ?_; intro v5 W5 o5 t5 hb5; have k5 : W5.heap[B]? = some (.cells #[v3, v2, .float .f64 b] 71) := (t5 B hl4 (own_ne HO4.out.o2 E4.out (by decide))).trans E4.out; clear a1)
    | (refine wpList_store_at (by rfl) 27 _ _ (by rfl) w b0 B 1 v5 _ #[v3, v5, .float .f64 b] 71 (by rfl) (by rfl) k5 (HB4.out.trans (hb5.mono hb0)) hB 1 Try.infoSl2 (by rw [(own_one o5).2]; rfl) (by simp) (one_v (own_one o5).1 (own_one o5).2) (by rw [(own_one o5).2]; rfl) ?_; intro W6 e6 hb6 hs6 ho6))
  go_end0
  refine ⟨rfl, ⟨v3, v5, e6, hq3, (own_one o5).1, ?_, ?_⟩, hb6, fun k h1 h2 => (ho6 k h2).trans ((hb5.block k h1).trans (OT4.out k h1 h2)), fun k T cur hk h1 h2 h3 => (ho6 k h3).trans ((t5 k (blk_lt (OT5.out k T cur hk h1 h2 h3)) (own_ne HO4.out.o2 (OT5.out k T cur hk h1 h2 h3) h2)).trans (OT5.out k T cur hk h1 h2 h3))⟩
  · refine own_keep HO4.out.o1 fun k hk => ?_
    rw [ho6 k fun e => own_ne HO4.out.o1 E4.out (by decide) (e ▸ hk)]
    exact t5 k (World.ownsRow.lt HO4.out.o1 k hk).2 (own_apart HO4.out.o1 HO4.out.o2 (by decide) k hk)
  · have e : flV' (ws ++ [x]) = flV' ws ++ [.float .f64 x] := by simp [flV']
    rw [e]
    exact own_keep o5 fun k hk => ho6 k fun e => own_ne o5 k5 (by decide) (e ▸ hk)
end Go.Proofs.Ytmbnbleahehdaaa
