import Derived.Test.YtmbnbleahehdaaaTA
import Derived.Test.YtmbnbleahehdaaaMVA
namespace Go.Proofs.Ytmbnbleahehdaaa
open Go.RowKit
set_option linter.unusedVariables false

theorem floatF (u : Nat) (w : World) : Calls Try.prog 54 #[.int .u64 u] w fun e w' => e = .returned (.float .f64 u) ∧ w' = w := by
  have hcf : ∀ (n : Int) (w : World), (callFunc 62 #[.int .u64 n]).run Try.prog w = .ok (.value (.float .f64 n.toNat)) w := by intro n w; kernel_rfl
  go_enter Try.func54, Try.ntmps54
  go_wp2
  go_ret
  exact ⟨rfl, rfl⟩
/-! ### kinds -/
theorem linear_any (k : Int) (w : World) : Calls Try.prog 16 #[.int .i64 k] w fun e w' => e = .returned (.bool (decide (1 ≤ k ∧ k ≤ 6))) ∧ w' = w := by
  go_enter Try.func16, Try.ntmps16
  generalize hr : decide (1 ≤ k ∧ k ≤ 6) = r
  have HR : Hid (decide (1 ≤ k ∧ k ≤ 6) = r) := hr
  clear hr
  by_cases h1 : 1 ≤ k
  · have d1 : decide (1 ≤ k) = true := decide_eq_true h1
    by_cases h2 : k ≤ 6
    · have d2 : decide (k ≤ 6) = true := decide_eq_true h2
      go_wp2
      go_ret
      exact ⟨congrArg (fun b => Ending.returned (.bool b)) ((decide_eq_true (p := 1 ≤ k ∧ k ≤ 6) ⟨h1, h2⟩).symm.trans HR.out), rfl⟩
    · have d2 : decide (k ≤ 6) = false := decide_eq_false h2
      go_wp2
      go_ret
      exact ⟨congrArg (fun b => Ending.returned (.bool b)) ((decide_eq_false (p := 1 ≤ k ∧ k ≤ 6) (by omega)).symm.trans HR.out), rfl⟩
  · have d1 : decide (1 ≤ k) = false := decide_eq_false h1
    go_wp2
    go_ret
    exact ⟨congrArg (fun b => Ending.returned (.bool b)) ((decide_eq_false (p := 1 ≤ k ∧ k ≤ 6) (by omega)).symm.trans HR.out), rfl⟩
theorem bent_any (k : Int) (w : World) : Calls Try.prog 17 #[.int .i64 k] w fun e w' => e = .returned (.bool (decide (7 ≤ k ∧ k ≤ 12))) ∧ w' = w := by
  go_enter Try.func17, Try.ntmps17
  generalize hr : decide (7 ≤ k ∧ k ≤ 12) = r
  have HR : Hid (decide (7 ≤ k ∧ k ≤ 12) = r) := hr
  clear hr
  by_cases h1 : 7 ≤ k
  · have d1 : decide (7 ≤ k) = true := decide_eq_true h1
    by_cases h2 : k ≤ 12
    · have d2 : decide (k ≤ 12) = true := decide_eq_true h2
      go_wp2
      go_ret
      exact ⟨congrArg (fun b => Ending.returned (.bool b)) ((decide_eq_true (p := 7 ≤ k ∧ k ≤ 12) ⟨h1, h2⟩).symm.trans HR.out), rfl⟩
    · have d2 : decide (k ≤ 12) = false := decide_eq_false h2
      go_wp2
      go_ret
      exact ⟨congrArg (fun b => Ending.returned (.bool b)) ((decide_eq_false (p := 7 ≤ k ∧ k ≤ 12) (by omega)).symm.trans HR.out), rfl⟩
  · have d1 : decide (7 ≤ k) = false := decide_eq_false h1
    go_wp2
    go_ret
    exact ⟨congrArg (fun b => Ending.returned (.bool b)) ((decide_eq_false (p := 7 ≤ k ∧ k ≤ 12) (by omega)).symm.trans HR.out), rfl⟩
/-! ### a row that is filled -/
theorem Try.infoI : (Try.prog.info? 3).map (fun i => (i.zero, i.size, i.bytes)) = some (some (.int .i64 0), 1, 8) := by kernel_rfl
theorem Try.infoRow : (Try.prog.info? 71).map (·.size) = some 3 := by kernel_rfl
theorem Try.infoSl1 : (Try.prog.info? 37).map (·.size) = some 1 := by kernel_rfl
theorem Try.infoSl2 : (Try.prog.info? 27).map (·.size) = some 1 := by kernel_rfl
theorem Try.infoFl1 : (Try.prog.info? 26).map (·.size) = some 1 := by kernel_rfl
theorem own_ne {w : World} {base B n : Nat} {E T : TypeId} {v : Value} {xs : List Value} {cur : Array Value} (h : w.ownsRow base E 1 v n xs) (hB : w.heap[B]? = some (.cells cur T)) (hne : E ≠ T) : v.ownBlock ≠ some B := by
  rcases h.2 with ⟨rfl, _⟩ | ⟨g, cap, cu, rfl, hg, hh, r⟩
  · simp [Value.ownBlock]
  · intro e
    simp only [Value.ownBlock, Option.some.injEq] at e
    subst e
    rw [hh] at hB
    simp only [Option.some.injEq, Obj.cells.injEq] at hB
    exact hne hB.2.1
theorem own_apart {w : World} {base n m : Nat} {E T : TypeId} {v u : Value} {xs ys : List Value} (h : w.ownsRow base E 1 v n xs) (h2 : w.ownsRow base T 1 u m ys) (hne : E ≠ T) : ∀ k, v.ownBlock = some k → u.ownBlock ≠ some k := by
  intro k hk
  rcases h.2 with ⟨rfl, _⟩ | ⟨g, cap, cu, rfl, hg, hh, r⟩
  · simp [Value.ownBlock] at hk
  · simp only [Value.ownBlock, Option.some.injEq] at hk
    subst hk
    exact own_ne h2 hh (fun e => hne e.symm)
theorem own_keep {w w' : World} {base n : Nat} {E : TypeId} {v : Value} {xs : List Value} (h : w.ownsRow base E 1 v n xs) (hk : ∀ k, v.ownBlock = some k → w'.heap[k]? = w.heap[k]?) : w'.ownsRow base E 1 v n xs := by
  refine ⟨h.1, ?_⟩
  rcases h.2 with h2 | ⟨g, cap, cu, rfl, hg, hh, r⟩
  · exact .inl h2
  · exact .inr ⟨g, cap, cu, rfl, hg, (hk g rfl).trans hh, r⟩
theorem own_mono {w : World} {base b n : Nat} {E : TypeId} {v : Value} {xs : List Value} (h : w.ownsRow base E 1 v n xs) (hb : b ≤ base) : w.ownsRow b E 1 v n xs := by
  refine ⟨h.1, ?_⟩
  rcases h.2 with h2 | ⟨g, cap, cu, rfl, hg, r⟩
  · exact .inl h2
  · exact .inr ⟨g, cap, cu, rfl, by omega, r⟩
def inV (cs : List Int) : List Value := cs.map (.int .i64)
def flV' (ws : List Nat) : List Value := ws.map (.float .f64)
/-- A row: its places and its numbers in blocks of their own. -/
structure RowV (w : World) (base : Nat) (v1 v2 : Value) (cs : List Int) (ws : List Nat) : Prop where
  o1 : w.ownsRow base 3 1 v1 (inV cs).length (inV cs)
  o2 : w.ownsRow base 26 1 v2 (flV' ws).length (flV' ws)
theorem RowV.keep {w w' : World} {base : Nat} {v1 v2 : Value} {cs : List Int} {ws : List Nat} (h : RowV w base v1 v2 cs ws) (hk : ∀ k, k < w.heap.size → v1.ownBlock = some k ∨ v2.ownBlock = some k → w'.heap[k]? = w.heap[k]?) : RowV w' base v1 v2 cs ws :=
  ⟨own_keep h.o1 fun k e => hk k (World.ownsRow.lt h.o1 k e).2 (.inl e), own_keep h.o2 fun k e => hk k (World.ownsRow.lt h.o2 k e).2 (.inr e)⟩
theorem RowV.later {w w' : World} {base : Nat} {v1 v2 : Value} {cs : List Int} {ws : List Nat} (h : RowV w base v1 v2 cs ws) (hb : Below w.heap.size w w') : RowV w' base v1 v2 cs ws := h.keep fun k hk _ => hb.block k hk
theorem RowV.mono {w : World} {base b : Nat} {v1 v2 : Value} {cs : List Int} {ws : List Nat} (h : RowV w base v1 v2 cs ws) (hb : b ≤ base) : RowV w b v1 v2 cs ws := ⟨own_mono h.o1 hb, own_mono h.o2 hb⟩
/-- It lies in a block. -/
def RowO (w : World) (base B : Nat) (cs : List Int) (ws : List Nat) (b : Nat) : Prop := ∃ v1 v2, w.heap[B]? = some (.cells #[v1, v2, .float .f64 b] 71) ∧ v1.oneCell' = true ∧ v2.oneCell' = true ∧ RowV w base v1 v2 cs ws
theorem one_v {v : Value} (h : v.oneCell' = true) (hc : v.cells = #[v]) : ∀ u ∈ v.cells.toList, u.oneCell' = true := by
  intro u hu
  rw [hc] at hu
  simp at hu
  subst hu; exact h
theorem own_one {w : World} {base n : Nat} {E : TypeId} {v : Value} {xs : List Value} (h : w.ownsRow base E 1 v n xs) : v.oneCell' = true ∧ v.cells = #[v] := by
  rcases h.2 with ⟨rfl, _⟩ | ⟨g, cap, cu, rfl, hg, hh, r⟩ <;> exact ⟨rfl, rfl⟩
theorem cellOf {W : World} {B : Nat} {c : Array Value} {t : TypeId} (h : W.heap[B]? = some (.cells c t)) (j : Nat) (v : Value) (hv : c[j]? = some v) : W.cell? ⟨B, j, none⟩ = some v := by rw [cell_of_row _ B j _ _ _ h]; exact hv
set_option maxRecDepth 100000 in
set_option maxHeartbeats 1000000 in
theorem put_any (B base : Nat) (cs : List Int) (ws : List Nat) (b : Nat) (c : Int) (x : Nat) (w : World) (h : RowO w base B cs ws b) (hbb : base ≤ w.heap.size) (b0 : Nat) (hB : b0 ≤ B) (hb0 : b0 ≤ base) (h1 : cs.length ≤ 1000) (h2 : ws.length ≤ 1000) :
    Calls Try.prog 44 #[.pointer (some ⟨B, 0, none⟩), .int .i64 c, .float .f64 x] w fun e w' => e = .returned (.tuple #[]) ∧ RowO w' base B (cs ++ [c]) (ws ++ [x]) b ∧ Below b0 w w' ∧ ∀ k, k < base → k ≠ B → w'.heap[k]? = w.heap[k]? := by
  obtain ⟨v1, v2, k, p1, p2, O⟩ := h
  have HO : Hid _ := O
  have K : Hid _ := k
  have hlB := blk_lt k
  have a0 := cellOf k 0 v1 rfl
  have h1' : (inV cs).length + 1 ≤ 1000000 := by simp [inV]; omega
  have h2' : (flV' ws).length + 1 ≤ 1000000 := by simp [flV']; omega
  clear k O h1 h2
  go_enter Try.func44, Try.ntmps44
  go_upto_region 1 with (first
    | (at_builtin; refine appendG1 Try.underlying37 Try.infoI rfl (by decide) w (by rfl) _ _ (by rfl) base v1 _ (by rfl) HO.out.o1 (.int .i64 c) (by rfl) (by rfl) h1' hbb ?_; intro v3 W3 o3 t3 hb3; have k3 : W3.heap[B]? = some (.cells #[v1, v2, .float .f64 b] 71) := (t3 B hlB (own_ne HO.out.o1 K.out (by decide))).trans K.out; clear a0)
    | (refine wpList_store_at (by rfl) 37 _ _ (by rfl) w b0 B 0 v3 _ #[v3, v2, .float .f64 b] 71 (by rfl) (by rfl) k3 (hb3.mono hb0) hB 1 Try.infoSl1 (by rw [(own_one o3).2]; rfl) (by simp) (one_v (own_one o3).1 (own_one o3).2) (by rw [(own_one o3).2]; rfl) ?_; intro W4 e4 hb4 hs4 ho4))
  have HO4 : Hid (RowV W4 base v3 v2 (cs ++ [c]) ws) := by
    refine ⟨?_, ?_⟩
    · have e : inV (cs ++ [c]) = inV cs ++ [.int .i64 c] := by simp [inV]
      rw [e]
      exact own_keep o3 fun k hk => ho4 k fun e => own_ne o3 k3 (by decide) (e ▸ hk)
    · refine own_keep HO.out.o2 fun k hk => ?_
      rw [ho4 k fun e => own_ne HO.out.o2 K.out (by decide) (e ▸ hk)]
      exact t3 k (World.ownsRow.lt HO.out.o2 k hk).2 (own_apart HO.out.o2 HO.out.o1 (by decide) k hk)
  have hq3 := (own_one o3).1
  have a1 := cellOf e4 1 v2 rfl
  have E4 : Hid _ := e4
  have hl4 := blk_lt e4
  have HB4 : Hid _ := hb4
  have hs4' := hb4.size
  have hbw : base ≤ W4.heap.size := by omega
  have OT4 : Hid (∀ k, k < base → k ≠ B → W4.heap[k]? = w.heap[k]?) := fun k h1 h2 => (ho4 k h2).trans (hb3.block k h1)
  clear e4 hb4 ho4 hs4 hb3 k3 t3 o3 HO K
  go_wp2_with (first
    | (at_builtin; refine appendG1 Try.underlying27 Try.infoF rfl (by decide) W4 (by rfl) _ _ (by rfl) base v2 _ (by rfl) HO4.out.o2 (.float .f64 x) (by rfl) (by rfl) h2' hbw ?_; intro v5 W5 o5 t5 hb5; have k5 : W5.heap[B]? = some (.cells #[v3, v2, .float .f64 b] 71) := (t5 B hl4 (own_ne HO4.out.o2 E4.out (by decide))).trans E4.out; clear a1)
    | (refine wpList_store_at (by rfl) 27 _ _ (by rfl) w b0 B 1 v5 _ #[v3, v5, .float .f64 b] 71 (by rfl) (by rfl) k5 (HB4.out.trans (hb5.mono hb0)) hB 1 Try.infoSl2 (by rw [(own_one o5).2]; rfl) (by simp) (one_v (own_one o5).1 (own_one o5).2) (by rw [(own_one o5).2]; rfl) ?_; intro W6 e6 hb6 hs6 ho6))
  go_end0
  refine ⟨rfl, ⟨v3, v5, e6, hq3, (own_one o5).1, ?_, ?_⟩, hb6, fun k h1 h2 => (ho6 k h2).trans ((hb5.block k h1).trans (OT4.out k h1 h2))⟩
  · refine own_keep HO4.out.o1 fun k hk => ?_
    rw [ho6 k fun e => own_ne HO4.out.o1 E4.out (by decide) (e ▸ hk)]
    exact t5 k (World.ownsRow.lt HO4.out.o1 k hk).2 (own_apart HO4.out.o1 HO4.out.o2 (by decide) k hk)
  · have e : flV' (ws ++ [x]) = flV' ws ++ [.float .f64 x] := by simp [flV']
    rw [e]
    exact own_keep o5 fun k hk => ho6 k fun e => own_ne o5 k5 (by decide) (e ▸ hk)
end Go.Proofs.Ytmbnbleahehdaaa
