import Derived.Lib.OthersKept
import Derived.Laws.StructEq
import Derived.Orders
import Derived.RegionTactic
import Derived.Deep.AppendLies
import Derived.Deep.LoopGhost
import Derived.WalkSpells
import Derived.Deep.DeepMust
import Derived.ArgAppend
import Derived.Laws.AppendOwnNone
import Derived.Deep.QuietTactic
import Derived.OwnWalk
import Derived.BigRegion
import Derived.ProofKit
import Derived.Below
import Ieee.Arith
import Derived.BigQuiet
import Derived.Deep.WholeRow
import Derived.Deep.MidRow
import Derived.Laws.CopyOwn
import Derived.Deep.RegionHeld3
import Derived.Test.YtoehhnildocihaaChecked
import Derived.WalkKit
import Derived.WalkSmall
import Derived.WalkLawsBesides
import Derived.Laws.BitsAll
import Derived.Laws.OwnMore
import Derived.OneCell
import Derived.Deep.RegionWith
import Derived.Deep.DeepCutAuto
import Derived.Laws.MakeOwn
import Derived.Test.YtoehhnildocihaaRows
import Derived.Deep.Slices
import Derived.OpenShut
import Derived.Lib.SmallJoins
import Derived.ChangeSame
namespace Go.Proofs.Ytoehhnildocihaa
set_option linter.unusedVariables false
def U4 (xs : List Nat) : Prop := ∀ x ∈ xs, x < 4294967296
/-- The whole number of words of 32 bits, the lowest first. -/
def dig : List Nat → Nat
  | [] => 0
  | x :: xs => x + 4294967296 * dig xs
/-- The last word is not 0. -/
def Nm (xs : List Nat) : Prop := xs = [] ∨ xs[xs.length - 1]?.getD 0 ≠ 0
def bl (m : Nat) : Nat := if m = 0 then 0 else m.log2 + 1
theorem U4.at {xs : List Nat} (h : U4 xs) (j : Nat) : xs[j]?.getD 0 < 4294967296 := by
  by_cases hj : j < xs.length
  · rw [List.getElem?_eq_getElem hj]; exact h _ (List.getElem_mem hj)
  · rw [List.getElem?_eq_none (by omega)]; simp
theorem U4.take {xs : List Nat} (h : U4 xs) (n : Nat) : U4 (xs.take n) := fun y hy => h y (List.mem_of_mem_take hy)
theorem U4.drop {xs : List Nat} (h : U4 xs) (n : Nat) : U4 (xs.drop n) := fun y hy => h y (List.mem_of_mem_drop hy)
theorem U4.set {xs : List Nat} (h : U4 xs) (k v : Nat) (hv : v < 4294967296) : U4 (xs.set k v) := by
  intro y hy
  rcases List.mem_or_eq_of_mem_set hy with h1 | h1
  · exact h y h1
  · omega
theorem bl_zero : bl 0 = 0 := rfl
theorem bl_spec {m : Nat} (h : m ≠ 0) : 2 ^ (bl m - 1) ≤ m ∧ m < 2 ^ bl m ∧ 1 ≤ bl m := by
  unfold bl; rw [if_neg h]
  exact ⟨Nat.log2_self_le h, Nat.lt_log2_self, by omega⟩
end Go.Proofs.Ytoehhnildocihaa
namespace Go.Proofs.Ytoehhnildocihaa
set_option linter.unusedVariables false
end Go.Proofs.Ytoehhnildocihaa
namespace Go.Proofs.Ytoehhnildocihaa
set_option linter.unusedVariables false
end Go.Proofs.Ytoehhnildocihaa
namespace Go.Proofs.Ytoehhnildocihaa
end Go.Proofs.Ytoehhnildocihaa
namespace Go.Proofs.Ytoehhnildocihaa
open Ieee
set_option linter.unusedVariables false
end Go.Proofs.Ytoehhnildocihaa
namespace Go.Proofs.Ytoehhnildocihaa
open Ieee
set_option linter.unusedVariables false
end Go.Proofs.Ytoehhnildocihaa
namespace Go.Proofs.Ytoehhnildocihaa
open Ieee
set_option linter.unusedVariables false
end Go.Proofs.Ytoehhnildocihaa
namespace Go.Proofs.Ytoehhnildocihaa
open Ieee
set_option linter.unusedVariables false
end Go.Proofs.Ytoehhnildocihaa
namespace Go.Proofs.Ytoehhnildocihaa
open Ieee
set_option linter.unusedVariables false
end Go.Proofs.Ytoehhnildocihaa
namespace Go.Proofs.Ytoehhnildocihaa
open Ieee
set_option linter.unusedVariables false
end Go.Proofs.Ytoehhnildocihaa
namespace Go.Proofs.Ytoehhnildocihaa
set_option linter.unusedVariables false
end Go.Proofs.Ytoehhnildocihaa
namespace Go.Proofs.Ytoehhnildocihaa
set_option linter.unusedVariables false
end Go.Proofs.Ytoehhnildocihaa
namespace Go.Proofs.Ytoehhnildocihaa
set_option linter.unusedVariables false
def sv (neg : Bool) (m : Nat) : Int := if neg then -(m : Int) else (m : Int)
/-- The real m 2^e, turned if neg, in units of 2^-s. -/
def zv (s : Nat) (neg : Bool) (m : Nat) (e : Int) : Int := sv neg m * ((2 ^ (e + s).toNat : Nat) : Int)
theorem sv_abs (neg : Bool) (m : Nat) : (sv neg m).natAbs = m := by unfold sv; split <;> simp
theorem zv_abs (s : Nat) (neg : Bool) (m : Nat) (e : Int) : (zv s neg m e).natAbs = m * 2 ^ (e + s).toNat := by
  unfold zv; rw [Int.natAbs_mul, sv_abs, Int.natAbs_natCast]
theorem bl_le_of_lt {m k : Nat} (h : m < 2 ^ k) : bl m ≤ k := by
  rcases Nat.eq_zero_or_pos m with h0 | h0
  · rw [h0, bl_zero]; omega
  · have h3 := bl_spec (m := m) (by omega)
    rcases Nat.lt_or_ge k (bl m) with h4 | h4
    · have : 2 ^ k ≤ 2 ^ (bl m - 1) := Nat.pow_le_pow_right (by omega) (by omega)
      omega
    · exact h4
end Go.Proofs.Ytoehhnildocihaa
namespace Go.Proofs.Ytoehhnildocihaa
set_option linter.unusedVariables false
end Go.Proofs.Ytoehhnildocihaa
namespace Go.Proofs.Ytoehhnildocihaa
open Ieee
set_option linter.unusedVariables false
end Go.Proofs.Ytoehhnildocihaa
namespace Go.Proofs.Ytoehhnildocihaa
open Ieee
set_option linter.unusedVariables false
end Go.Proofs.Ytoehhnildocihaa
namespace Go.Proofs.Ytoehhnildocihaa
open Ieee
set_option linter.unusedVariables false
end Go.Proofs.Ytoehhnildocihaa
namespace Go.Proofs.Ytoehhnildocihaa
open Ieee
set_option linter.unusedVariables false
end Go.Proofs.Ytoehhnildocihaa
namespace Go.Proofs.Ytoehhnildocihaa
open Ieee
set_option linter.unusedVariables false
end Go.Proofs.Ytoehhnildocihaa
namespace Go.Proofs.Ytoehhnildocihaa
open Ieee
set_option linter.unusedVariables false
end Go.Proofs.Ytoehhnildocihaa
namespace Go.Proofs.Ytoehhnildocihaa
open Ieee
set_option linter.unusedVariables false
end Go.Proofs.Ytoehhnildocihaa
namespace Go.Proofs.Ytoehhnildocihaa
open Ieee
set_option linter.unusedVariables false
end Go.Proofs.Ytoehhnildocihaa
namespace Go.Proofs.Ytoehhnildocihaa
set_option linter.unusedVariables false
end Go.Proofs.Ytoehhnildocihaa
namespace Go.Proofs.Ytoehhnildocihaa
set_option linter.unusedVariables false
end Go.Proofs.Ytoehhnildocihaa
namespace Go.Proofs.Ytoehhnildocihaa
set_option linter.unusedVariables false
end Go.Proofs.Ytoehhnildocihaa
namespace Go.Proofs.Ytoehhnildocihaa
set_option linter.unusedVariables false
end Go.Proofs.Ytoehhnildocihaa
namespace Go.Proofs.Ytoehhnildocihaa
set_option linter.unusedVariables false
open Ieee
end Go.Proofs.Ytoehhnildocihaa
namespace Go.Proofs.Ytoehhnildocihaa
set_option linter.unusedVariables false
end Go.Proofs.Ytoehhnildocihaa
namespace Go.Proofs.Ytoehhnildocihaa
set_option linter.unusedVariables false
end Go.Proofs.Ytoehhnildocihaa

namespace Go.Proofs.Ytoehhnildocihaa
open Go.RowKit
set_option linter.unusedVariables false
theorem maxLen_le : maxLen ≤ 9223372036854775807 := by decide
end Go.Proofs.Ytoehhnildocihaa

namespace Go.Proofs.Ytoehhnildocihaa
open Go.RowKit
set_option linter.unusedVariables false
theorem cellAtJ {W : World} {B : Nat} {c : Array Value} {t : TypeId} (h : W.heap[B]? = some (.cells c t)) (o : Nat) (v : Value) (hv : c[o]? = some v) : W.cell? ⟨B, o, none⟩ = some v := (cell_of_row _ _ o _ _ _ h).trans hv
/-- A slice of whole numbers. -/
structure RdIs (w : World) (ao : Option Addr) (len cap : Nat) (is : List Int) : Prop where
  length : is.length = len
  max : len ≤ maxLen
  cells : len = 0 ∨ ∃ b off, ao = some ⟨b, off, none⟩ ∧ ∀ j, j < len → w.cell? ⟨b, off + j, none⟩ = some (.int .i64 (is[j]?.getD 0))
theorem RdIs.later {w w' : World} {ao : Option Addr} {len cap : Nat} {is : List Int} (h : RdIs w ao len cap is) (hb : Below w.heap.size w w') : RdIs w' ao len cap is := by
  refine ⟨h.length, h.max, ?_⟩
  rcases h.cells with h0 | ⟨b, off, ha, hc⟩
  · exact .inl h0
  · refine .inr ⟨b, off, ha, fun j hj => ?_⟩
    rw [hb.cell (p := ⟨b, off + j, none⟩) (World.block_lt_of_cell? w _ (hc j hj))]
    exact hc j hj
end Go.Proofs.Ytoehhnildocihaa

namespace Go.Proofs.Ytoehhnildocihaa
open Go.RowKit
set_option linter.unusedVariables false
theorem blk_lt {w : World} {B : Nat} {o : Obj} (h : w.heap[B]? = some o) : B < w.heap.size := (Array.getElem?_eq_some_iff.1 h).1
theorem kept {X w1 : World} {B : Nat} {o : Obj} (hb : Below X.heap.size X w1) (h : X.heap[B]? = some o) : w1.heap[B]? = some o := (hb.block B (blk_lt h)).trans h
theorem alloc_kept {w : World} {B : Nat} {o : Obj} (h : w.heap[B]? = some o) (o' : Obj) : (w.alloc o').heap[B]? = some o := by rw [Below.heap_alloc w o' B (blk_lt h)]; exact h
theorem to_call {w X w1 : World} (h : Below w.heap.size w X) (hb : Below X.heap.size X w1) : Below w.heap.size w w1 := h.trans (hb.mono h.size)
end Go.Proofs.Ytoehhnildocihaa

namespace Go.Proofs.Ytoehhnildocihaa
open Go.RowKit
set_option linter.unusedVariables false
/-- A whole row into a block: what comes behind knows the block, and that nothing else changed. -/
theorem wpList_store_row {P : Program} {ops : Array Oper} {rest : List Oper} {op : Oper} {a : Act} {w : World} {Q : Exit → Act → World → Prop} (hgd : op.guard = none) (ty : TypeId) (x y : Operand) (ho : op.op = .store ty x y)
    (w0 : World) (base B : Nat) (c cur : Array Value) (hx : a.eval x = .pointer (some ⟨B, 0, none⟩)) (hy : a.eval y = .agg c) (hB : w.heap[B]? = some (.cells cur ty)) (hb : Below base w0 w) (hbB : base ≤ B)
    (n : Nat) (hi : (P.info? ty).map (·.size) = some n) (hn : c.size = n) (hc : cur.size = n) (h1 : c.all (·.oneCell') = true)
    (h : ∀ W, W.heap[B]? = some (.cells c ty) → Below base w0 W → W.heap.size = w.heap.size → (∀ k, k ≠ B → W.heap[k]? = w.heap[k]?) → wpList P ops Q rest (a.put op.dst undef) W) : wpList P ops Q (op :: rest) a w := by
  refine wpList_plain hgd fun K hK => ?_
  have hs := run_storeVar_row (P := P) _ _ ty ty cur c hB (hn ▸ hi) (hc.trans hn.symm) h1
  unfold Oper.wp execOp
  simp only [ho, hx, hy, Instr.storeAt, Instr.sureAddr, Sem.run_bind, Sem.run_pure, Result.andThen_ok, hs]
  exact hK _ _ (h _ (setRow_heap w B _ _ ty _ hB) (below_setRow hb hbB _) (by simp [World.setRow]) (fun k hk => setRow_other w B k _ hk))
/-- Some cells into a block, from a place on. -/
theorem wpList_store_at {P : Program} {ops : Array Oper} {rest : List Oper} {op : Oper} {a : Act} {w : World} {Q : Exit → Act → World → Prop} (hgd : op.guard = none) (ty : TypeId) (x y : Operand) (ho : op.op = .store ty x y)
    (w0 : World) (base B o : Nat) (v : Value) (cur c : Array Value) (t : TypeId) (hx : a.eval x = .pointer (some ⟨B, o, none⟩)) (hy : a.eval y = v) (hB : w.heap[B]? = some (.cells cur t)) (hb : Below base w0 w) (hbB : base ≤ B)
    (n : Nat) (hi : (P.info? ty).map (·.size) = some n) (hn : v.cells.size = n) (hl : o + n ≤ cur.size) (h1 : ∀ u ∈ v.cells.toList, u.oneCell' = true)
    (hc : (cur.toList.take o ++ v.cells.toList ++ cur.toList.drop (o + n)).toArray = c)
    (h : ∀ W, W.heap[B]? = some (.cells c t) → Below base w0 W → W.heap.size = w.heap.size → (∀ k, k ≠ B → W.heap[k]? = w.heap[k]?) → wpList P ops Q rest (a.put op.dst undef) W) : wpList P ops Q (op :: rest) a w := by
  refine wpList_plain hgd fun K hK => ?_
  have hs := run_storeCells_at (P := P) B o t v.cells.toList 0 cur w hB (by simp [hn]; omega) h1
  simp only [Nat.add_zero, Array.length_toList, hn] at hs
  rw [hc] at hs
  have hs2 : (storeVar ty ⟨B, o, none⟩ v).run P w = .ok () (w.setRow B c) := by
    cases hq : P.info? ty with
    | none => simp [hq] at hi
    | some i =>
      have hz : v.cells.size = i.size := by simp [hq] at hi; omega
      simp [storeVar, sizeOf, typeInfo, hq, hz, hs]
  unfold Oper.wp execOp
  simp only [ho, hx, hy, Instr.storeAt, Instr.sureAddr, Sem.run_bind, Sem.run_pure, Result.andThen_ok, hs2]
  exact hK _ _ (h _ (setRow_heap w B _ _ t _ hB) (below_setRow hb hbB _) (by simp [World.setRow]) (fun k hk => setRow_other w B k _ hk))
/-- A whole row out of a block. -/
theorem wpList_load_row {P : Program} {ops : Array Oper} {rest : List Oper} {op : Oper} {a : Act} {w : World} {Q : Exit → Act → World → Prop} (hgd : op.guard = none) (ty : TypeId) (x : Operand) (ho : op.op = .load ty x)
    (B : Nat) (c : Array Value) (hx : a.eval x = .pointer (some ⟨B, 0, none⟩)) (hB : w.heap[B]? = some (.cells c ty)) (d : TypeDesc) (hu : P.underlying ty = some d) (hd : d.isRow = true)
    (n : Nat) (hi : (P.info? ty).map (·.size) = some n) (hn : c.size = n)
    (h : wpList P ops Q rest (a.put op.dst (.agg c)) w) : wpList P ops Q (op :: rest) a w := by
  have hr : w.rangeAt B 0 c.toList := by
    have := World.rangeAt_of_block hB 0 c.size
    simpa using this
  refine wpList_load_mid hgd ty x ho B 0 hx c.toList d hr hu hd (by simpa [hn] using hi) ?_
  simpa using h
end Go.Proofs.Ytoehhnildocihaa

namespace Go.Proofs.Ytoehhnildocihaa
open Go.RowKit
set_option linter.unusedVariables false
theorem hopV {P : Program} {ops : Array Oper} {Q : Exit → Act → World → Prop} {i : Nat} {o : Oper} {K : Act → World → Prop} {a : Act} {w w' : World} (d : Nat) {v : Value} (ho : ops[i]? = some o) (hg : o.guard = none) (hd : o.dst = some d) (hr : (execOp a.eval o).run P w = .ok (.value v) w') (h : K (a.put (some d) v) w') : wpOp P ops Q i K a w :=
  wpOp_step ho fun K' hK => by
    rw [if_pos (by simp [Region.wanted, hg])]
    unfold Oper.wp
    rw [hr]
    rw [← hd] at h
    exact hK _ _ h
theorem hopCd {P : Program} {ops : Array Oper} {Q : Exit → Act → World → Prop} {i : Nat} {o : Oper} {K : Act → World → Prop} {a : Act} {w : World} {f : FuncId} {args : Array Value} (d : Nat) (ho : ops[i]? = some o) (hw : Region.wanted o (yielded ops a.tmps) = true) (hd : o.dst = some d) (hr : (execOp a.eval o).run P w = .ok (.enter f args) w) (hc : Calls P f args w fun e w'' => ∃ v, e = .returned v ∧ K (a.put (some d) v) w'') : wpOp P ops Q i K a w :=
  wpOp_step ho fun K' hK => by
    rw [if_pos hw]
    unfold Oper.wp
    rw [hr, Oper.upon_enter]
    refine Calls.mono hc ?_
    rintro e w'' ⟨v, rfl, h⟩
    rw [← hd] at h
    exact hK _ _ h
theorem consH {P : Program} {md : Region.Mode} {ops : Array Oper} {Q : Exit → Act → World → Prop} {S : World → Prop} {fuel : Nat} {listed : Array Bool} {a : Act} {w : World} {i : Nat} {rs : List Nat} (l' : Array Bool) (hl : listed.setIfInBounds i true = l')
    (h : wpOp P ops Q i (fun a' w' => S w' ∧ wpAnyH P md ops Q S fuel l' a' w') a w) (hs : AllReadyH P md ops Q S fuel listed a w rs) : AllReadyH P md ops Q S fuel listed a w (i :: rs) := by
  subst hl
  intro j hj
  rcases List.mem_cons.1 hj with rfl | hj
  · exact h
  · exact hs j hj
theorem takeH {P : Program} {md : Region.Mode} {ops : Array Oper} {Q : Exit → Act → World → Prop} {S : World → Prop} (d : Nat) {i : Nat} {oi : Oper} {v : Value} {fuel : Nat} {listed : Array Bool} {a : Act} {w : World} (hi : ops[i]? = some oi) (hd : oi.dst = some d)
    (hs : Region.noSelect ops = true) (hf : Region.free md ops listed i = true) (hr : (Region.ready md ops listed).contains i = true)
    (hQ : ∀ c a w, Q (.panic c) (a.put (some d) v) w → Q (.panic c) a w) (hy : YieldsIf P ops S oi v a) (hS : S w)
    (h : wpAnyH P md ops Q S fuel (listed.setIfInBounds i true) (a.put (some d) v) w) : wpAnyH P md ops Q S (fuel + 1) listed a w :=
  wpAnyH_take hi hs hf hr (by rw [hd]; exact hQ) hy hS (by rw [hd]; exact h)
/-- What comes behind one operation, put in the place of the normal exit. -/
def QK (Q : Exit → Act → World → Prop) (K : Act → World → Prop) : Exit → Act → World → Prop
  | .normal => K
  | .exit i => Q (.exit i)
  | .goto l => Q (.goto l)
  | .ret => Q .ret
  | .panic c => Q (.panic c)
  | .outgrown => Q .outgrown
theorem upon_QK {P : Program} {o : Oper} {a : Act} {next : Act → World → Prop} {Q : Exit → Act → World → Prop} {K : Act → World → Prop} (r : Result Next) (h : o.upon P a next (QK Q K) r) : o.upon P a next Q r := by
  cases r with
  | ok n w => cases n <;> exact h
  | halt s w => cases s <;> exact h
/-- A law on a list of one operation serves as a step of a drawn region. -/
theorem hopL {P : Program} {ops : Array Oper} {Q : Exit → Act → World → Prop} {i : Nat} {o : Oper} {K : Act → World → Prop} {a : Act} {w : World} (ho : ops[i]? = some o) (h : wpList P ops (QK Q K) [o] a w) : wpOp P ops Q i K a w := by
  unfold wpOp
  rw [ho]
  unfold wpList at h
  show if Region.wanted o (yielded ops a.tmps) = true then _ else _
  split
  · rename_i hw
    rw [if_pos hw] at h
    rcases h with h | h
    · exact .inl (upon_QK _ h)
    · exact .inr ⟨h.1, h.2⟩
  · rename_i hw
    rw [if_neg hw] at h
    exact h
end Go.Proofs.Ytoehhnildocihaa

namespace Go.Proofs.Ytoehhnildocihaa
open Go.RowKit
set_option linter.unusedVariables false
/-- THE SLICE OF WORDS '.slice ao len cap' READS AS xs. -/
structure Rd4 (w : World) (ao : Option Addr) (len cap : Nat) (xs : List Nat) : Prop where
  length : xs.length = len
  le : len ≤ cap
  max : cap ≤ 1000000
  lt : U4 xs
  nil : ao = none → cap = 0
  cells : len = 0 ∨ ∃ b off, ao = some ⟨b, off, none⟩ ∧ ∀ j, j < len → w.cell? ⟨b, off + j, none⟩ = some (.int .u32 ((xs[j]?.getD 0 : Nat) : Int))
theorem Rd4.later {w w' : World} {ao : Option Addr} {len cap : Nat} {xs : List Nat} (h : Rd4 w ao len cap xs) (hb : Below w.heap.size w w') : Rd4 w' ao len cap xs := by
  refine ⟨h.length, h.le, h.max, h.lt, h.nil, ?_⟩
  rcases h.cells with h0 | ⟨b, off, ha, hc⟩
  · exact .inl h0
  · refine .inr ⟨b, off, ha, fun j hj => ?_⟩
    have hl := World.block_lt_of_cell? w _ (hc j hj)
    rw [hb.cell (p := ⟨b, off + j, none⟩) hl]
    exact hc j hj
theorem Rd4.none (w : World) : Rd4 w none 0 0 [] := ⟨rfl, Nat.le_refl _, by decide, (fun _ h => by cases h), fun _ => rfl, .inl rfl⟩
end Go.Proofs.Ytoehhnildocihaa

namespace Go.Proofs.Ytoehhnildocihaa
open Go.RowKit
set_option linter.unusedVariables false
/-- v is the exact real m 2^e, turned if neg. -/
def NumV (w : World) (v : Value) (neg : Bool) (m : Nat) (e : Int) : Prop := ∃ ao len cap xs, v = .agg #[.bool neg, .slice ao len cap, .int .i64 e] ∧ Rd4 w ao len cap xs ∧ Nm xs ∧ dig xs = m
theorem NumV.later {w w' : World} {v : Value} {neg : Bool} {m : Nat} {e : Int} (h : NumV w v neg m e) (hb : Below w.heap.size w w') : NumV w' v neg m e := by
  obtain ⟨ao, len, cap, xs, h1, h2, h3, h4⟩ := h
  exact ⟨ao, len, cap, xs, h1, h2.later hb, h3, h4⟩
end Go.Proofs.Ytoehhnildocihaa

namespace Go.Proofs.Ytoehhnildocihaa
open Go.RowKit
set_option linter.unusedVariables false
set_option linter.unusedSimpArgs false
theorem info3J {P : Program} {t : TypeId} {z : Value} {s b : Nat} (h : (P.info? t).map (fun i => (i.zero, i.size, i.bytes)) = some (some z, s, b)) : ∃ i, P.info? t = some i ∧ i.zero = some z ∧ i.size = s ∧ i.bytes = b := by
  cases hi : P.info? t with
  | none => simp [hi] at h
  | some i =>
    simp [hi] at h
    exact ⟨i, rfl, h.1, h.2.1, h.2.2⟩
end Go.Proofs.Ytoehhnildocihaa

namespace Go.Proofs.Ytoehhnildocihaa
open Go.RowKit
set_option linter.unusedVariables false
set_option linter.unusedSimpArgs false
theorem wpList_load_rowG {P : Program} {ops : Array Oper} {rest : List Oper} {op : Oper} {a : Act} {w : World} {Q : Exit → Act → World → Prop} (hgd : Region.wanted op (yielded ops a.tmps) = true) (ty : TypeId) (x : Operand) (ho : op.op = .load ty x)
    (B : Nat) (c : Array Value) (hx : a.eval x = .pointer (some ⟨B, 0, none⟩)) (hB : w.heap[B]? = some (.cells c ty)) (d : TypeDesc) (hu : P.underlying ty = some d) (hd : d.isRow = true)
    (n : Nat) (hi : (P.info? ty).map (·.size) = some n) (hn : c.size = n)
    (h : wpList P ops Q rest (a.put op.dst (.agg c)) w) : wpList P ops Q (op :: rest) a w := by
  have hr : w.rangeAt B 0 c.toList := by
    have := World.rangeAt_of_block hB 0 c.size
    simpa using this
  refine wpList_step fun K hK => ?_
  rw [if_pos hgd]
  refine wp_load_mid ty x ho B 0 hx c.toList d hr hu hd (by simpa [hn] using hi) ?_
  refine hK _ _ ?_
  simpa using h
end Go.Proofs.Ytoehhnildocihaa

namespace Go.Proofs.Ytoehhnildocihaa
open Go.RowKit
set_option linter.unusedVariables false
set_option linter.unusedSimpArgs false
theorem owns_slice {w : World} {E : TypeId} {base : Nat} {v : Value} {n : Nat} {xs : List Value} (h : w.ownsRow base E 1 v n xs) : ∃ ao cap, v = .slice ao n cap ∧ n ≤ maxLen ∧ (n = 0 ∨ ∃ g, ao = some ⟨g, 0, none⟩ ∧ ∀ j, j < n → w.cell? ⟨g, j, none⟩ = xs[j]?) := by
  have hs := h
  rcases h.2 with ⟨rfl, rfl⟩ | ⟨g, cap, cur, rfl, hg, hh, h1, h2, h3, h4⟩
  · exact ⟨none, 0, rfl, Nat.zero_le _, .inl rfl⟩
  · exact ⟨_, cap, rfl, Nat.le_trans h1 h2, .inr ⟨g, rfl, fun j hj => World.ownsRow.cellAt hs j (by omega)⟩⟩
end Go.Proofs.Ytoehhnildocihaa

namespace Go.Proofs.Ytoehhnildocihaa
open Go.RowKit
set_option linter.unusedVariables false
set_option linter.unusedSimpArgs false
/-- Whatever order is picked, and S holds behind every operation until the operation s has come up. -/
def wpAnyP (P : Program) (md : Region.Mode) (ops : Array Oper) (Q : Exit → Act → World → Prop) (S : World → Prop) (s : Nat) : Nat → Array Bool → Act → World → Prop
  | 0, listed, a, w => Region.ready md ops listed = [] ∧ Q .normal a w
  | fuel + 1, listed, a, w =>
    (Region.ready md ops listed = [] → Q .normal a w) ∧
    ∀ i ∈ Region.ready md ops listed, wpOp P ops Q i (fun a' w' => ((listed.setIfInBounds i true).getD s true = false → S w') ∧ wpAnyP P md ops Q S s fuel (listed.setIfInBounds i true) a' w') a w
theorem wpAny_of_P {P : Program} {md : Region.Mode} {ops : Array Oper} {Q : Exit → Act → World → Prop} {S : World → Prop} {s : Nat} : ∀ (fuel : Nat) (listed : Array Bool) (a : Act) (w : World), wpAnyP P md ops Q S s fuel listed a w → wpAny P md ops Q fuel listed a w
  | 0, _, _, _, h => h
  | fuel + 1, _, _, _, h => ⟨h.1, fun i hi => wpOp_mono (fun a' w' h' => wpAny_of_P fuel _ a' w' h'.2) (h.2 i hi)⟩
/-- Does s wait for i? -/
def waitsB (md : Region.Mode) (ops : Array Oper) (s i : Nat) : Bool := match ops[s]? with
  | some o => o.after.any (fun e => Region.binds md e && e.on == i)
  | none => false
theorem waitsB_spec {md : Region.Mode} {ops : Array Oper} {s i : Nat} (h : waitsB md ops s i = true) : ∃ os, ops[s]? = some os ∧ ∃ e ∈ os.after, Region.binds md e = true ∧ e.on = i := by
  unfold waitsB at h
  cases ho : ops[s]? with
  | none => rw [ho] at h; cases h
  | some o =>
    rw [ho] at h
    refine ⟨o, rfl, ?_⟩
    simp only [Array.any_eq_true'] at h
    obtain ⟨e, he, h2⟩ := h
    simp only [Bool.and_eq_true, beq_iff_eq] at h2
    exact ⟨e, he, h2.1, h2.2⟩
theorem wpAnyP_first {P : Program} {md : Region.Mode} {ops : Array Oper} {Q : Exit → Act → World → Prop} {S : World → Prop} {s : Nat} {i : Nat} {oi : Oper} {v : Value} (hi : ops[i]? = some oi) (hsel : ∀ (j : Nat) (o : Oper) cs b, ops[j]? = some o → o.op ≠ .select cs b)
    (hQ : ∀ c a w, Q (.panic c) (a.put oi.dst v) w → Q (.panic c) a w) (hne : i ≠ s) (hwt : ∃ os, ops[s]? = some os ∧ ∃ e ∈ os.after, Region.binds md e = true ∧ e.on = i) :
    ∀ (fuel : Nat) (listed : Array Bool) (a : Act) (w : World),
      (∀ j oj, ops[j]? = some oj → j ≠ i → listed.getD j true = false → (∀ e ∈ oj.after, Region.binds md e = true → e.on ≠ i) → oi.apart ops oj = true) →
      i ∈ Region.ready md ops listed → listed.getD s true = false → YieldsIf P ops S oi v a → S w →
      wpAnyP P md ops Q S s fuel (listed.setIfInBounds i true) (a.put oi.dst v) w → wpAnyP P md ops Q S s (fuel + 1) listed a w := by
  intro fuel
  induction fuel with
  | zero =>
    intro listed a w _ hr hu hy hS H
    refine ⟨fun h => (by rw [h] at hr; cases hr), fun j hj => ?_⟩
    by_cases hji : j = i
    · subst hji; exact hy.wpOp hi hS ⟨fun _ => hS, H⟩
    · have := ready_mono hj hji
      rw [H.1] at this
      cases this
  | succ fuel ih =>
    intro listed a w hfree hr hu hy hS H
    refine ⟨fun h => (by rw [h] at hr; cases hr), fun j hj => ?_⟩
    by_cases hji : j = i
    · subst hji; exact hy.wpOp hi hS ⟨fun _ => hS, H⟩
    · have h1 := H.2 j (ready_mono hj hji)
      obtain ⟨hjun, oj, hoj, hall⟩ := mem_ready.1 hj
      have hnot : ∀ e ∈ oj.after, Region.binds md e = true → e.on ≠ i := fun e he hb heq => by
        have h1 := hall e he hb
        have h0 := (mem_ready.1 hr).1
        rw [heq] at h1
        rcases Nat.lt_or_ge i listed.size with h' | h'
        · simp [h'] at h0 h1; rw [h0] at h1; cases h1
        · simp [Array.getElem?_eq_none h'] at h1
      have hjs : j ≠ s := by
        rintro rfl
        obtain ⟨os, ho, e, he, hb, heq⟩ := hwt
        rw [hoj] at ho
        cases ho
        exact hnot e he hb heq
      have hu1 : (listed.setIfInBounds j true).getD s true = false := by rw [getD_set_ne true hjs]; exact hu
      have hu2 : ((listed.setIfInBounds i true).setIfInBounds j true).getD s true = false := by rw [getD_set_ne true hjs, getD_set_ne true hne]; exact hu
      have h2 := wpOp_putIf hoj (hfree j oj hoj hji hjun hnot) (fun cs b => hsel i oi cs b hi) (fun cs b => hsel j oj cs b hoj) hQ hy h1
      have hfree' : ∀ k ok, ops[k]? = some ok → k ≠ i → (listed.setIfInBounds j true).getD k true = false →
          (∀ e ∈ ok.after, Region.binds md e = true → e.on ≠ i) → oi.apart ops ok = true := fun k ok hk hki hun hno => by
        refine hfree k ok hk hki ?_ hno
        by_cases hjk : j = k
        · subst hjk; exact hjun
        · rw [getD_set_ne true hjk] at hun; exact hun
      refine wpOp_mono (fun a' w' h3 => ⟨fun _ => h3.2.1 hu2, ih (listed.setIfInBounds j true) a' w' hfree' (ready_mono hr (Ne.symm hji)) hu1 h3.1 (h3.2.1 hu2) ?_⟩) h2
      rw [Array.setIfInBounds_comm _ _ hji]
      exact h3.2.2
theorem wpAnyP_first0 {P : Program} {md : Region.Mode} {ops : Array Oper} {Q : Exit → Act → World → Prop} {S : World → Prop} {s : Nat} {i : Nat} {oi : Oper} {v : Value} (hi : ops[i]? = some oi) (hsel : ∀ (j : Nat) (o : Oper) cs b, ops[j]? = some o → o.op ≠ .select cs b)
    (hQ : ∀ c a w, Q (.panic c) (a.put oi.dst v) w → Q (.panic c) a w) (hne : i ≠ s) :
    ∀ (fuel : Nat) (listed : Array Bool) (a : Act) (w : World),
      (∀ j oj, ops[j]? = some oj → j ≠ i → listed.getD j true = false → (∀ e ∈ oj.after, Region.binds md e = true → e.on ≠ i) → oi.apart ops oj = true) →
      i ∈ Region.ready md ops listed → YieldsIf P ops (fun _ => True) oi v a → (listed.getD s true = false → S w) →
      wpAnyP P md ops Q S s fuel (listed.setIfInBounds i true) (a.put oi.dst v) w → wpAnyP P md ops Q S s (fuel + 1) listed a w := by
  intro fuel
  induction fuel with
  | zero =>
    intro listed a w _ hr hy hS H
    refine ⟨fun h => (by rw [h] at hr; cases hr), fun j hj => ?_⟩
    by_cases hji : j = i
    · subst hji; exact hy.wpOp hi trivial ⟨fun e => hS (by rw [getD_set_ne true hne] at e; exact e), H⟩
    · have := ready_mono hj hji
      rw [H.1] at this
      cases this
  | succ fuel ih =>
    intro listed a w hfree hr hy hS H
    refine ⟨fun h => (by rw [h] at hr; cases hr), fun j hj => ?_⟩
    by_cases hji : j = i
    · subst hji; exact hy.wpOp hi trivial ⟨fun e => hS (by rw [getD_set_ne true hne] at e; exact e), H⟩
    · have h1 := H.2 j (ready_mono hj hji)
      obtain ⟨hjun, oj, hoj, hall⟩ := mem_ready.1 hj
      have hnot : ∀ e ∈ oj.after, Region.binds md e = true → e.on ≠ i := fun e he hb heq => by
        have h1 := hall e he hb
        have h0 := (mem_ready.1 hr).1
        rw [heq] at h1
        rcases Nat.lt_or_ge i listed.size with h' | h'
        · simp [h'] at h0 h1; rw [h0] at h1; cases h1
        · simp [Array.getElem?_eq_none h'] at h1
      have hu2 : (listed.setIfInBounds j true).getD s true = false → ((listed.setIfInBounds i true).setIfInBounds j true).getD s true = false := by
        rw [Array.setIfInBounds_comm _ _ (Ne.symm hji), getD_set_ne true hne]
        exact fun h => h
      have h2 := wpOp_putIf hoj (hfree j oj hoj hji hjun hnot) (fun cs b => hsel i oi cs b hi) (fun cs b => hsel j oj cs b hoj) hQ hy h1
      have hfree' : ∀ k ok, ops[k]? = some ok → k ≠ i → (listed.setIfInBounds j true).getD k true = false →
          (∀ e ∈ ok.after, Region.binds md e = true → e.on ≠ i) → oi.apart ops ok = true := fun k ok hk hki hun hno => by
        refine hfree k ok hk hki ?_ hno
        by_cases hjk : j = k
        · subst hjk; exact hjun
        · rw [getD_set_ne true hjk] at hun; exact hun
      refine wpOp_mono (fun a' w' h3 => ⟨fun e => h3.2.1 (hu2 e), ih (listed.setIfInBounds j true) a' w' hfree' (ready_mono hr (Ne.symm hji)) h3.1 (fun e => h3.2.1 (hu2 e)) ?_⟩) h2
      rw [Array.setIfInBounds_comm _ _ hji]
      exact h3.2.2
/-- Take number i first: it yields v in whatever world. -/
theorem takeP0 {P : Program} {md : Region.Mode} {ops : Array Oper} {Q : Exit → Act → World → Prop} {S : World → Prop} {s : Nat} (d : Nat) {i : Nat} {oi : Oper} {v : Value} {fuel : Nat} {listed : Array Bool} {a : Act} {w : World} (hi : ops[i]? = some oi) (hd : oi.dst = some d)
    (hs : Region.noSelect ops = true) (hf : Region.free md ops listed i = true) (hr : (Region.ready md ops listed).contains i = true) (hne : (i == s) = false)
    (hQ : ∀ c a w, Q (.panic c) (a.put (some d) v) w → Q (.panic c) a w) (hy : YieldsIf P ops (fun _ => True) oi v a) (hS : listed.getD s true = false → S w)
    (h : wpAnyP P md ops Q S s fuel (listed.setIfInBounds i true) (a.put (some d) v) w) : wpAnyP P md ops Q S s (fuel + 1) listed a w :=
  wpAnyP_first0 hi (Region.noSelect_spec hs) (by rw [hd]; exact hQ) (by simpa using hne) fuel listed a w (Region.free_spec hi hf) (by simpa using hr) hy hS (by rw [hd]; exact h)
/-- Take number i first: it yields v in every world that meets S, and s waits for it. -/
theorem takeP {P : Program} {md : Region.Mode} {ops : Array Oper} {Q : Exit → Act → World → Prop} {S : World → Prop} {s : Nat} (d : Nat) {i : Nat} {oi : Oper} {v : Value} {fuel : Nat} {listed : Array Bool} {a : Act} {w : World} (hi : ops[i]? = some oi) (hd : oi.dst = some d)
    (hs : Region.noSelect ops = true) (hf : Region.free md ops listed i = true) (hr : (Region.ready md ops listed).contains i = true) (hw : waitsB md ops s i = true) (hne : (i == s) = false) (hu : listed.getD s true = false)
    (hQ : ∀ c a w, Q (.panic c) (a.put (some d) v) w → Q (.panic c) a w) (hy : YieldsIf P ops S oi v a) (hS : S w)
    (h : wpAnyP P md ops Q S s fuel (listed.setIfInBounds i true) (a.put (some d) v) w) : wpAnyP P md ops Q S s (fuel + 1) listed a w :=
  wpAnyP_first hi (Region.noSelect_spec hs) (by rw [hd]; exact hQ) (by simpa using hne) (waitsB_spec hw) fuel listed a w (Region.free_spec hi hf) (by simpa using hr) hu hy hS (by rw [hd]; exact h)
def AllReadyP (P : Program) (md : Region.Mode) (ops : Array Oper) (Q : Exit → Act → World → Prop) (S : World → Prop) (s : Nat) (fuel : Nat) (listed : Array Bool) (a : Act) (w : World) (rs : List Nat) : Prop :=
  ∀ i ∈ rs, wpOp P ops Q i (fun a' w' => ((listed.setIfInBounds i true).getD s true = false → S w') ∧ wpAnyP P md ops Q S s fuel (listed.setIfInBounds i true) a' w') a w
theorem AllReadyP.nil {P : Program} {md : Region.Mode} {ops : Array Oper} {Q : Exit → Act → World → Prop} {S : World → Prop} {s : Nat} {fuel : Nat} {listed : Array Bool} {a : Act} {w : World} : AllReadyP P md ops Q S s fuel listed a w [] := fun _ h => by cases h
/-- A step ahead of s: S is shown behind it. -/
theorem consP {P : Program} {md : Region.Mode} {ops : Array Oper} {Q : Exit → Act → World → Prop} {S : World → Prop} {s : Nat} {fuel : Nat} {listed : Array Bool} {a : Act} {w : World} {i : Nat} {rs : List Nat} (l' : Array Bool) (hl : listed.setIfInBounds i true = l')
    (h : wpOp P ops Q i (fun a' w' => S w' ∧ wpAnyP P md ops Q S s fuel l' a' w') a w) (hs : AllReadyP P md ops Q S s fuel listed a w rs) : AllReadyP P md ops Q S s fuel listed a w (i :: rs) := by
  subst hl
  intro j hj
  rcases List.mem_cons.1 hj with rfl | hj
  · exact wpOp_mono (fun a' w' h' => ⟨fun _ => h'.1, h'.2⟩) h
  · exact hs j hj
/-- The step s itself, or one behind it. -/
theorem consPs {P : Program} {md : Region.Mode} {ops : Array Oper} {Q : Exit → Act → World → Prop} {S : World → Prop} {s : Nat} {fuel : Nat} {listed : Array Bool} {a : Act} {w : World} {i : Nat} {rs : List Nat} (l' : Array Bool) (hl : listed.setIfInBounds i true = l') (ht : l'.getD s true = true)
    (h : wpOp P ops Q i (fun a' w' => True ∧ wpAnyP P md ops Q S s fuel l' a' w') a w) (hs : AllReadyP P md ops Q S s fuel listed a w rs) : AllReadyP P md ops Q S s fuel listed a w (i :: rs) := by
  subst hl
  intro j hj
  rcases List.mem_cons.1 hj with rfl | hj
  · exact wpOp_mono (fun a' w' h' => ⟨fun e => (by rw [ht] at e; cases e), h'.2⟩) h
  · exact hs j hj
theorem wpAnyP_ready {P : Program} {md : Region.Mode} {ops : Array Oper} {Q : Exit → Act → World → Prop} {S : World → Prop} {s : Nat} {rs : List Nat} {fuel : Nat} {listed : Array Bool} {a : Act} {w : World} (hr : Region.ready md ops listed = rs) (hne : rs ≠ [])
    (h : AllReadyP P md ops Q S s fuel listed a w rs) : wpAnyP P md ops Q S s (fuel + 1) listed a w := ⟨fun h0 => absurd (hr ▸ h0) hne, hr ▸ h⟩
theorem wpAnyP_done {P : Program} {md : Region.Mode} {ops : Array Oper} {Q : Exit → Act → World → Prop} {S : World → Prop} {s : Nat} {listed : Array Bool} {a : Act} {w : World} (hr : Region.ready md ops listed = []) (h : Q .normal a w) : ∀ fuel, wpAnyP P md ops Q S s fuel listed a w
  | 0 => ⟨hr, h⟩
  | _ + 1 => ⟨fun _ => h, by rw [hr]; simp⟩
theorem wp_region_P {id : Nat} {P : Program} {ops : Array Oper} {Q : Exit → Act → World → Prop} {a : Act} {w : World} (S : World → Prop) (s : Nat) (hm : P.follows .mixedOrders = true)
    (h : wpAnyP P .any ops Q S s ops.size (Array.replicate ops.size false) a w.drew) : (Code.region id ops true).wp P Q a w := wp_region_any hm (wpAny_of_P _ _ _ _ h)
end Go.Proofs.Ytoehhnildocihaa

namespace Go.Proofs.Ytoehhnildocihaa
open Go.RowKit
set_option linter.unusedVariables false
set_option linter.unusedSimpArgs false
theorem Try.infoIM : (Try.prog.info? 3).map (fun i => (i.zero, i.size, i.bytes)) = some (some (.int .i64 0), 1, 8) := by kernel_rfl
theorem Try.szIM : (Try.prog.info? 3).map (·.size) = some 1 := by kernel_rfl
/-- The cells of a row of ints. -/
def inC (is : List Int) : Array Value := (is.map fun x => Value.int .i64 x).toArray
theorem inC_size (is : List Int) : (inC is).size = is.length := by unfold inC; simp
theorem inC_at (is : List Int) (j : Nat) (h : j < is.length) : (inC is)[j]? = some (.int .i64 (is[j]?.getD 0)) := by
  unfold inC
  rw [List.getElem?_toArray, List.getElem?_map, List.getElem?_eq_getElem h]
  rfl
theorem inC_set (is : List Int) (j : Nat) (x : Int) (h : j < is.length) : ((inC is).toList.take j ++ (Value.int .i64 x).cells.toList ++ (inC is).toList.drop (j + 1)).toArray = inC (is.set j x) := by
  have hc : (Value.int .i64 x).cells.toList = [.int .i64 x] := rfl
  rw [hc]
  unfold inC
  congr 1
  show (List.map _ is).take j ++ [_] ++ (List.map _ is).drop (j + 1) = _
  rw [List.map_set, List.set_eq_take_append_cons_drop, if_pos (by rw [List.length_map]; exact h), List.append_assoc]
  rfl
theorem inC_zero (n : Nat) : madeCells #[.int .i64 0] n = inC (List.replicate n 0) := by
  apply Array.ext_getElem?
  intro j
  by_cases h : j < n
  · rw [inC_at _ j (by simpa using h)]
    unfold madeCells
    simp [h, Nat.mod_one]
  · rw [Array.getElem?_eq_none (by unfold madeCells; simp; omega), Array.getElem?_eq_none (by rw [inC_size]; simp; omega)]
theorem inC_rd {W : World} {B : Nat} {is : List Int} (h : W.heap[B]? = some (.cells (inC is) 3)) (hm : is.length ≤ maxLen) : RdIs W (some ⟨B, 0, none⟩) is.length is.length is :=
  ⟨rfl, hm, .inr ⟨B, 0, rfl, fun j hj => by rw [Nat.zero_add]; exact cellAtJ h j _ (inC_at is j hj)⟩⟩
theorem makeIM (n : Nat) (hn : n ≤ 4000000) (w : World) :
    (Instr.makeSlice 23 (.int .i64 (n : Int)) (.int .i64 (n : Int))).run Try.prog w = .ok (.slice (some ⟨w.heap.size, 0, none⟩) n n) (w.alloc (.cells (inC (List.replicate n 0)) 3)) := by
  obtain ⟨i0, hi, hz0, hz1, hz2⟩ := info3J Try.infoIM
  have h := run_makeSlice (P := Try.prog) w 23 3 i0 (.int .i64 0) Try.underlying23 hi hz0 .i64 .i64 (n : Int) (n : Int) (by omega) (by omega) (by rw [hz1, Int.toNat_natCast]; omega) (by rw [hz2]; omega) (by omega)
  rw [Int.toNat_natCast, hz1, Nat.mul_one] at h
  rw [← inC_zero]
  exact h
theorem one_inM (x : Int) : ∀ u ∈ (Value.int .i64 x).cells.toList, u.oneCell' = true := by
  intro u hu
  have : u = .int .i64 x := by simpa [Value.cells] using hu
  rw [this]; rfl
set_option maxRecDepth 100000 in
set_option maxHeartbeats 1000000 in
theorem sameIntsM_any (ao bo : Option Addr) (n m c d : Nat) (is js : List Int) (w : World) (h : RdIs w ao n c is) (k : RdIs w bo m d js) :
    Calls Try.prog 23 #[.slice ao n c, .slice bo m d] w fun e w' => e = .returned (.bool (decide (is = js))) ∧ Below w.heap.size w w' := by
  have HR : Hid (∀ W', Below w.heap.size w W' → RdIs W' ao n c is ∧ RdIs W' bo m d js) := fun W' hb => ⟨h.later hb, k.later hb⟩
  have hm1 := Nat.le_trans h.max maxLen_le
  have hm2 := Nat.le_trans k.max maxLen_le
  have HL : Hid (is.length = n ∧ js.length = m) := ⟨h.length, k.length⟩
  clear h k
  by_cases hn : n = m
  · subst hn
    have hb : ((n : Int) != (n : Int)) = false := by simp
    go_enter Try.func23, Try.ntmps23
    go_wp2_with fail
    go_loopg [5] n (fun g iv wx => ∃ k : Nat, iv = .int .i64 k ∧ k + g = n ∧ Hid (Below w.heap.size w wx) ∧ Hid (is.take k = js.take k))
    case atStart => exact ⟨0, rfl, by omega, Below.refl _ _, rfl⟩
    case round =>
      obtain ⟨k, rfl, hk, HB, HI⟩ := hrel
      by_cases h1 : k < n
      · have hd1 : decide ((k : Int) < (n : Int)) = true := decide_eq_true (by omega)
        obtain ⟨q, rfl⟩ : ∃ q, gk = q + 1 := ⟨gk - 1, by omega⟩
        have HIG : Hid (k + (q + 1) = n) := hk
        have h1' : (k : Int) < (n : Int) := by omega
        clear hk
        obtain ⟨r1, r2⟩ := HR.out wr HB.out
        rcases r1.cells with h0 | ⟨ab, aoff, rfl, hca⟩
        · omega
        rcases r2.cells with h0 | ⟨bb, boff, rfl, hcb⟩
        · omega
        have ga := hca k h1
        have gb := hcb k h1
        have HK1 : Hid (is.take (k + 1) = is.take k ++ [is[k]?.getD 0] ∧ js.take (k + 1) = js.take k ++ [js[k]?.getD 0] ∧ (is[k]?.getD 0 ≠ js[k]?.getD 0 → is ≠ js)) := by
          have e1 : k < is.length := by rw [HL.out.1]; exact h1
          have e2 : k < js.length := by rw [HL.out.2]; exact h1
          refine ⟨by rw [List.take_succ_eq_append_getElem e1, List.getElem?_eq_getElem e1]; rfl, by rw [List.take_succ_eq_append_getElem e2, List.getElem?_eq_getElem e2]; rfl, fun hne e => hne (by rw [e])⟩
        obtain ⟨x, hx⟩ : ∃ x, is[k]?.getD 0 = x := ⟨_, rfl⟩
        obtain ⟨y, hy⟩ : ∃ y, js[k]?.getD 0 = y := ⟨_, rfl⟩
        rw [hx] at ga HK1
        rw [hy] at gb HK1
        clear hca hcb hx hy r1 r2
        go_upto_region 6 with fail
        have hS : (fun V => V.cell? ⟨ab, aoff + k, none⟩ = some (.int .i64 x) ∧ V.cell? ⟨bb, boff + k, none⟩ = some (.int .i64 y)) wr.drew := ⟨ga, gb⟩
        refine wp_region_noPanic ?_
        refine wp_region_held_drew (S := (fun V => V.cell? ⟨ab, aoff + k, none⟩ = some (.int .i64 x) ∧ V.cell? ⟨bb, boff + k, none⟩ = some (.int .i64 y))) (by kernel_rfl) hS (fun _ => ?_)
        refine takeH 17 (i := 0) (v := ?_) rfl rfl (by kernel_rfl) (by kernel_rfl) (by kernel_rfl) (fun _ _ _ h => h) (Or.inl ⟨by kernel_rfl, ?_⟩) hS ?_
        rotate_left
        · intro w' hSw; obtain ⟨s0, s1⟩ := hSw; go_simp; try with_reducible rfl
        try simp only [Act.put, List.setIfInBounds_toArray, List.set_cons_zero, List.set_cons_succ]
        refine takeH 18 (i := 1) (v := ?_) rfl rfl (by kernel_rfl) (by kernel_rfl) (by kernel_rfl) (fun _ _ _ h => h) (Or.inl ⟨by kernel_rfl, ?_⟩) hS ?_
        rotate_left
        · intro w' hSw; obtain ⟨s0, s1⟩ := hSw; go_simp; try with_reducible rfl
        try simp only [Act.put, List.setIfInBounds_toArray, List.set_cons_zero, List.set_cons_succ]
        refine takeH 19 (i := 2) (v := ?_) rfl rfl (by kernel_rfl) (by kernel_rfl) (by kernel_rfl) (fun _ _ _ h => h) (Or.inl ⟨by kernel_rfl, ?_⟩) hS ?_
        rotate_left
        · intro w' hSw; obtain ⟨s0, s1⟩ := hSw; go_simp; try with_reducible rfl
        try simp only [Act.put, List.setIfInBounds_toArray, List.set_cons_zero, List.set_cons_succ]
        refine takeH 20 (i := 3) (v := ?_) rfl rfl (by kernel_rfl) (by kernel_rfl) (by kernel_rfl) (fun _ _ _ h => h) (Or.inl ⟨by kernel_rfl, ?_⟩) hS ?_
        rotate_left
        · intro w' hSw; obtain ⟨s0, s1⟩ := hSw; go_simp; try with_reducible rfl
        try simp only [Act.put, List.setIfInBounds_toArray, List.set_cons_zero, List.set_cons_succ]
        refine takeH 21 (i := 4) (v := ?_) rfl rfl (by kernel_rfl) (by kernel_rfl) (by kernel_rfl) (fun _ _ _ h => h) (Or.inl ⟨by kernel_rfl, ?_⟩) hS ?_
        rotate_left
        · intro w' hSw; obtain ⟨s0, s1⟩ := hSw; go_simp; try with_reducible rfl
        try simp only [Act.put, List.setIfInBounds_toArray, List.set_cons_zero, List.set_cons_succ]
        refine takeH 22 (i := 5) (v := ?_) rfl rfl (by kernel_rfl) (by kernel_rfl) (by kernel_rfl) (fun _ _ _ h => h) (Or.inl ⟨by kernel_rfl, ?_⟩) hS ?_
        rotate_left
        · intro w' hSw; obtain ⟨s0, s1⟩ := hSw; go_simp; try with_reducible rfl
        try simp only [Act.put, List.setIfInBounds_toArray, List.set_cons_zero, List.set_cons_succ]
        refine takeH 23 (i := 6) (v := ?_) rfl rfl (by kernel_rfl) (by kernel_rfl) (by kernel_rfl) (fun _ _ _ h => h) (Or.inl ⟨by kernel_rfl, ?_⟩) hS ?_
        rotate_left
        · intro w' hSw; obtain ⟨s0, s1⟩ := hSw; go_simp; try with_reducible rfl
        try simp only [Act.put, List.setIfInBounds_toArray, List.set_cons_zero, List.set_cons_succ]
        refine takeH 24 (i := 7) (v := ?_) rfl rfl (by kernel_rfl) (by kernel_rfl) (by kernel_rfl) (fun _ _ _ h => h) (Or.inl ⟨by kernel_rfl, ?_⟩) hS ?_
        rotate_left
        · intro w' hSw; obtain ⟨s0, s1⟩ := hSw; go_simp; try with_reducible rfl
        try simp only [Act.put, List.setIfInBounds_toArray, List.set_cons_zero, List.set_cons_succ]
        refine takeH 25 (i := 8) (v := ?_) rfl rfl (by kernel_rfl) (by kernel_rfl) (by kernel_rfl) (fun _ _ _ h => h) (Or.inl ⟨by kernel_rfl, ?_⟩) hS ?_
        rotate_left
        · intro w' hSw; obtain ⟨s0, s1⟩ := hSw; go_simp; try with_reducible rfl
        try simp only [Act.put, List.setIfInBounds_toArray, List.set_cons_zero, List.set_cons_succ]
        refine wpAnyH_done (by kernel_rfl) ?_ _
        refine NoPanic.normal ?_
        try simp only [Act.put, List.setIfInBounds_toArray, List.set_cons_zero, List.set_cons_succ]
        have HB2 : Hid (Below w.heap.size w wr.drew) := HB.out.drew
        by_cases hxy : x = y
        · have hd2 : (x != y) = false := by simp [hxy]
          have hd3 : (x == y) = true := by simp [hxy]
          have HI2 : Hid (is.take (k + 1) = js.take (k + 1)) := by unfold Hid; rw [HK1.out.1, HK1.out.2.1, HI.out, hxy]
          subst hxy
          clear hS ga gb
          go_wp2_with fail
          go_roundg q
          case measure => omega
          case rel => exact ⟨k + 1, by go_num, by have := HIG.out; omega, HB2, HI2⟩
        · have hd2 : (x != y) = true := by simpa using hxy
          have hd3 : (x == y) = false := by simpa using hxy
          have HN : Hid (decide (is = js) = false) := decide_eq_false (HK1.out.2.2 hxy)
          clear hS ga gb hxy
          go_wp2_with fail
          go_ret
          exact ⟨by rw [HN.out]; rfl, HB2.out⟩
      · have hd1 : decide ((k : Int) < (n : Int)) = false := decide_eq_false (by omega)
        have hd2 : decide (k < n) = false := decide_eq_false (by omega)
        have HN : Hid (decide (is = js) = true) := by
          have h9 := HI.out
          rw [List.take_of_length_le (by rw [HL.out.1]; omega), List.take_of_length_le (by rw [HL.out.2]; omega)] at h9
          exact decide_eq_true h9
        go_wp2_with fail
        go_ret
        exact ⟨by rw [HN.out]; rfl, HB.out⟩
  · have hb : ((n : Int) != (m : Int)) = true := by simp; omega
    have hb2 : ((n : Int) == (m : Int)) = false := by simp; omega
    have HN : Hid (decide (is = js) = false) := decide_eq_false (fun e => hn (by rw [← HL.out.1, ← HL.out.2, e]))
    clear hn
    go_enter Try.func23, Try.ntmps23
    go_wp2_with fail
    go_ret
    exact ⟨by rw [HN.out]; rfl, Below.refl _ _⟩
end Go.Proofs.Ytoehhnildocihaa

namespace Go.Proofs.Ytoehhnildocihaa
open Go.RowKit
set_option linter.unusedVariables false
/-- A number whose nought has no power. -/
def NumC (w : World) (v : Value) (s : Nat) (T : Int) (z : Int) : Prop := ∃ neg m e, NumV w v neg m e ∧ -(s : Int) ≤ e ∧ (bl m : Int) + e ≤ T ∧ zv s neg m e = z ∧ (m = 0 → e = 0)
theorem NumC.later {w w' : World} {v : Value} {s : Nat} {T z : Int} (h : NumC w v s T z) (hb : Below w.heap.size w w') : NumC w' v s T z := by
  obtain ⟨neg, m, e, h1, h2⟩ := h
  exact ⟨neg, m, e, h1.later hb, h2⟩
theorem NumC.mono {w : World} {v : Value} {s : Nat} {T T' z : Int} (h : NumC w v s T z) (hT : T ≤ T') : NumC w v s T' z := by
  obtain ⟨neg, m, e, h1, h2, h3, h4⟩ := h
  exact ⟨neg, m, e, h1, h2, by omega, h4⟩
theorem NumC.size {w : World} {nb : Bool} {ao : Option Addr} {len cap : Nat} {e : Int} {s : Nat} {T z : Int} (h : NumC w (.agg #[.bool nb, .slice ao len cap, .int .i64 e]) s T z) : NumC w (.agg #[.bool false, .slice ao len cap, .int .i64 e]) s T (z.natAbs : Int) := by
  obtain ⟨neg, m, e', ⟨a, l, c, xs, h1, h2, h3, h4⟩, h5, h6, h7, h8⟩ := h
  cases h1
  refine ⟨false, m, e, ⟨ao, len, cap, xs, rfl, h2, h3, h4⟩, h5, h6, ?_, h8⟩
  rw [← h7, zv_abs]; unfold zv sv
  simp only [Bool.false_eq_true, if_false]
  rw [Int.natCast_mul]
end Go.Proofs.Ytoehhnildocihaa

namespace Go.Proofs.Ytoehhnildocihaa
open Go.RowKit
set_option linter.unusedVariables false
set_option linter.unusedSimpArgs false
theorem take_snocJ {us : List Nat} {k : Nat} (h : k < us.length) : us.take (k + 1) = us.take k ++ [us[k]?.getD 0] := by
  rw [List.take_succ_eq_append_getElem h, List.getElem?_eq_getElem h]; rfl
end Go.Proofs.Ytoehhnildocihaa

namespace Go.Proofs.Ytoehhnildocihaa
open Go.RowKit
set_option linter.unusedVariables false
set_option linter.unusedSimpArgs false
theorem range_later {w w' : World} {b o : Nat} {cs : List Value} (h : w.rangeAt b o cs) (hb : Below w.heap.size w w') : w'.rangeAt b o cs := fun j v hv => (hb.cell (World.block_lt_of_cell? _ _ (h j v hv))).trans (h j v hv)
end Go.Proofs.Ytoehhnildocihaa

namespace Go.Proofs.Ytoehhnildocihaa
open Go.RowKit
set_option linter.unusedVariables false
set_option linter.unusedSimpArgs false
theorem oneN (n : Bool) (o : Option Addr) (l c : Nat) (e : Int) : (#[.bool n, .slice o l c, .int .i64 e] : Array Value).all (·.oneCell') = true := by
  simp only [Array.all_eq_true_iff_forall_mem]
  intro v hv
  simp only [List.mem_toArray, List.mem_cons, List.not_mem_nil, or_false] at hv
  rcases hv with rfl | rfl | rfl <;> rfl
end Go.Proofs.Ytoehhnildocihaa

namespace Go.Proofs.Ytoehhnildocihaa
open Go.RowKit
set_option linter.unusedVariables false
set_option linter.unusedSimpArgs false
theorem oneC {w : World} {v : Value} {E : Nat} (hE : E = 1074) (h : NumV w v (decide ((1 : Int) < 0)) (1 : Int).natAbs 0) : NumC w v E 1024 ((2 ^ E : Nat) : Int) := by
  refine ⟨_, _, _, h, by omega, ?_, ?_, fun c => by cases c⟩
  · have := bl_le_of_lt (m := (1 : Int).natAbs) (k := 1) (by decide)
    omega
  · unfold zv sv
    simp
theorem cell_later {w w' : World} {a : Addr} {v : Value} (h : w.cell? a = some v) (hb : Below w.heap.size w w') : w'.cell? a = some v := (hb.cell (World.block_lt_of_cell? _ _ h)).trans h
end Go.Proofs.Ytoehhnildocihaa

namespace Go.Proofs.Ytoehhnildocihaa
open Go.RowKit
set_option linter.unusedVariables false
end Go.Proofs.Ytoehhnildocihaa

namespace Go.Proofs.Ytoehhnildocihaa
open Go.ChangeShapes Go.WideShapes Go.ChangeAt Go.RowKit Go.Joins Go.Deep
set_option linter.unusedVariables false
section
variable {H : Type} {enc : TypeId × Value → H} {P : Program} {w : World} {base : Nat} {spare : Nat → Bool} {held : Bool}
end
theorem bulkJ_one {H : Type} (d : DataW H) : 1 ≤ Rows.uptoBulk d := by
  cases d with
  | lit l => cases l <;> simp [Rows.uptoBulk]
  | nil => simp [Rows.uptoBulk]
  | ptr d => simp [Rows.uptoBulk]
  | slice elems spare => simp [Rows.uptoBulk]
  | agg parts => simp [Rows.uptoBulk]
  | iface t d => simp [Rows.uptoBulk]
  | map entries => simp [Rows.uptoBulk]
  | held h => simp [Rows.uptoBulk]
theorem bulkJ_len {H : Type} (l : List (DataW H)) : l.length ≤ Rows.uptoBulkAll l := by
  induction l with
  | nil => simp [Rows.uptoBulkAll]
  | cons x r ih => have := bulkJ_one x; simp only [Rows.uptoBulkAll, List.length_cons]; omega
theorem bulkJ_mem {H : Type} (l : List (DataW H)) {d : DataW H} (h : d ∈ l) : Rows.uptoBulk d ≤ Rows.uptoBulkAll l := by
  induction l with
  | nil => cases h
  | cons x r ih =>
    simp only [Rows.uptoBulkAll]
    rcases List.mem_cons.1 h with rfl | h
    · omega
    · have := ih h; omega
theorem bulkJ_slice {H : Type} (l s : List (DataW H)) : l.length ≤ Rows.uptoBulk (.slice l s) ∧ ∀ d ∈ l, Rows.uptoBulk d ≤ Rows.uptoBulk (.slice l s) := by
  rw [Rows.uptoBulk]
  refine ⟨by have := bulkJ_len l; omega, fun d hd => by have := bulkJ_mem l hd; omega⟩
def inOfJ : Value → Int
  | .int _ u => u
  | _ => 0
end Go.Proofs.Ytoehhnildocihaa

namespace Go.Proofs.Ytoehhnildocihaa
open Go.ChangeShapes Go.WideShapes Go.ChangeAt Go.RowKit Go.Joins Go.Deep
set_option linter.unusedVariables false
theorem intsB_open {P : Program} {H : Type} {enc : TypeId × Value → H} {W : World} {T E : TypeId} {fuel : Nat} {cs : List Value} {x : DataW H × List MemPlace}
    (hT : P.underlying T = some (.slice E)) (hE : P.underlying E = some (.int .i64)) (hc : P.cellsOf E = 1) (h : DataW.trod enc P W 0 (fun _ => true) true fuel T cs = some x) :
    ∃ ao len cap is, cs = [.slice ao len cap] ∧ RdIs W ao len cap is ∧ (ao = none → len = 0 ∧ cap = 0) ∧ len ≤ Rows.uptoBulk x.1 ∧ (∀ i ∈ is, -9223372036854775808 ≤ i ∧ i ≤ 9223372036854775807) := by
  rcases open_slice1 hT hc h with ⟨hcs, _⟩ | ⟨a, len, cap, m, n, V, D, Pl, hcs, _, hl, hm, hmm, hxx, hx⟩
  · exact ⟨none, 0, 0, [], hcs, ⟨rfl, Nat.zero_le _, .inl rfl⟩, fun _ => ⟨rfl, rfl⟩, Nat.zero_le _, fun i hi => (by cases hi)⟩
  · simp only [if_true] at hmm
    subst hmm
    have hv : ∀ i, i < m → ∃ u, V i = .int .i64 u := by
      intro i hi
      obtain ⟨u, hu, _, _⟩ := DataW.trod_int hE (hx i hi).2
      simp only [List.cons.injEq, and_true] at hu
      exact ⟨u, hu⟩
    have hbk : len ≤ Rows.uptoBulk x.1 := by
      rw [hxx]
      have := (bulkJ_slice ((List.range len).map D) ((List.range (m - len)).map fun j => D (len + j))).1
      rw [List.length_map, List.length_range] at this
      exact this
    have hbd : ∀ i ∈ (List.range len).map fun i => inOfJ (V i), -9223372036854775808 ≤ i ∧ i ≤ 9223372036854775807 := by
      intro i hi
      obtain ⟨k, hk, rfl⟩ := List.mem_map.1 hi
      have hk' : k < len := List.mem_range.1 hk
      obtain ⟨u, hu, _, hwf⟩ := DataW.trod_int hE (hx k (by omega)).2
      simp only [List.cons.injEq, and_true] at hu
      rw [hu]
      have h2 : (decide ((-9223372036854775808 : Int) ≤ u) && decide (u ≤ 9223372036854775807)) = true := hwf
      simpa [inOfJ] using h2
    refine ⟨some a, len, m, (List.range len).map fun i => inOfJ (V i), hcs, ⟨by simp, Nat.le_trans hl hm, ?_⟩, (fun h => by cases h), hbk, hbd⟩
    by_cases h0 : len = 0
    · exact .inl h0
    · right
      obtain ⟨b, off, spot⟩ := a
      have hspot : spot = none := by simpa [Addr.add] using World.cell?_spot (hx 0 (by omega)).1
      subst hspot
      refine ⟨b, off, rfl, fun j hj => ?_⟩
      have g := (hx j (by omega)).1
      obtain ⟨y, hy⟩ := hv j (by omega)
      rw [Addr.add_lit, hy] at g
      rw [g]
      simp [hj, hy, inOfJ]
end Go.Proofs.Ytoehhnildocihaa

namespace Go.Proofs.Ytoehhnildocihaa
open Go.RowKit
set_option linter.unusedVariables false
set_option linter.unusedSimpArgs false
theorem ex_makeT {P : Program} {ρ : Operand → Value} (o : Oper) (t : TypeId) (x y : Operand) (ho : o.op = .makeSlice t x y) (u1 u2 : Value) (hx : ρ x = u1) (hy : ρ y = u2) (v : Value) (w w' : World) (h : (Instr.makeSlice t u1 u2).run P w = .ok v w') : (execOp ρ o).run P w = .ok (.value v) w' := by
  unfold execOp
  simp only [ho, hx, hy, h, Sem.run_bind, Sem.run_pure, Result.andThen_ok]
/-- A made slice, as a step of a drawn region. -/
theorem hopMT {P : Program} {ops : Array Oper} {Q : Exit → Act → World → Prop} {i : Nat} {o : Oper} {K : Act → World → Prop} {a : Act} {w : World} (d : Nat) (ho : ops[i]? = some o) (hg : o.guard = none) (hd : o.dst = some d) (t te : TypeId) (x y : Operand) (n : Nat) (hop : o.op = .makeSlice t x y) (hx : a.eval x = .int .i64 (n : Int)) (hy : a.eval y = .int .i64 (n : Int)) (z : Array Value)
    (hz : ∀ w, (Instr.makeSlice t (.int .i64 (n : Int)) (.int .i64 (n : Int))).run P w = .ok (.slice (some ⟨w.heap.size, 0, none⟩) n n) (w.alloc (.cells z te)))
    (h : ∀ D W', W'.heap[D]? = some (.cells z te) → w.heap.size ≤ D → Below w.heap.size w W' → K (a.put (some d) (.slice (some ⟨D, 0, none⟩) n n)) W') : wpOp P ops Q i K a w :=
  hopV d ho hg hd (ex_makeT _ t x y hop _ _ hx hy _ _ _ (hz w)) (h _ _ (heap_alloc_new w _) (Nat.le_refl _) ((Below.refl _ w).alloc (Nat.le_refl _) _))
theorem setP_cells {c : Array Value} {k : Nat} {v : Value} (hk : k < c.size) (hv : v.cells.toList = [v]) : ∃ d : Array Value, (c.toList.take k ++ v.cells.toList ++ c.toList.drop (k + 1)).toArray = d ∧ d.size = c.size ∧ d[k]? = some v ∧ ∀ j, j ≠ k → d[j]? = c[j]? := by
  refine ⟨_, rfl, ?_, ?_, fun j hj => ?_⟩
  · rw [hv]; simp; omega
  · rw [hv]
    simp only [List.getElem?_toArray]
    rw [List.getElem?_append_left (by simp; omega), List.getElem?_append_right (by simp; omega)]
    have h3 : min k c.size = k := by omega
    simp [h3]
  · rw [hv]
    simp only [List.getElem?_toArray]
    by_cases h1 : j < k
    · rw [List.append_assoc, List.getElem?_append_left (by simp; omega), List.getElem?_take_of_lt h1, Array.getElem?_toList]
    · have hlen : (c.toList.take k ++ [v]).length = k + 1 := by simp; omega
      rw [List.getElem?_append_right (by omega), hlen, List.getElem?_drop, show k + 1 + (j - (k + 1)) = j by omega, Array.getElem?_toList]
end Go.Proofs.Ytoehhnildocihaa
