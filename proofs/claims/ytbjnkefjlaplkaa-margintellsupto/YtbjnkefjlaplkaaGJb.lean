import Derived.Test.YtbjnkefjlaplkaaGJa
import Derived.Test.YtbjnkefjlaplkaaMY
import Derived.Laws.MakeOwn
namespace Go.Proofs.Ytbjnkefjlaplkaa
open Go.RowKit
set_option linter.unusedVariables false
set_option linter.unusedSimpArgs false

end Go.Proofs.Ytbjnkefjlaplkaa


namespace Go.Proofs.Ytbjnkefjlaplkaa
open Go.RowKit Go.Shelf
set_option linter.unusedVariables false
set_option linter.unusedSimpArgs false
attribute [local go_sem] Oper.semAt_some

theorem res_tmp2J (f : Func) (i j : Nat) (hf : f.results = #[ResultVar.tmp i, ResultVar.tmp j]) (tmps : Array Value) (W : World) (a b : Value) (h1 : tmps[i]? = some a) (h2 : tmps[j]? = some b) : (results f tmps).run Try.prog W = .ok (.tuple #[a, b]) W := by
  simp [results, hf, h1, h2]
theorem frung_ltJ {u : Nat} (h : u < 18446744073709551616) : frung u < 18446744073709551616 := by unfold frung; omega
end Go.Proofs.Ytbjnkefjlaplkaa


namespace Go.Proofs.Ytbjnkefjlaplkaa
open Go.RowKit
set_option linter.unusedVariables false
set_option linter.unusedSimpArgs false

theorem info3J {P : Program} {t : TypeId} {z : Value} {s b : Nat} (h : (P.info? t).map (fun i => (i.zero, i.size, i.bytes)) = some (some z, s, b)) : ∃ i, P.info? t = some i ∧ i.zero = some z ∧ i.size = s ∧ i.bytes = b := by
  cases hi : P.info? t with
  | none => simp [hi] at h
  | some i =>
    simp [hi] at h
    exact ⟨i, rfl, h.1, h.2.1, h.2.2⟩
theorem Try.infoFJ : (Try.prog.info? 33).map (fun i => (i.zero, i.size, i.bytes)) = some (some (.float .f64 0), 1, 8) := by kernel_rfl
def flN (n : Nat) : Array Value := madeCells #[.float .f64 0] n
theorem makeFJ (n : Nat) (hn : n ≤ 1000000) (w : World) :
    (Instr.makeSlice 22 (.int .i64 (n : Int)) (.int .i64 (n : Int))).run Try.prog w = .ok (.slice (some ⟨w.heap.size, 0, none⟩) n n) (w.alloc (.cells (flN n) 33)) := by
  obtain ⟨i0, hi, hz0, hz1, hz2⟩ := info3J Try.infoFJ
  have h := run_makeSlice (P := Try.prog) w 22 33 i0 (.float .f64 0) Try.underlying22 hi hz0 .i64 .i64 (n : Int) (n : Int) (by omega) (by omega) (by rw [hz1, Int.toNat_natCast]; omega) (by rw [hz2]; omega) (by omega)
  rw [Int.toNat_natCast, hz1, Nat.mul_one] at h
  exact h
def accB (us : List Nat) (j : Nat) : Option Int := prodO (some 0) (us[j]?.getD 0) 4607182418800017408 0
end Go.Proofs.Ytbjnkefjlaplkaa


namespace Go.Proofs.Ytbjnkefjlaplkaa
open Go.RowKit
set_option linter.unusedVariables false
set_option linter.unusedSimpArgs false

/-- The first k Accs, with the sizes of their numbers. -/
def addJ (us : List Nat) (os : Nat → Option Int) (k j : Nat) : Option Int := if j < k then prodO (os j) (frung (us[j]?.getD 0)) 4607182418800017408 0 else os j
end Go.Proofs.Ytbjnkefjlaplkaa


namespace Go.Proofs.Ytbjnkefjlaplkaa
open Go.RowKit Go.Shelf
set_option linter.unusedVariables false
set_option linter.unusedSimpArgs false
attribute [local go_sem] Oper.semAt_some

/-- How far each coordinate goes, exact. -/
def farC (z : ZD) (len : Nat) (os : Nat → Option Int) (pre : List (_root_.Fin z.dn)) : Nat → Option Int := pre.foldl (fun os k => addJ (z.gs[k.val]?.getD []) os len) os
def farZ (z : ZD) : Nat → Option Int := farC z z.rn (accB z.rs) (List.finRange z.dn)
end Go.Proofs.Ytbjnkefjlaplkaa

