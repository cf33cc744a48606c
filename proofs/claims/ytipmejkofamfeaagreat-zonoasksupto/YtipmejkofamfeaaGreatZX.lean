import Derived.Test.YtipmejkofamfeaaGreatMS
import Derived.Laws.StructEq
namespace Go.Proofs.YtipmejkofamfeaaGreat
open Go.RowKit
set_option linter.unusedVariables false

theorem fields_sp : (Tryz.prog.fieldsOf 67).toList.map (fun f => (f.name == "_", f.type, f.offset)) = [(false, 36, 0), (false, 36, 1), (false, 4, 2)] := by kernel_rfl
theorem ord_self {x : Nat} (hx : Fin x) : (FloatKind.f64.format.order x x == some .eq) = true := by
  rw [f64_fmt, ord_eq (Nat.le_of_lt hx) (Nat.le_of_lt hx)]; exact decide_eq_true rfl
theorem equalIn_f {P : Program} (w : World) (d : Nat) (t : TypeId) (k k' : FloatKind) (a b : Nat) (h : P.underlying t = some (.float k')) : (Op.equalIn (d + 1) t (.float k a) (.float k b)).run P w = .ok (Op.floatEq k a b) w := by
  simp [Op.equalIn, run_underlying h]
theorem eq_same {x y : Nat} (hx : Fin x) (hy : Fin y) (b : Bool) (w : World) : (Op.equalIn 10000 67 (.agg #[.float .f64 x, .float .f64 y, .bool b]) (.agg #[.float .f64 x, .float .f64 y, .bool b])).run Tryz.prog w = .ok true w := by
  have h1 := run_equalIn_struct (P := Tryz.prog) w 9999 67 #[.float .f64 x, .float .f64 y, .bool b] #[.float .f64 x, .float .f64 y, .bool b] (by kernel_rfl) (by kernel_rfl)
  rw [h1]
  have hf := fields_sp
  generalize (Tryz.prog.fieldsOf 67).toList = fs at hf ⊢
  have hl : fs.length = 3 := by have := congrArg List.length hf; simpa using this
  match fs, hl, hf with
  | [f0, f1, f2], _, hf =>
    simp only [List.map_cons, List.map_nil, List.cons.injEq, Prod.mk.injEq, and_true] at hf
    obtain ⟨⟨n0, t0, o0⟩, ⟨n1, t1, o1⟩, n2, t2, o2⟩ := hf
    have m0 : f0.name ≠ "_" := by intro c; rw [c] at n0; cases n0
    have m1 : f1.name ≠ "_" := by intro c; rw [c] at n1; cases n1
    have m2 : f2.name ≠ "_" := by intro c; rw [c] at n2; cases n2
    have e0 : ∀ w, (Op.equalIn 9999 36 (.float .f64 x) (.float .f64 x)).run Tryz.prog w = .ok true w := fun w => by
      rw [equalIn_f w 9998 _ _ _ _ _ Tryz.underlying36]; unfold Op.floatEq; rw [ord_self hx]
    have e1 : ∀ w, (Op.equalIn 9999 36 (.float .f64 y) (.float .f64 y)).run Tryz.prog w = .ok true w := fun w => by
      rw [equalIn_f w 9998 _ _ _ _ _ Tryz.underlying36]; unfold Op.floatEq; rw [ord_self hy]
    have e2 : ∀ w, (Op.equalIn 9999 4 (.bool b) (.bool b)).run Tryz.prog w = .ok true w := fun w => by
      rw [run_equalIn_bool w 9998 _ _ _ Tryz.underlying4]; cases b <;> rfl
    have p0 : ∀ w, (part 36 #[.float .f64 x, .float .f64 y, .bool b] 0).run Tryz.prog w = .ok (.float .f64 x) w := fun w => by kernel_rfl
    have p1 : ∀ w, (part 36 #[.float .f64 x, .float .f64 y, .bool b] 1).run Tryz.prog w = .ok (.float .f64 y) w := fun w => by kernel_rfl
    have p2 : ∀ w, (part 4 #[.float .f64 x, .float .f64 y, .bool b] 2).run Tryz.prog w = .ok (.bool b) w := fun w => by kernel_rfl
    simp [Op.eqFields, m0, m1, m2, t0, t1, t2, o0, o1, o2, p0, p1, p2, e0, e1, e2]
theorem neq_same {x y : Nat} (hx : Fin x) (hy : Fin y) (b : Bool) (w : World) : (binOp .neq 67 (.agg #[.float .f64 x, .float .f64 y, .bool b]) (.agg #[.float .f64 x, .float .f64 y, .bool b])).run Tryz.prog w = .ok (.bool false) w := by
  rw [run_neq_struct, eq_same hx hy b w]; rfl
end Go.Proofs.YtipmejkofamfeaaGreat
