import Derived.Test.YtigaggkipmcgeaaZF
namespace Go.Proofs.Ytigaggkipmcgeaa
open Go.RowKit
set_option linter.unusedVariables false

theorem hMakeFunc : ∀ (fn : Fn) (first cap : Array Value) (w : World), (Instr.makeFunc fn first cap).run Try.prog w = .ok (.func fn first cap) w := fun _ _ _ _ => rfl
/-- The closure of an operation and two spans, in three new blocks. -/
structure FarAt (w w' : World) (v : Value) (K al ah bl bh : Nat) (ab bb : Bool) : Prop where
  eq : ∃ B1 B2 B3, v = .func (.func 134) #[] #[.pointer (some ⟨B1, 0, none⟩), .pointer (some ⟨B2, 0, none⟩), .pointer (some ⟨B3, 0, none⟩)] ∧ w'.heap[B1]? = some (.cells #[.func (.func K) #[] #[]] 162) ∧ w'.heap[B2]? = some (.cells #[.float .f64 al, .float .f64 ah, .bool ab] 68) ∧ w'.heap[B3]? = some (.cells #[.float .f64 bl, .float .f64 bh, .bool bb] 68)
  bel : Below w.heap.size w w'
set_option maxRecDepth 100000 in
theorem farthest_any (K al ah bl bh : Nat) (ab bb : Bool) (w : World) :
    Calls Try.prog 118 #[.func (.func K) #[] #[], .agg #[.float .f64 al, .float .f64 ah, .bool ab], .agg #[.float .f64 bl, .float .f64 bh, .bool bb]] w fun e w' => ∃ v, e = .returned v ∧ FarAt w w' v K al ah bl bh ab bb := by
  have hmf := hMakeFunc
  obtain ⟨g0, g1, g2, gz, gb⟩ := alloc3_facts w (Obj.cells #[Value.func (.func K) #[] #[]] 162) (Obj.cells #[.float .f64 al, .float .f64 ah, .bool ab] 68) (Obj.cells #[.float .f64 bl, .float .f64 bh, .bool bb] 68)
  have HG : Hid (FarAt w _ _ K al ah bl bh ab bb) := ⟨⟨_, _, _, rfl, g0, g1, g2⟩, gb⟩
  clear g0 g1 g2 gz gb
  go_enter Try.func118, Try.ntmps118
  go_wp2_with fail
  go_ret
  exact ⟨_, rfl, HG.out⟩
/-- The operation's four answers. -/
structure Four (K : Nat) (d : Int) (al ah bl bh : Nat) (p1 p2 p3 p4 : Nat × Bool) : Prop where
  f1 : FC p1.1
  f2 : FC p2.1
  f3 : FC p3.1
  f4 : FC p4.1
  c1 : ∀ w, Calls Try.prog K #[.int .i64 d, .float .f64 al, .float .f64 bl] w fun e w' => e = .returned (.tuple #[.float .f64 p1.1, .bool p1.2]) ∧ w' = w
  c2 : ∀ w, Calls Try.prog K #[.int .i64 d, .float .f64 al, .float .f64 bh] w fun e w' => e = .returned (.tuple #[.float .f64 p2.1, .bool p2.2]) ∧ w' = w
  c3 : ∀ w, Calls Try.prog K #[.int .i64 d, .float .f64 ah, .float .f64 bl] w fun e w' => e = .returned (.tuple #[.float .f64 p3.1, .bool p3.2]) ∧ w' = w
  c4 : ∀ w, Calls Try.prog K #[.int .i64 d, .float .f64 ah, .float .f64 bh] w fun e w' => e = .returned (.tuple #[.float .f64 p4.1, .bool p4.2]) ∧ w' = w
def far4 (d : Int) (p1 p2 p3 p4 : Nat × Bool) : Nat × Bool := (farX d (farX d (farX d p1.1 p2.1) p3.1) p4.1, p1.2 && p2.2 && p3.2 && p4.2)
theorem FarAt.tells {w w' : World} {v : Value} {K al ah bl bh : Nat} {ab bb : Bool} (h : FarAt w w' v K al ah bl bh ab bb) (eg : ∀ args w, (callFunc K args).run Try.prog w = .ok (.enter K args) w) :
    ∃ caps, v = .func (.func 134) #[] caps ∧ ∀ d p1 p2 p3 p4, Four K d al ah bl bh p1 p2 p3 p4 → Tells 134 caps w' d (far4 d p1 p2 p3 p4) := by
  obtain ⟨B1, B2, B3, rfl, h1, h2, h3⟩ := h.eq
  refine ⟨_, rfl, fun d p1 p2 p3 p4 f w2 hb => ?_⟩
  exact far1_any K eg d B1 B2 B3 al ah bl bh ab bb w2 ((hb.block _ (lt_of_block h1)).trans h1) ((hb.block _ (by
    rcases Nat.lt_or_ge B2 w'.heap.size with c | c
    · exact c
    · rw [Array.getElem?_eq_none c] at h2; cases h2)).trans h2) ((hb.block _ (by
    rcases Nat.lt_or_ge B3 w'.heap.size with c | c
    · exact c
    · rw [Array.getElem?_eq_none c] at h3; cases h3)).trans h3) p1.1 p2.1 p3.1 p4.1 p1.2 p2.2 p3.2 p4.2 f.f1 f.f2 f.f3 f.f4 f.c1 f.c2 f.c3 f.c4
end Go.Proofs.Ytigaggkipmcgeaa
