import Derived.Test.YtpinpcefgbhdmaaDoorRefRunes
import Derived.Test.YtpinpcefgbhdmaaDoorUint
import Derived.Lib.AppendStr
namespace Go.Proofs.YtpinpcefgbhdmaaDoor
open Go.RowKit
set_option linter.unusedVariables false

/-- A string's bytes. -/
def strL (s : ByteArray) : List Int := s.data.toList.map fun b => (b.toNat : Int)
theorem strL_len (s : ByteArray) : (strL s).length = s.size := by unfold strL; rw [List.length_map]; rfl
theorem strL_byt (s : ByteArray) : Byt (strL s) := by
  intro x hx
  unfold strL at hx
  rw [List.mem_map] at hx
  obtain ⟨b, _, rfl⟩ := hx
  have := UInt8.toNat_lt b
  omega
theorem strL_cells (s : ByteArray) : (strL s).map (Value.int .u8) = Lib.strCells s := by
  unfold strL Lib.strCells
  rw [List.map_map]
  rfl

/-- append(b, s...), b the call's own. -/
theorem append_str {ops : Array Oper} {rest : List Oper} {o : Oper} {a : Act} {Q : Exit → Act → World → Prop} (W : World) (hgd : o.guard = none) (sl x : Operand)
    (ho : o.op = .call { callee := .builtin .append, args := #[sl, x], argTypes := #[23, 9] })
    (base : Nat) (v : Value) (ys : List Int) (hs : a.eval sl = v) (hown : Own W base v ys) (s : ByteArray) (hx : a.eval x = .string s)
    (hbound : ys.length + s.size ≤ 70368744177664) (hbase : base ≤ W.heap.size)
    (h : ∀ v' w', Own w' base v' (ys ++ strL s) → Below base W w' → wpList Tryd.prog ops Q rest (a.put o.dst v') w') : wpList Tryd.prog ops Q (o :: rest) a W := by
  obtain ⟨i0, hi, hz0, hz1, hz2⟩ := info_parts Tryd.infoByte
  refine Lib.wpList_append_own_string (P := Tryd.prog) W hgd sl x 23 9 ho base 5 i0 Tryd.underlying23 Tryd.underlying9 hi hz0 hz1 hz2 v ys.length _ hs hown s hx (by simp only [maxLen]; omega) (by omega) hbase ?_
  intro v' w' h1 h2 _
  refine h v' w' ?_ ((Below.refl _ _).grown h2 hbase (fun k hk => (hown.lt k hk).1))
  unfold Own
  rw [List.map_append, List.length_append, strL_len, strL_cells]
  exact h1

/-- A text with its length ahead. -/
def textB (s : ByteArray) : List Int := match rn s with | none => [] | some _ => grp s.size ++ strL s
def textE (s : ByteArray) : Int := match rn s with | none => 14 | some _ => 0
theorem textB_byt (s : ByteArray) : Byt (textB s) := by
  unfold textB
  split
  · exact Byt.nil
  · exact (grp_byt _).append (strL_byt s)

set_option maxRecDepth 100000 in
set_option maxHeartbeats 1000000 in
theorem text_any (s : ByteArray) (w : World) (hT : U8 w) (hs : s.size ≤ 35184372088832) :
    Calls Tryd.prog 9 #[.string s] w fun e w' => ∃ v, e = .returned (.tuple #[v, .int .i64 (textE s)]) ∧ Own w' w.heap.size v (textB s) ∧ Below w.heap.size w w' := by
  have hlen := grp_len 9 s.size (by omega) (by omega)
  have HR : Hid _ := runes_any s w hT (by omega)
  have H0 : Hid (rn s = none → textB s = [] ∧ textE s = 14) := fun h => by unfold textB textE; rw [h]; exact ⟨rfl, rfl⟩
  have H1 : Hid (∀ k, rn s = some k → textB s = grp s.size ++ strL s ∧ textE s = 0) := fun k h => by unfold textB textE; rw [h]; exact ⟨rfl, rfl⟩
  generalize textB s = B at *
  generalize textE s = E at *
  go_enter Tryd.func9, Tryd.ntmps9
  go_wp2_with fail
  refine Calls.mono HR.out ?_
  clear HR
  rintro e w1 ⟨rfl, hb1⟩
  cases hrn : rn s with
  | none =>
    obtain ⟨rfl, rfl⟩ := H0.out hrn
    clear hrn H0 H1
    unfold rnV
    go_wp2
    go_ret2
    exact ⟨_, rfl, Own.nil _ _, hb1⟩
  | some k =>
    obtain ⟨rfl, rfl⟩ := H1.out k hrn
    clear hrn H0 H1
    unfold rnV
    go_wp2_with fail
    refine (groups_any s.size (by omega) _).mono ?_
    rintro e w2 ⟨v2, rfl, hO2, hb2⟩
    have hO := hO2.mono hb1.size
    have hB2 := below_trans hb1 hb2
    have hsz2 := hB2.size
    clear hO2 hb1 hb2
    go_wp2_with (at_builtin; refine append_str _ rfl _ _ rfl w.heap.size _ _ rfl hO s rfl (by omega) hsz2 ?_; intro v3 w3 hO3 hb3)
    go_ret2
    exact ⟨_, rfl, hO3, hB2.trans hb3⟩

end Go.Proofs.YtpinpcefgbhdmaaDoor
