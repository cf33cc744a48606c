import Derived.Test.YtfldgjkpkmnkbabDoorTripV
import Derived.Handy
namespace Go.Proofs.YtfldgjkpkmnkbabDoor
open Go.RowKit
set_option linter.unusedVariables false

/-- A struct's block and its cells. -/
theorem cells5 {w : World} {B : Nat} {v0 v1 v2 v3 v4 : Value} {t : TypeId} (h : w.heap[B]? = some (.cells #[v0, v1, v2, v3, v4] t (0, 0))) :
    w.cell? ⟨B, 0, none⟩ = some v0 ∧ w.cell? ⟨B, 1, none⟩ = some v1 ∧ w.cell? ⟨B, 2, none⟩ = some v2 ∧ w.cell? ⟨B, 3, none⟩ = some v3 ∧ w.cell? ⟨B, 4, none⟩ = some v4 :=
  ⟨cell_of_row _ B 0 _ _ _ h, cell_of_row _ B 1 _ _ _ h, cell_of_row _ B 2 _ _ _ h, cell_of_row _ B 3 _ _ _ h, cell_of_row _ B 4 _ _ _ h⟩

theorem two_blocks {w w1 : World} {o1 o2 : Obj} (hb : Below ((w.alloc o1).alloc o2).heap.size ((w.alloc o1).alloc o2) w1) : w1.heap[w.heap.size]? = some o1 ∧ w1.heap[w.heap.size + 1]? = some o2 ∧ Below w.heap.size w w1 := by
  refine ⟨?_, ?_, ?_⟩
  · rw [hb.block _ (by simp; omega), Below.heap_alloc _ _ _ (by simp)]
    exact heap_alloc_new w o1
  · rw [hb.block _ (by simp)]
    have := heap_alloc_new (w.alloc o1) o2
    simpa using this
  · exact (((Below.refl _ _).alloc (Nat.le_refl _) _).alloc (by simp) _).trans (hb.mono (by simp; omega))

theorem set_other {W : World} {B i j : Nat} {v : Value} (h : i ≠ j) : (W.setCell ⟨B, i, none⟩ v).cell? ⟨B, j, none⟩ = W.cell? ⟨B, j, none⟩ := World.cell?_setCell_other W _ _ v (fun e => h (by cases e; rfl))
theorem stored5 {W : World} {B : Nat} {u0 u1 u2 u3 u4 : Value} (v0 v1 v2 v3 v4 : Value) (h0 : W.cell? ⟨B, 0, none⟩ = some u0) (h1 : W.cell? ⟨B, 1, none⟩ = some u1) (h2 : W.cell? ⟨B, 2, none⟩ = some u2) (h3 : W.cell? ⟨B, 3, none⟩ = some u3) (h4 : W.cell? ⟨B, 4, none⟩ = some u4) :
    (((((W.setCell ⟨B, 0, none⟩ v0).setCell ⟨B, 1, none⟩ v1).setCell ⟨B, 2, none⟩ v2).setCell ⟨B, 3, none⟩ v3).setCell ⟨B, 4, none⟩ v4).cell? ⟨B, 0, none⟩ = some v0 ∧
    (((((W.setCell ⟨B, 0, none⟩ v0).setCell ⟨B, 1, none⟩ v1).setCell ⟨B, 2, none⟩ v2).setCell ⟨B, 3, none⟩ v3).setCell ⟨B, 4, none⟩ v4).cell? ⟨B, 1, none⟩ = some v1 ∧
    (((((W.setCell ⟨B, 0, none⟩ v0).setCell ⟨B, 1, none⟩ v1).setCell ⟨B, 2, none⟩ v2).setCell ⟨B, 3, none⟩ v3).setCell ⟨B, 4, none⟩ v4).cell? ⟨B, 2, none⟩ = some v2 ∧
    (((((W.setCell ⟨B, 0, none⟩ v0).setCell ⟨B, 1, none⟩ v1).setCell ⟨B, 2, none⟩ v2).setCell ⟨B, 3, none⟩ v3).setCell ⟨B, 4, none⟩ v4).cell? ⟨B, 3, none⟩ = some v3 ∧
    (((((W.setCell ⟨B, 0, none⟩ v0).setCell ⟨B, 1, none⟩ v1).setCell ⟨B, 2, none⟩ v2).setCell ⟨B, 3, none⟩ v3).setCell ⟨B, 4, none⟩ v4).cell? ⟨B, 4, none⟩ = some v4 := by
  refine ⟨?_, ?_, ?_, ?_, ?_⟩
  · rw [set_other (by decide), set_other (by decide), set_other (by decide), set_other (by decide)]
    exact World.cell?_setCell_same _ _ _ h0
  · rw [set_other (by decide), set_other (by decide), set_other (by decide)]
    exact World.cell?_setCell_same _ _ _ (by rw [set_other (by decide)]; exact h1)
  · rw [set_other (by decide), set_other (by decide)]
    exact World.cell?_setCell_same _ _ _ (by rw [set_other (by decide), set_other (by decide)]; exact h2)
  · rw [set_other (by decide)]
    exact World.cell?_setCell_same _ _ _ (by rw [set_other (by decide), set_other (by decide), set_other (by decide)]; exact h3)
  · exact World.cell?_setCell_same _ _ _ (by rw [set_other (by decide), set_other (by decide), set_other (by decide), set_other (by decide)]; exact h4)

theorem res_mended (tmps : Array Value) (W : World) (B : Nat) (v0 v1 v2 v3 v4 : Value) (hp : tmps[2]? = some (.pointer (some ⟨B, 0, none⟩))) (h0 : W.cell? ⟨B, 0, none⟩ = some v0) (h1 : W.cell? ⟨B, 1, none⟩ = some v1) (h2 : W.cell? ⟨B, 2, none⟩ = some v2) (h3 : W.cell? ⟨B, 3, none⟩ = some v3) (h4 : W.cell? ⟨B, 4, none⟩ = some v4) :
    (results Tryd.f9 tmps).run Tryd.prog W = .ok (.agg #[v0, v1, v2, v3, v4]) W := by
  simp [results, Tryd.results9, go_sem, hp, h0, h1, h2, h3, h4]
theorem far {W : World} {B C i j : Nat} {v : Value} (h : B ≠ C) : (W.setCell ⟨B, i, none⟩ v).cell? ⟨C, j, none⟩ = W.cell? ⟨C, j, none⟩ := World.cell?_setCell_other W _ _ v (fun e => h (by cases e; rfl))

theorem mended_end (w X : World) (v0 v1 v2 v3 v4 u0 u1 u2 u3 u4 : Value) (tmps : Array Value) (hp : tmps[2]? = some (.pointer (some ⟨w.heap.size + 1, 0, none⟩))) (hX : Below w.heap.size w X)
    (q0 : X.cell? ⟨w.heap.size + 1, 0, none⟩ = some u0) (q1 : X.cell? ⟨w.heap.size + 1, 1, none⟩ = some u1) (q2 : X.cell? ⟨w.heap.size + 1, 2, none⟩ = some u2) (q3 : X.cell? ⟨w.heap.size + 1, 3, none⟩ = some u3) (q4 : X.cell? ⟨w.heap.size + 1, 4, none⟩ = some u4) :
    bodyPost Tryd.prog Tryd.f9 (fun e w' => e = .returned (.agg #[v0, v1, v2, v3, v4]) ∧ Below w.heap.size w w') .ret ⟨tmps, []⟩
      (((((X.setCell ⟨w.heap.size + 1, 0, none⟩ v0).setCell ⟨w.heap.size + 1, 1, none⟩ v1).setCell ⟨w.heap.size + 1, 2, none⟩ v2).setCell ⟨w.heap.size + 1, 3, none⟩ v3).setCell ⟨w.heap.size + 1, 4, none⟩ v4) := by
  obtain ⟨z0, z1, z2, z3, z4⟩ := stored5 v0 v1 v2 v3 v4 q0 q1 q2 q3 q4
  refine bodyPost_ret (v := .agg #[v0, v1, v2, v3, v4]) (res_mended _ _ (w.heap.size + 1) _ _ _ _ _ hp z0 z1 z2 z3 z4) rfl ⟨rfl, ?_⟩
  exact ((((hX.setCell (Nat.le_succ _) _).setCell (Nat.le_succ _) _).setCell (Nat.le_succ _) _).setCell (Nat.le_succ _) _).setCell (Nat.le_succ _) _

set_option maxRecDepth 100000 in
set_option maxHeartbeats 4000000 in
theorem mended_core (kd n n1 : Int) (u u1 : Nat) (s s1 s2 : ByteArray) (ao a1 : Option Addr) (len cap l1 c1 : Nat) (w : World) (hT : U8 w) (hb0 : -9223372036854775808 ≤ n) (hb1 : n ≤ 9223372036854775807) (hm : len ≤ 9223372036854775807) (hs1 : s1.size ≤ 3000)
    (hN : (n < 0 ∧ n1 = -(n + 1)) ∨ (0 ≤ n ∧ n1 = n))
    (hU : ((bits .and .u64 ((u : Int) / 4503599627370496) 2047 == 2047) = true ∧ bits .xor .u64 (u : Int) 1152921504606846976 = (u1 : Int)) ∨ ((bits .and .u64 ((u : Int) / 4503599627370496) 2047 == 2047) = false ∧ u1 = u))
    (hS : (3000 < s.size ∧ s.size ≤ 9223372036854775807 ∧ ∀ w, (Instr.slice 9 (.string s) none (some (.int .i64 3000)) none).run Tryd.prog w = .ok (.string s1) w) ∨ (s.size ≤ 3000 ∧ s1 = s))
    (hR : (rn s1 = none ∧ s2 = ⟨#[195, 169]⟩) ∨ ((∃ k, rn s1 = some k) ∧ s2 = s1))
    (hB : (3000 < len ∧ ∀ w, (Instr.slice 23 (.slice ao len cap) none (some (.int .i64 3000)) none).run Tryd.prog w = .ok (.slice a1 l1 c1) w) ∨ (len ≤ 3000 ∧ a1 = ao ∧ l1 = len ∧ c1 = cap)) :
    Calls Tryd.prog 9 #[.agg #[.int .i64 kd, .int .i64 n, .int .u64 u, .string s, .slice ao len cap]] w fun e w' => e = .returned (.agg #[.int .i64 kd, .int .i64 n1, .int .u64 u1, .string s2, .slice a1 l1 c1]) ∧ Below w.heap.size w w' := by
  rcases hN with ⟨hN, rfl⟩ | ⟨hN, rfl⟩ <;> rcases hU with ⟨hU, hU1⟩ | ⟨hU, rfl⟩ <;> rcases hS with ⟨hS, hS0, hS1⟩ | ⟨hS, rfl⟩
  all_goals
    go_enter Tryd.func9, Tryd.ntmps9
    go_wp2_with fail
    refine (runes_any _ _ (hT.later (((Below.refl _ _).alloc (Nat.le_refl _) _).alloc (by simp) _)) (by omega)).mono ?_
    rintro e w1 ⟨rfl, hb⟩
    obtain ⟨hg0, hg1, hbl⟩ := two_blocks hb
    have f0 := fun j => frozen_of_row _ _ j _ _ hg0
    have f1 := fun j => frozen_of_row _ _ j _ _ hg1
    obtain ⟨p0, p1, p2, p3, p4⟩ := cells5 hg0
    obtain ⟨q0, q1, q2, q3, q4⟩ := cells5 hg1
    clear hb hg0 hg1
    rcases hR with ⟨hR, rfl⟩ | ⟨⟨k, hR⟩, rfl⟩ <;> rw [hR] <;> unfold rnV <;> rcases hB with ⟨hB, hB1⟩ | ⟨hB, rfl, rfl, rfl⟩
  all_goals
    go_wp2
    have ne1 : w.heap.size ≠ w.heap.size + 1 := by simp
    refine mended_end w _ _ _ _ _ _ _ _ _ _ _ _ (by rfl) ?_ (by first | exact q0 | exact (far ne1).trans q0 | exact (far ne1).trans ((far ne1).trans q0)) (by first | exact q1 | exact (far ne1).trans q1 | exact (far ne1).trans ((far ne1).trans q1)) (by first | exact q2 | exact (far ne1).trans q2 | exact (far ne1).trans ((far ne1).trans q2)) (by first | exact q3 | exact (far ne1).trans q3 | exact (far ne1).trans ((far ne1).trans q3)) (by first | exact q4 | exact (far ne1).trans q4 | exact (far ne1).trans ((far ne1).trans q4))
    first | exact hbl | exact hbl.setCell (Nat.le_refl _) _ | exact (hbl.setCell (Nat.le_refl _) _).setCell (Nat.le_refl _) _
end Go.Proofs.YtfldgjkpkmnkbabDoor
