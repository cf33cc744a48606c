import Derived.Test.YtajopgndpomggaaXI
import Derived.Test.YtajopgndpomggaaPA
import Derived.Deep.RegionHeld3
namespace Go.Proofs.Ytajopgndpomggaa
open Go.RowKit
set_option linter.unusedVariables false

set_option maxRecDepth 100000 in
theorem sameP_any (u : Nat) (b : Bool) (w : World) : Calls Try.prog 39 #[.float .f64 u, .bool b, .int .u64 (u : Int), .bool b] w fun e w' => e = .returned (.bool true) ∧ w' = w := by
  cases b
  all_goals
    go_enter Try.func39, Try.ntmps39
    go_wp2_with (first | (go_at_call 20; refine (bits_any _ _).mono ?_; rintro e w' ⟨rfl, rfl⟩))
    go_ret
    exact ⟨rfl, rfl⟩
theorem accCmpO_any (B C : Nat) (o p : Option Int) (w : World) (hB : AccO w B o) (hC : AccO w C p) :
    Calls Try.prog 33 #[.pointer (some ⟨B, 0, none⟩), .pointer (some ⟨C, 0, none⟩)] w fun e w' => e = .returned (.tuple #[.int .i64 (cmpI o p), .bool (cmpB o p)]) ∧ Below w.heap.size w w' := by
  cases o with
  | none =>
    refine (accCmp_bad B C none p w hB hC (.inl rfl)).mono ?_
    rintro e w' ⟨rfl, rfl⟩
    exact ⟨rfl, Below.refl _ _⟩
  | some x =>
    cases p with
    | none =>
      refine (accCmp_bad B C (some x) none w hB hC (.inr rfl)).mono ?_
      rintro e w' ⟨rfl, rfl⟩
      exact ⟨rfl, Below.refl _ _⟩
    | some y => exact accCmp_any B C x y w hB hC
theorem five_cells {W : World} {B : Nat} {v0 v1 v2 v3 v4 : Value} {t : TypeId} (h : W.heap[B]? = some (.cells #[v0, v1, v2, v3, v4] t)) :
    W.cell? ⟨B, 0, none⟩ = some v0 ∧ W.cell? ⟨B, 1, none⟩ = some v1 ∧ W.cell? ⟨B, 2, none⟩ = some v2 ∧ W.cell? ⟨B, 3, none⟩ = some v3 ∧ W.cell? ⟨B, 4, none⟩ = some v4 :=
  ⟨cell_of_row _ _ 0 _ _ _ h, cell_of_row _ _ 1 _ _ _ h, cell_of_row _ _ 2 _ _ _ h, cell_of_row _ _ 3 _ _ _ h, cell_of_row _ _ 4 _ _ _ h⟩
structure AskS (w : World) (b B C : Nat) (o p : Option Int) (nb nb' : Bool) (ao ao' : Option Addr) (l c l' c' : Nat) (e e' : Int) : Prop where
  a : AccO w B o
  a' : AccO w C p
  r : w.heap[b]? = some (.cells #[.pointer (some ⟨B, 0, none⟩), .bool nb, .slice ao l c, .int .i64 e, .bool o.isNone] 31)
  r' : w.heap[b + 1]? = some (.cells #[.pointer (some ⟨C, 0, none⟩), .bool nb', .slice ao' l' c', .int .i64 e', .bool p.isNone] 31)
  f : RefO w (.agg #[.bool nb, .slice ao l c, .int .i64 e, .bool o.isNone]) o
  f' : RefO w (.agg #[.bool nb', .slice ao' l' c', .int .i64 e', .bool p.isNone]) p
theorem AskS.later {w w' : World} {b B C : Nat} {o p : Option Int} {nb nb' : Bool} {ao ao' : Option Addr} {l c l' c' : Nat} {e e' : Int} (h : AskS w b B C o p nb nb' ao ao' l c l' c' e e') (hb : Below w.heap.size w w') : AskS w' b B C o p nb nb' ao ao' l c l' c' e e' :=
  ⟨h.a.below hb h.a.block, h.a'.below hb h.a'.block, (hb.block b (Array.getElem?_eq_some_iff.1 h.r).1).trans h.r, (hb.block (b + 1) (Array.getElem?_eq_some_iff.1 h.r').1).trans h.r', h.f.later hb, h.f'.later hb⟩
set_option maxRecDepth 100000 in
set_option maxHeartbeats 2000000 in
theorem asks_any (B C : Nat) (o p : Option Int) (nb nb' : Bool) (ao ao' : Option Addr) (l c l' c' : Nat) (e e' n : Int) (w : World) (hB : AccO w B o) (hC : AccO w C p) (hv : RefO w (.agg #[.bool nb, .slice ao l c, .int .i64 e, .bool o.isNone]) o) (hu : RefO w (.agg #[.bool nb', .slice ao' l' c', .int .i64 e', .bool p.isNone]) p) :
    Calls Try.prog 8 #[.agg #[.pointer (some ⟨B, 0, none⟩), .bool nb, .slice ao l c, .int .i64 e, .bool o.isNone], .agg #[.pointer (some ⟨C, 0, none⟩), .bool nb', .slice ao' l' c', .int .i64 e', .bool p.isNone], .int .i64 n] w fun e' w' => e' = .returned (.bool true) ∧ Below w.heap.size w w' := by
  obtain ⟨a1, a2, a3, a4⟩ := alloc2_facts w (.cells #[.pointer (some ⟨B, 0, none⟩), .bool nb, .slice ao l c, .int .i64 e, .bool o.isNone] 31) (.cells #[.pointer (some ⟨C, 0, none⟩), .bool nb', .slice ao' l' c', .int .i64 e', .bool p.isNone] 31)
  have KB : Hid (Below w.heap.size w _) := a4
  have K0 : Hid (AskS _ w.heap.size B C o p nb nb' ao ao' l c l' c' e e') := ⟨hB.below a4 hB.block, hC.below a4 hC.block, a1, a2, hv.later a4, hu.later a4⟩
  obtain ⟨d, hd⟩ : ∃ d, n % 4 = d := ⟨_, rfl⟩
  have hnd : bits .and .i64 n 3 = d := (p_and3 n).trans hd
  have hd0 : 0 ≤ d ∧ d < 4 := by omega
  clear a1 a2 a3 a4 hB hC hv hu hd
  go_enter Try.func8, Try.ntmps8
  go_upto_region 1 with fail
  generalize (w.alloc (.cells #[.pointer (some ⟨B, 0, none⟩), .bool nb, .slice ao l c, .int .i64 e, .bool o.isNone] 31)).alloc (.cells #[.pointer (some ⟨C, 0, none⟩), .bool nb', .slice ao' l' c', .int .i64 e', .bool p.isNone] 31) = w0 at KB K0 ⊢
  obtain ⟨x0, x1, x2, x3, x4⟩ := five_cells K0.out.r
  obtain ⟨y0, y1, y2, y3, y4⟩ := five_cells K0.out.r'
  go_wp2_with fail
  refine (accRound_any d B o _ K0.out.a).mono ?_
  rintro q1 w1 ⟨u1, b1, rfl, h1, hb⟩
  have R1 : Hid (RndO d o u1 b1) := h1
  have K1 : Hid _ := K0.out.later hb
  have KB1 : Hid (Below w.heap.size w w1) := KB.out.trans (hb.mono KB.out.size)
  clear x0 x1 x2 x3 x4 y0 y1 y2 y3 y4 K0 KB h1 hb
  obtain ⟨x0, x1, x2, x3, x4⟩ := five_cells K1.out.r
  obtain ⟨y0, y1, y2, y3, y4⟩ := five_cells K1.out.r'
  go_wp2_with fail
  refine (refRound3_any _ o d (by omega) (by omega) _ K1.out.f).mono ?_
  rintro q2 w2 ⟨u2, b2, rfl, h2, hb⟩
  obtain ⟨rfl, rfl⟩ := RndO.uniq R1.out h2
  have K2 : Hid _ := K1.out.later hb
  have KB2 : Hid (Below w.heap.size w w2) := KB1.out.trans (hb.mono KB1.out.size)
  clear x0 x1 x2 x3 x4 y0 y1 y2 y3 y4 K1 KB1 R1 h2 hb
  obtain ⟨x0, x1, x2, x3, x4⟩ := five_cells K2.out.r
  obtain ⟨y0, y1, y2, y3, y4⟩ := five_cells K2.out.r'
  go_wp2_with fail
  refine (accOver_any d B C o p _ K2.out.a K2.out.a').mono ?_
  rintro q3 w3 ⟨u3, b3, rfl, h3, hb⟩
  have R3 : Hid (OvrO d o p u3 b3) := h3
  have K3 : Hid _ := K2.out.later hb
  have KB3 : Hid (Below w.heap.size w w3) := KB2.out.trans (hb.mono KB2.out.size)
  clear x0 x1 x2 x3 x4 y0 y1 y2 y3 y4 K2 KB2 h3 hb
  obtain ⟨x0, x1, x2, x3, x4⟩ := five_cells K3.out.r
  obtain ⟨y0, y1, y2, y3, y4⟩ := five_cells K3.out.r'
  go_wp2_with fail
  refine (refOver3_any _ _ o p d (by omega) (by omega) _ K3.out.f K3.out.f').mono ?_
  rintro q4 w4 ⟨u4, b4, rfl, h4, hb⟩
  obtain ⟨rfl, rfl⟩ := OvrO.uniq R3.out h4
  have K4 : Hid _ := K3.out.later hb
  have KB4 : Hid (Below w.heap.size w w4) := KB3.out.trans (hb.mono KB3.out.size)
  clear x0 x1 x2 x3 x4 y0 y1 y2 y3 y4 K3 KB3 R3 h4 hb
  obtain ⟨x0, x1, x2, x3, x4⟩ := five_cells K4.out.r
  obtain ⟨y0, y1, y2, y3, y4⟩ := five_cells K4.out.r'
  go_wp2_with fail
  refine (accCmpO_any B C o p _ K4.out.a K4.out.a').mono ?_
  rintro q5 w5 ⟨rfl, hb⟩
  have K5 : Hid _ := K4.out.later hb
  have KB5 : Hid (Below w.heap.size w w5) := KB4.out.trans (hb.mono KB4.out.size)
  clear x0 x1 x2 x3 x4 y0 y1 y2 y3 y4 K4 KB4 hb
  obtain ⟨x0, x1, x2, x3, x4⟩ := five_cells K5.out.r
  obtain ⟨y0, y1, y2, y3, y4⟩ := five_cells K5.out.r'
  go_wp2_with fail
  refine (refCmp3_any _ _ o p _ K5.out.f K5.out.f').mono ?_
  rintro q6 w6 ⟨rfl, hb⟩
  have K6 : Hid _ := (K5.out.later hb).later (Below.refl _ _).drew
  have KB6 : Hid (Below w.heap.size w w6.drew) := (KB5.out.trans (hb.mono KB5.out.size)).drew
  clear x0 x1 x2 x3 x4 y0 y1 y2 y3 y4 K5 KB5 hb
  obtain ⟨x0, x1, x2, x3, x4⟩ := five_cells K6.out.r
  generalize cmpI o p = ci
  generalize cmpB o p = cb
  go_wp2_with fail
  go_region_held3 (fun w' => w'.cell? ⟨w.heap.size, 0, none⟩ = some (.pointer (some ⟨B, 0, none⟩)) ∧ w'.cell? ⟨w.heap.size, 1, none⟩ = some (.bool nb) ∧ w'.cell? ⟨w.heap.size, 2, none⟩ = some (.slice ao l c) ∧ w'.cell? ⟨w.heap.size, 3, none⟩ = some (.int .i64 e) ∧ w'.cell? ⟨w.heap.size, 4, none⟩ = some (.bool o.isNone)) (go_keep)
    (first
      | (go_at_call 37; refine (bad_any B o _ (by first | exact K6.out.a | exact K7.out.a)).mono ?_; rintro e9 w9 ⟨rfl, rfl⟩)
      | (go_at_call 24; refine (accSign_any B o _ (by first | exact K6.out.a | exact K7.out.a)).mono ?_; rintro e9 w9 ⟨rfl, rfl⟩)
      | (go_at_call 38; refine (refSign3_any _ o _ K6.out.f).mono ?_; rintro e7 w7 ⟨rfl, hb7⟩; have K7 : Hid _ := K6.out.later hb7; have KB7 : Hid (Below w.heap.size w w7) := KB6.out.trans (hb7.mono KB6.out.size); clear hb7; obtain ⟨z0, z1, z2, z3, z4⟩ := five_cells K7.out.r)
      | (go_at_call 39; refine (sameP_any _ _ _).mono ?_; rintro e9 w9 ⟨rfl, rfl⟩))
  go_wp2_with fail
  go_ret
  exact ⟨rfl, KB7.out⟩
end Go.Proofs.Ytajopgndpomggaa
