import Derived.Test.YtnhaapnmgjlbjaaDoorVI
namespace Go.Proofs.YtnhaapnmgjlbjaaDoor
open Go.RowKit
set_option linter.unusedVariables false

set_option maxRecDepth 100000 in
set_option maxHeartbeats 4000000 in
theorem propStands_any (b b' : Nat) (v1 v2 v3 u1 u2 u3 : Value) (cs : List Nat) (gs ls : List (List Nat)) (t K D L : Int) (w : World)
    (h1 : Mk w b v1 cs) (h2 : MkL w b v2 gs) (h3 : MkL w b v3 ls) (k1 : OwnUi w b' u1 cs) (k2 : MkU w b' u2 gs) (k3 : MkU w b' u3 ls)
    (n1 : cs.length ≤ 300) (n2 : gs.length ≤ 300) (n3 : ls.length ≤ 300) (n4 : ∀ us ∈ gs, us.length ≤ 300) (n5 : ∀ us ∈ ls, us.length ≤ 300) :
    Calls Tryd.prog 13 #[.agg #[v1, v2, .int .i64 t, v3, .int .i64 K, .int .i64 D, .int .i64 L], .agg #[u1, u2, .int .i64 t, u3, .int .i64 K, .int .i64 D, .int .i64 L]] w fun e w' => e = .returned (.bool true) ∧ Below w.heap.size w w' := by
  have n4' : ∀ us ∈ gs, us.length ≤ 1000 := fun us h => Nat.le_trans (n4 us h) (by omega)
  have n5' : ∀ us ∈ ls, us.length ≤ 1000 := fun us h => Nat.le_trans (n5 us h) (by omega)
  obtain ⟨ao, ac, rfl, r1⟩ := h1.rd
  obtain ⟨bo, bc, rfl, r2⟩ := h2.rd
  obtain ⟨eo, ec, rfl, r3⟩ := h3.rd
  obtain ⟨ao', ac', rfl, s1⟩ := k1.rd (by omega)
  obtain ⟨bo', bc', rfl, s2⟩ := k2.rd (by omega) n4'
  obtain ⟨eo', ec', rfl, s3⟩ := k3.rd (by omega) n5'
  have HO : Hid (∀ wx, Below w.heap.size w wx → Calls Tryd.prog 10 #[.agg #[(.slice ao cs.length ac), (.slice bo gs.length bc), .int .i64 t, (.slice eo ls.length ec), .int .i64 K, .int .i64 D, .int .i64 L]] wx fun e w' => ∃ uC uG uL, e = .returned (.agg #[uC, uG, .int .i64 t, uL, .int .i64 K, .int .i64 D, .int .i64 L]) ∧ OwnUi w' wx.heap.size uC cs ∧ MkU w' wx.heap.size uG gs ∧ MkU w' wx.heap.size uL ls ∧ Below wx.heap.size wx w') := fun wx hb => ofProp_any _ _ _ _ _ _ _ _ _ cs gs ls t K D L wx (r1.later hb) (r2.later hb) (r3.later hb) (by omega) (by omega) (by omega) n4' n5'
  have HS : Hid (∀ wx, Below w.heap.size w wx → ∀ o1 c1 o2 c2 o3 c3, RdU wx o1 cs.length c1 cs → RdUU wx o2 gs.length c2 gs → RdUU wx o3 ls.length c3 ls → Calls Tryd.prog 31 #[.agg #[.slice o1 cs.length c1, .slice o2 gs.length c2, .int .i64 t, .slice o3 ls.length c3, .int .i64 K, .int .i64 D, .int .i64 L], .agg #[(.slice ao' cs.length ac'), (.slice bo' gs.length bc'), .int .i64 t, (.slice eo' ls.length ec'), .int .i64 K, .int .i64 D, .int .i64 L]] wx fun e w' => e = .returned (.bool true) ∧ Below wx.heap.size wx w') := fun wx hb o1 c1 o2 c2 o3 c3 q1 q2 q3 => sameProp_any _ _ _ _ _ _ _ _ _ _ _ _ _ _ _ cs gs ls t K D L wx q1 (s1.later hb) q2 (s2.later hb) q3 (s3.later hb)
  have H3 : Hid (∀ wx, Below w.heap.size w wx → Calls Tryd.prog 32 #[.slice ao cs.length ac, .slice ao' cs.length ac'] wx fun e w' => e = .returned (.bool true) ∧ Below wx.heap.size wx w') := fun wx hb => stand_any b _ cs ao' ac' wx (h1.later hb) (s1.later hb)
  have H4 : Hid (∀ wx, Below w.heap.size w wx → Calls Tryd.prog 33 #[.slice bo gs.length bc, .slice bo' gs.length bc'] wx fun e w' => e = .returned (.bool true) ∧ Below wx.heap.size wx w') := fun wx hb => listsStand_any b _ gs bo' bc' wx (h2.later hb) (s2.later hb)
  have H5 : Hid (∀ wx, Below w.heap.size w wx → Calls Tryd.prog 33 #[.slice eo ls.length ec, .slice eo' ls.length ec'] wx fun e w' => e = .returned (.bool true) ∧ Below wx.heap.size wx w') := fun wx hb => listsStand_any b _ ls eo' ec' wx (h3.later hb) (s3.later hb)
  have N4 : Hid _ := n4'
  have N5 : Hid _ := n5'
  clear h1 h2 h3 k1 k2 k3 r1 r2 r3 s1 s2 s3 n4 n5 n4' n5'
  go_enter Tryd.func13, Tryd.ntmps13
  go_upto_region 1 with fail
  have k0 := alloc_kept (heap_alloc_new w (Obj.cells #[(.slice ao cs.length ac), (.slice bo gs.length bc), .int .i64 t, (.slice eo ls.length ec), .int .i64 K, .int .i64 D, .int .i64 L] 27)) (Obj.cells #[(.slice ao' cs.length ac'), (.slice bo' gs.length bc'), .int .i64 t, (.slice eo' ls.length ec'), .int .i64 K, .int .i64 D, .int .i64 L] 32)
  have k1 := heap_at (w.alloc (Obj.cells #[(.slice ao cs.length ac), (.slice bo gs.length bc), .int .i64 t, (.slice eo ls.length ec), .int .i64 K, .int .i64 D, .int .i64 L] 27)) (Obj.cells #[(.slice ao' cs.length ac'), (.slice bo' gs.length bc'), .int .i64 t, (.slice eo' ls.length ec'), .int .i64 K, .int .i64 D, .int .i64 L] 32) (w.heap.size + 1) (by simp only [alloc_size])
  have hb0 := ((Below.refl _ w).alloc (Nat.le_refl _) (Obj.cells #[(.slice ao cs.length ac), (.slice bo gs.length bc), .int .i64 t, (.slice eo ls.length ec), .int .i64 K, .int .i64 D, .int .i64 L] 27)).alloc (by simp only [alloc_size]; omega) (Obj.cells #[(.slice ao' cs.length ac'), (.slice bo' gs.length bc'), .int .i64 t, (.slice eo' ls.length ec'), .int .i64 K, .int .i64 D, .int .i64 L] 32)
  obtain ⟨W0, hW0⟩ : ∃ W0, (w.alloc (Obj.cells #[(.slice ao cs.length ac), (.slice bo gs.length bc), .int .i64 t, (.slice eo ls.length ec), .int .i64 K, .int .i64 D, .int .i64 L] 27)).alloc (Obj.cells #[(.slice ao' cs.length ac'), (.slice bo' gs.length bc'), .int .i64 t, (.slice eo' ls.length ec'), .int .i64 K, .int .i64 D, .int .i64 L] 32) = W0 := ⟨_, rfl⟩
  rw [hW0] at k0 k1 hb0 ⊢
  clear hW0
  have HB0 : Hid (Below w.heap.size w W0) := hb0
  have HC : Hid (∀ wx wy, Below W0.heap.size W0 wx → Below wx.heap.size wx wy → Below W0.heap.size W0 wy ∧ wy.cell? ⟨w.heap.size, 0, none⟩ = some (.slice ao cs.length ac) ∧ wy.cell? ⟨w.heap.size, 1, none⟩ = some (.slice bo gs.length bc) ∧ wy.cell? ⟨w.heap.size, 2, none⟩ = some (.int .i64 t) ∧ wy.cell? ⟨w.heap.size, 3, none⟩ = some (.slice eo ls.length ec) ∧ wy.cell? ⟨w.heap.size, 4, none⟩ = some (.int .i64 K) ∧ wy.cell? ⟨w.heap.size, 5, none⟩ = some (.int .i64 D) ∧ wy.cell? ⟨w.heap.size, 6, none⟩ = some (.int .i64 L) ∧ wy.cell? ⟨w.heap.size + 1, 0, none⟩ = some (.slice ao' cs.length ac') ∧ wy.cell? ⟨w.heap.size + 1, 1, none⟩ = some (.slice bo' gs.length bc') ∧ wy.cell? ⟨w.heap.size + 1, 2, none⟩ = some (.int .i64 t) ∧ wy.cell? ⟨w.heap.size + 1, 3, none⟩ = some (.slice eo' ls.length ec') ∧ wy.cell? ⟨w.heap.size + 1, 4, none⟩ = some (.int .i64 K) ∧ wy.cell? ⟨w.heap.size + 1, 5, none⟩ = some (.int .i64 D) ∧ wy.cell? ⟨w.heap.size + 1, 6, none⟩ = some (.int .i64 L)) := by
    intro wx wy q1 q2
    have q := to_call q1 q2
    obtain ⟨a0, a1, a2, a3, a4, a5, a6⟩ := cells7 (kept q k0)
    obtain ⟨d0, d1, d2, d3, d4, d5, d6⟩ := cells7 (kept q k1)
    exact ⟨q, a0, a1, a2, a3, a4, a5, a6, d0, d1, d2, d3, d4, d5, d6⟩
  have HQ : Hid (∀ wy, Below W0.heap.size W0 wy → Below w.heap.size w wy) := fun wy q => HB0.out.trans (q.mono HB0.out.size)
  obtain ⟨a0, a1, a2, a3, a4, a5, a6⟩ := cells7 k0
  obtain ⟨d0, d1, d2, d3, d4, d5, d6⟩ := cells7 k1
  clear k0 k1 hb0
  first
    | (go_region_held3 (fun w' => w'.cell? ⟨w.heap.size, 0, none⟩ = some (.slice ao cs.length ac) ∧ w'.cell? ⟨w.heap.size, 1, none⟩ = some (.slice bo gs.length bc) ∧ w'.cell? ⟨w.heap.size, 2, none⟩ = some (.int .i64 t) ∧ w'.cell? ⟨w.heap.size, 3, none⟩ = some (.slice eo ls.length ec) ∧ w'.cell? ⟨w.heap.size, 4, none⟩ = some (.int .i64 K) ∧ w'.cell? ⟨w.heap.size, 5, none⟩ = some (.int .i64 D) ∧ w'.cell? ⟨w.heap.size, 6, none⟩ = some (.int .i64 L) ∧ w'.cell? ⟨w.heap.size + 1, 0, none⟩ = some (.slice ao' cs.length ac') ∧ w'.cell? ⟨w.heap.size + 1, 1, none⟩ = some (.slice bo' gs.length bc') ∧ w'.cell? ⟨w.heap.size + 1, 2, none⟩ = some (.int .i64 t) ∧ w'.cell? ⟨w.heap.size + 1, 3, none⟩ = some (.slice eo' ls.length ec') ∧ w'.cell? ⟨w.heap.size + 1, 4, none⟩ = some (.int .i64 K) ∧ w'.cell? ⟨w.heap.size + 1, 5, none⟩ = some (.int .i64 D) ∧ w'.cell? ⟨w.heap.size + 1, 6, none⟩ = some (.int .i64 L)) (go_keep) ((first
        | (go_at_call 10; refine Calls.mono (HO.out _ HB0.out.drew) ?_; rintro e x1 ⟨y1, y2, y3, rfl, m1, m2, m3, bx1⟩; obtain ⟨o1, c1, rfl, z1⟩ := m1.rd (by omega); obtain ⟨o2, c2, rfl, z2⟩ := m2.rd (by omega) N4.out; obtain ⟨o3, c3, rfl, z3⟩ := m3.rd (by omega) N5.out; obtain ⟨q1, e0, e1, e2, e3, e4, e5, e6, e7, e8, e9, e10, e11, e12, e13⟩ := HC.out _ x1 (Below.refl _ _).drew bx1; have Z1 : Hid _ := z1; have Z2 : Hid _ := z2; have Z3 : Hid _ := z3; clear m1 m2 m3 z1 z2 z3)
        | (go_at_call 31; refine Calls.mono (HS.out _ (HQ.out _ q1) o1 c1 o2 c2 o3 c3 Z1.out Z2.out Z3.out) ?_; rintro e x2 ⟨rfl, bx2⟩; obtain ⟨q2, f0, f1, f2, f3, f4, f5, f6, f7, f8, f9, f10, f11, f12, f13⟩ := HC.out _ x2 q1 bx2)
        | (go_at_call 32; refine Calls.mono (H3.out _ (HQ.out _ q2)) ?_; rintro e x3 ⟨rfl, bx3⟩; obtain ⟨q3, g0, g1, g2, g3, g4, g5, g6, g7, g8, g9, g10, g11, g12, g13⟩ := HC.out _ x3 q2 bx3)
        | (go_at_call_of 33 (Value.slice bo gs.length bc); refine Calls.mono (H4.out _ (HQ.out _ q3)) ?_; rintro e x4 ⟨rfl, bx4⟩; obtain ⟨q4, i0, i1, i2, i3, i4, i5, i6, i7, i8, i9, i10, i11, i12, i13⟩ := HC.out _ x4 q3 bx4)
        | (go_at_call_of 33 (Value.slice eo ls.length ec); refine Calls.mono (H5.out _ (HQ.out _ q4)) ?_; rintro e x5 ⟨rfl, bx5⟩; obtain ⟨q5, j0, j1, j2, j3, j4, j5, j6, j7, j8, j9, j10, j11, j12, j13⟩ := HC.out _ x5 q4 bx5))))
    | fail
  go_wp2
  go_ret
  exact ⟨rfl, HQ.out _ q5⟩
end Go.Proofs.YtnhaapnmgjlbjaaDoor
