import Derived.Test.YtjeghdmclmelfaaGreatMU
import Derived.Test.YtjeghdmclmelfaaGreatMZ
namespace Go.Proofs.YtjeghdmclmelfaaGreat
open Go.RowKit
set_option linter.unusedVariables false
structure Six (w V : World) (R Q X Y S : Nat) (so : Obj) (nx ny : Bool) (ao bo : Option Addr) (len cap blen bcap : Nat) (ex ey : Int) (E : Nat) (z1 z2 : Int) : Prop where
 hx : V.heap[X]? = some (Obj.cells #[Value.bool nx, Value.slice ao len cap, Value.int IntKind.i64 ex] 72)
 hy : V.heap[Y]? = some (Obj.cells #[Value.bool ny, Value.slice bo blen bcap, Value.int IntKind.i64 ey] 72)
 hs : V.heap[S]? = some so
 hr : NumB V R
 hq : NumB V Q
 zx : NumZ V (.agg #[Value.bool nx, Value.slice ao len cap, Value.int IntKind.i64 ex]) E 1024 z1
 zy : NumZ V (.agg #[Value.bool ny, Value.slice bo blen bcap, Value.int IntKind.i64 ey]) E 1024 z2
 bel : Below w.heap.size w V
 base : w.heap.size ≤ R ∧ w.heap.size ≤ Q
 apart : R ≠ Q ∧ R ≠ X ∧ R ≠ Y ∧ Q ≠ X ∧ Q ≠ Y ∧ R ≠ S ∧ Q ≠ S
variable {w V : World} {R Q X Y S : Nat} {so : Obj} {nx ny : Bool} {ao bo : Option Addr} {len cap blen bcap : Nat} {ex ey : Int} {E : Nat} {z1 z2 : Int}
end Go.Proofs.YtjeghdmclmelfaaGreat
namespace Go.Proofs.YtjeghdmclmelfaaGreat
open Go.RowKit
set_option linter.unusedVariables false
theorem refBad_any (w : World) : Calls Tryz.prog 87 #[] w fun e w' => e = .returned (.agg #[.int .u64 0, .int .u64 0, .bool true]) ∧ Below w.heap.size w w' := by
 go_enter Tryz.func87, Tryz.ntmps87
 go_wp2
 refine bodyPost_ret (v := .agg #[.int .u64 0, .int .u64 0, .bool true]) (res_su _ 0 (by kernel_rfl) _ _ w.heap.size _ _ _ ?_ (heap_alloc_new w _)) rfl ?_
 ·rfl
 ·exact ⟨rfl, (Below.refl _ w).alloc (Nat.le_refl _) _⟩
def RefAns (w : World) (P : Nat × Nat × Bool → Prop) (e : Ending) (w' : World) : Prop := ∃ r : Nat × Nat × Bool, e = .returned (.agg #[.int .u64 (r.1 : Int), .int .u64 (r.2.1 : Int), .bool r.2.2]) ∧ P r ∧ Below w.heap.size w w'
set_option maxRecDepth 100000 in
set_option maxHeartbeats 2000000 in
theorem refOf_any (v u : Value) (s k : Nat) (T1 T2 z1 z2 : Int) (w : World) (h1 : NumZ w v s T1 z1) (h2 : NumZ w u s T2 z2) (E : Nat) (hE : E = 1074) (hs : s = E + k) (hs2 : s ≤ 4000) (hT1 : 0 ≤ T1 ∧ T1 ≤ 4000) (hT2 : 0 ≤ T2 ∧ T2 ≤ 4000) :
  Calls Tryz.prog 48 #[v, u] w fun e w' => RefAns w (SpR z1 z2 (2 ^ k)) e w' := by
 have ZV : Hid (NumZ w v s T1 z1) := h1
 have ZU : Hid (NumZ w u s T2 z2) := h2
 obtain ⟨nx, mx, ex, ⟨ao, len, cap, xs, rfl, -⟩, -⟩ := h1
 obtain ⟨ny, my, ey, ⟨bo, blen, bcap, ys, rfl, -⟩, -⟩ := h2
 obtain ⟨g0, g1, g2, gz, gb⟩ := alloc3_facts w (Obj.cells #[Value.bool nx, Value.slice ao len cap, Value.int IntKind.i64 ex] 72) (Obj.cells #[Value.bool ny, Value.slice bo blen bcap, Value.int IntKind.i64 ey] 72) (Obj.cells #[Value.int .u64 0, .int .u64 0, .bool false] 93)
 have G0 : Hid _ := g0
 have G1 : Hid _ := g1
 have G2 : Hid _ := g2
 have GB : Hid _ := gb
 clear g0 g1 g2 gz gb
 go_enter Tryz.func48, Tryz.ntmps48
 go_upto_region 1 with fail
 generalize (((w.alloc (Obj.cells #[Value.bool nx, Value.slice ao len cap, Value.int IntKind.i64 ex] 72)).alloc (Obj.cells #[Value.bool ny, Value.slice bo blen bcap, Value.int IntKind.i64 ey] 72)).alloc (Obj.cells #[Value.int .u64 0, .int .u64 0, .bool false] 93)) = W0 at G0 G1 G2 GB ⊢
 obtain ⟨x0, x1, x2⟩ := cells3 G0.out
 go_wp2_with fail
 refine Calls.mono (roundZ_any 2 _ s k T1 z1 _ (ZV.out.later GB.out) E hE hs hs2 hT1 (by decide) (by decide)) ?_
 rintro e1 w1 ⟨p1, p2, rfl, hR1, bw⟩
 have RP : Hid (RndZ 2 z1 (2 ^ k) (p1, p2)) := hR1
 have G1' : Hid _ := (bw.block _ (blk_lt G1.out)).trans G1.out
 have G2' : Hid _ := (bw.block _ (blk_lt G2.out)).trans G2.out
 have C1 : Hid (Below w.heap.size w w1) := GB.out.trans (bw.mono GB.out.size)
 clear bw hR1 G0 G1 G2 GB x0 x1 x2
 obtain ⟨y0, y1, y2⟩ := cells3 G1'.out
 go_wp2_with fail
 refine Calls.mono (roundZ_any 1 _ s k T2 z2 _ (ZU.out.later C1.out) E hE hs hs2 hT2 (by decide) (by decide)) ?_
 rintro e2 w3 ⟨q1, q2, rfl, hR2, bw⟩
 have RQ : Hid (RndZ 1 z2 (2 ^ k) (q1, q2)) := hR2
 have R3 : Hid _ := (bw.block _ (blk_lt G2'.out)).trans G2'.out
 have C3 : Hid (Below w.heap.size w w3) := C1.out.trans (bw.mono C1.out.size)
 clear bw hR2 G1' G2' C1 y0 y1 y2 ZV ZU
 cases p2
 ·have HSP : Hid (SpR z1 z2 (2 ^ k) (0, 0, true)) := ⟨_, _, RP.out, RQ.out, by unfold spOf; rw [if_neg (fun c => by have := c.1; cases this)]⟩
  clear RP RQ
  go_wp2_with fail
  refine Calls.mono (refBad_any _) ?_
  rintro e w4 ⟨rfl, bw⟩
  have R4 : Hid _ := (bw.block _ (blk_lt R3.out)).trans R3.out
  have C4 : Hid (Below w.heap.size w w4) := C3.out.trans (bw.mono C3.out.size)
  clear bw
  obtain ⟨r0, r1, r2⟩ := cells3 R4.out
  have fz := fun j => frozen_of_row _ _ j _ _ R4.out
  go_wp2_with fail
  refine bodyPost_ret (v := .agg #[.int .u64 0, .int .u64 0, .bool true]) (res_su _ 4 (by kernel_rfl) _ _ (w.heap.size + 1 + 1) _ _ _ ?_ (setsp_heap _ _ _ R4.out)) rfl ?_
  ·rfl
  ·exact ⟨(0, 0, true), rfl, HSP.out, below_setsp _ _ _ C4.out (by omega)⟩
 ·cases q2
  ·have HSP : Hid (SpR z1 z2 (2 ^ k) (0, 0, true)) := ⟨_, _, RP.out, RQ.out, by unfold spOf; rw [if_neg (fun c => by have := c.2; cases this)]⟩
   clear RP RQ
   go_wp2_with fail
   refine Calls.mono (refBad_any _) ?_
   rintro e w4 ⟨rfl, bw⟩
   have R4 : Hid _ := (bw.block _ (blk_lt R3.out)).trans R3.out
   have C4 : Hid (Below w.heap.size w w4) := C3.out.trans (bw.mono C3.out.size)
   clear bw
   obtain ⟨r0, r1, r2⟩ := cells3 R4.out
   have fz := fun j => frozen_of_row _ _ j _ _ R4.out
   go_wp2_with fail
   refine bodyPost_ret (v := .agg #[.int .u64 0, .int .u64 0, .bool true]) (res_su _ 4 (by kernel_rfl) _ _ (w.heap.size + 1 + 1) _ _ _ ?_ (setsp_heap _ _ _ R4.out)) rfl ?_
   ·rfl
   ·exact ⟨(0, 0, true), rfl, HSP.out, below_setsp _ _ _ C4.out (by omega)⟩
  ·have HSP : Hid (SpR z1 z2 (2 ^ k) (p1, q1, false)) := ⟨_, _, RP.out, RQ.out, by unfold spOf; rw [if_pos ⟨rfl, rfl⟩]⟩
   clear RP RQ
   obtain ⟨r0, r1, r2⟩ := cells3 R3.out
   have fz := fun j => frozen_of_row _ _ j _ _ R3.out
   go_wp2_with fail
   refine bodyPost_ret (v := .agg #[.int .u64 (p1 : Int), .int .u64 (q1 : Int), .bool false]) (res_su _ 4 (by kernel_rfl) _ _ (w.heap.size + 1 + 1) _ _ _ ?_ (setsp_heap _ _ _ R3.out)) rfl ?_
   ·rfl
   ·exact ⟨(p1, q1, false), rfl, HSP.out, below_setsp _ _ _ C3.out (by omega)⟩
end Go.Proofs.YtjeghdmclmelfaaGreat
namespace Go.Proofs.YtjeghdmclmelfaaGreat
open Go.RowKit
set_option linter.unusedVariables false
end Go.Proofs.YtjeghdmclmelfaaGreat
namespace Go.Proofs.YtjeghdmclmelfaaGreat
open Go.RowKit
set_option linter.unusedVariables false
set_option maxRecDepth 100000 in
set_option maxHeartbeats 2000000 in
theorem sameRef_any (lo hi : Nat) (bad : Bool) (w : World) :
  Calls Tryz.prog 44 #[.agg #[Value.float .f64 lo, .float .f64 hi, .bool bad], .agg #[Value.int .u64 (lo : Int), .int .u64 (hi : Int), .bool bad]] w fun e w' => e = .returned (.bool true) ∧ Below w.heap.size w w' := by
 obtain ⟨g0, g1, -, gb⟩ := alloc2_facts w (Obj.cells #[Value.float .f64 lo, .float .f64 hi, .bool bad] 91) (Obj.cells #[Value.int .u64 (lo : Int), .int .u64 (hi : Int), .bool bad] 93)
 have GB : Hid _ := gb
 obtain ⟨a0, a1, a2⟩ := cells3 g0
 obtain ⟨r0, r1, r2⟩ := cells3 g1
 clear g0 g1 gb
 have HB1 : Hid (∀ w, Calls Tryz.prog 12 #[.float .f64 lo] w fun e w' => e = .returned (.int .u64 (lo : Int)) ∧ w' = w) := fun w => bits_any lo w
 have HB2 : Hid (∀ w, Calls Tryz.prog 12 #[.float .f64 hi] w fun e w' => e = .returned (.int .u64 (hi : Int)) ∧ w' = w) := fun w => bits_any hi w
 have qb : (bad == bad) = true := by cases bad <;> rfl
 go_enter Tryz.func44, Tryz.ntmps44
 go_upto_region 1 with fail
 generalize ((w.alloc (Obj.cells #[Value.float .f64 lo, .float .f64 hi, .bool bad] 91)).alloc (Obj.cells #[Value.int .u64 (lo : Int), .int .u64 (hi : Int), .bool bad] 93)) = W0 at a0 a1 a2 r0 r1 r2 GB ⊢
 go_region_held3 (fun w' => (w'.cell? ⟨w.heap.size, 0, none⟩ = some (.float .f64 lo) ∧ w'.cell? ⟨w.heap.size, 1, none⟩ = some (.float .f64 hi) ∧ w'.cell? ⟨w.heap.size, 2, none⟩ = some (.bool bad)) ∧ (w'.cell? ⟨w.heap.size + 1, 0, none⟩ = some (.int .u64 (lo : Int)) ∧ w'.cell? ⟨w.heap.size + 1, 1, none⟩ = some (.int .u64 (hi : Int)) ∧ w'.cell? ⟨w.heap.size + 1, 2, none⟩ = some (.bool bad))) (go_keep) ((first | (go_at_call_of 12 (Value.float FloatKind.f64 lo); refine Calls.mono (HB1.out _) ?_; rintro e wf ⟨rfl, rfl⟩) | (go_at_call_of 12 (Value.float FloatKind.f64 hi); refine Calls.mono (HB2.out _) ?_; rintro e wf ⟨rfl, rfl⟩)))
 all_goals
  go_wp2_with fail
  go_ret
  exact ⟨rfl, GB.out.drew⟩
end Go.Proofs.YtjeghdmclmelfaaGreat
