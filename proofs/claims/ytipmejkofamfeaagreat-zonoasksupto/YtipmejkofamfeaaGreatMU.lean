import Derived.Test.YtipmejkofamfeaaGreatMT
namespace Go.Proofs.YtipmejkofamfeaaGreat
open Go.RowKit
set_option linter.unusedVariables false

theorem far4_down {X1 X2 X3 X4 : Int} {D : Nat} {p1 p2 p3 p4 : Nat × Bool} (hD : 0 < D) (h1 : RndB 2 X1 D p1) (h2 : RndB 2 X2 D p2) (h3 : RndB 2 X3 D p3) (h4 : RndB 2 X4 D p4) : RndB 2 (min4 X1 X2 X3 X4) D (far4 2 p1 p2 p3 p4) := by
  have := ((h1.down2 hD h2).down2 hD h3).down2 hD h4
  unfold far4 farX min4
  rw [if_pos rfl, if_pos rfl, if_pos rfl]
  exact this
theorem far4_up {X1 X2 X3 X4 : Int} {D : Nat} {p1 p2 p3 p4 : Nat × Bool} (hD : 0 < D) (h1 : RndB 1 X1 D p1) (h2 : RndB 1 X2 D p2) (h3 : RndB 1 X3 D p3) (h4 : RndB 1 X4 D p4) : RndB 1 (max4 X1 X2 X3 X4) D (far4 1 p1 p2 p3 p4) := by
  have := ((h1.up2 hD h2).up2 hD h3).up2 hD h4
  unfold far4 farX max4
  rw [if_neg (by decide), if_neg (by decide), if_neg (by decide)]
  exact this
/-- What is asked of a call's answer. -/
def Ans (F : Nat) (args : Array Value) (r : Nat × Nat × Bool) : Prop := ∀ w, Calls Tryz.prog F args w fun e w' => e = .returned (.agg #[.float .f64 r.1, .float .f64 r.2.1, .bool r.2.2]) ∧ Below w.heap.size w w'
theorem blk_lt {W : World} {B : Nat} {o : Obj} (h : W.heap[B]? = some o) : B < W.heap.size := by
  rcases Nat.lt_or_ge B W.heap.size with c | c
  · exact c
  · rw [Array.getElem?_eq_none c] at h; cases h
theorem alloc4 {W : World} {B : Nat} {o : Obj} {w0 : World} (h : W.heap[B]? = some o) (hb : Below w0.heap.size w0 W) (s : Obj) : (W.alloc s).heap[B]? = some o ∧ Below w0.heap.size w0 (W.alloc s) :=
  ⟨(((Below.refl _ W).alloc (Nat.le_refl _) s).block B (blk_lt h)).trans h, hb.alloc hb.size _⟩
end Go.Proofs.YtipmejkofamfeaaGreat

namespace Go.Proofs.YtipmejkofamfeaaGreat
open Go.RowKit
set_option linter.unusedVariables false

/-- A number lies between two. -/
def leF (x y : Nat) : Bool := decide (frung x ≤ infK ∧ frung y ≤ infK ∧ srung x ≤ srung y)
def hasB (lo hi a : Nat) : Bool := leF lo a && leF a hi
theorem leF_ord (x y : Nat) : (FloatKind.f64.format.order x y == some .lt || FloatKind.f64.format.order x y == some .eq) = leF x y := by rw [f64_fmt, ord_le]; rfl
theorem alloc1_facts (w : World) (o : Obj) : (w.alloc o).heap[w.heap.size]? = some o ∧ Below w.heap.size w (w.alloc o) := ⟨heap_alloc_new w o, (Below.refl _ w).alloc (Nat.le_refl _) _⟩
end Go.Proofs.YtipmejkofamfeaaGreat

namespace Go.Proofs.YtipmejkofamfeaaGreat
open Go.RowKit
set_option linter.unusedVariables false
theorem good_mono {lo hi : Nat} {b : Bool} (h : Good lo hi b) : fval lo ≤ fval hi := (srung_le lo hi).1 h.2.2.2
theorem apart_zero {bl bh : Nat} {bb : Bool} (hg : Good bl bh bb) (hz : hasB bl bh 0 = false) : 0 < fval bl * fval bh := by
  have h0 : srung 0 = 0 := by decide
  have h1 : frung 0 ≤ infK := by decide
  have k1 : frung bl ≤ infK := Nat.le_of_lt hg.2.1
  have k2 : frung bh ≤ infK := Nat.le_of_lt hg.2.2.1
  have hn : ¬ (srung bl ≤ 0 ∧ 0 ≤ srung bh) := by
    intro c
    unfold hasB leF at hz
    rw [h0, decide_eq_true ⟨k1, h1, c.1⟩, decide_eq_true ⟨h1, k2, c.2⟩] at hz
    cases hz
  have hle := hg.2.2.2
  rcases Int.lt_or_le 0 (srung bl) with c | c
  · exact Int.mul_pos ((srung_pos _).1 c) ((srung_pos _).1 (by omega))
  · exact Int.mul_pos_of_neg_of_neg ((srung_neg _).1 (by omega)) ((srung_neg _).1 (by omega))
/-- The span of all products. -/
def MulR (al ah bl bh : Nat) (ab bb : Bool) (E : Nat) (r : Nat × Nat × Bool) : Prop :=
  if Good al ah ab ∧ Good bl bh bb then SpR (min4 (fval al * fval bl) (fval al * fval bh) (fval ah * fval bl) (fval ah * fval bh)) (max4 (fval al * fval bl) (fval al * fval bh) (fval ah * fval bl) (fval ah * fval bh)) (2 ^ E) r else r = (0, 0, true)
/-- The span of all quotients. -/
def DivR (al ah bl bh : Nat) (ab bb : Bool) (E : Nat) (r : Nat × Nat × Bool) : Prop :=
  if Good al ah ab ∧ Good bl bh bb ∧ hasB bl bh 0 = false then SpR (min4 (fval al * fval bh * ((2 ^ E : Nat) : Int)) (fval al * fval bl * ((2 ^ E : Nat) : Int)) (fval ah * fval bh * ((2 ^ E : Nat) : Int)) (fval ah * fval bl * ((2 ^ E : Nat) : Int))) (max4 (fval al * fval bh * ((2 ^ E : Nat) : Int)) (fval al * fval bl * ((2 ^ E : Nat) : Int)) (fval ah * fval bh * ((2 ^ E : Nat) : Int)) (fval ah * fval bl * ((2 ^ E : Nat) : Int))) (fval bl * fval bh).natAbs r else r = (0, 0, true)
theorem MulR.uniq {al ah bl bh : Nat} {ab bb : Bool} {E : Nat} {r s : Nat × Nat × Bool} (h : MulR al ah bl bh ab bb E r) (h' : MulR al ah bl bh ab bb E s) : r = s := by
  unfold MulR at h h'; split at h
  · rename_i c; rw [if_pos c] at h'; exact h.uniq h'
  · rename_i c; rw [if_neg c] at h'; rw [h, h']
theorem DivR.uniq {al ah bl bh : Nat} {ab bb : Bool} {E : Nat} {r s : Nat × Nat × Bool} (h : DivR al ah bl bh ab bb E r) (h' : DivR al ah bl bh ab bb E s) : r = s := by
  unfold DivR at h h'; split at h
  · rename_i c; rw [if_pos c] at h'; exact h.uniq h'
  · rename_i c; rw [if_neg c] at h'; rw [h, h']
end Go.Proofs.YtipmejkofamfeaaGreat

namespace Go.Proofs.YtipmejkofamfeaaGreat
open Go.RowKit
set_option linter.unusedVariables false

theorem sp_m1 : makeS 13835058055282163712 4613937818241073152 = (13835058055282163712, 4613937818241073152, false) := by decide
theorem sp_m2 : makeS 13840687554816376832 4619567317775286272 = (13840687554816376832, 4619567317775286272, false) := by decide
theorem sp_m3 : makeS 4607182418800017408 4611686018427387904 = (4607182418800017408, 4611686018427387904, false) := by decide
theorem sp_m4 : makeS 4613937818241073152 4616189618054758400 = (4613937818241073152, 4616189618054758400, false) := by decide
theorem sp_m5 : makeS 4607182418800017408 4607182418800017408 = (4607182418800017408, 4607182418800017408, false) := by decide
theorem sp_m6 : makeS 13830554455654793216 4607182418800017408 = (13830554455654793216, 4607182418800017408, false) := by decide
theorem sp_a : MulR 13835058055282163712 4613937818241073152 13840687554816376832 4619567317775286272 false false 1074 (13848005904210853888, 4626604192193052672, false) := by
  unfold MulR
  rw [if_pos (by decide)]
  exact ⟨(13848005904210853888, true), (4626604192193052672, true), ⟨4624633867356078080, ⟨by decide +kernel, by decide +kernel⟩, by decide +kernel⟩, ⟨4626604192193052672, ⟨by decide +kernel, by decide +kernel⟩, by decide +kernel⟩, by decide⟩
theorem sp_b : DivR 4607182418800017408 4611686018427387904 4613937818241073152 4616189618054758400 false false 1074 (4598175219545276416, 4604180019048437078, false) := by
  unfold DivR
  rw [if_pos (by decide)]
  exact ⟨(4598175219545276416, true), (4604180019048437078, true), ⟨4598175219545276416, ⟨by decide +kernel, by decide +kernel⟩, by decide +kernel⟩, ⟨4604180019048437077, ⟨by decide +kernel, by decide +kernel⟩, by decide +kernel⟩, by decide⟩
theorem sp_c : DivR 4607182418800017408 4607182418800017408 13830554455654793216 4607182418800017408 false false 1074 (0, 0, true) := by
  unfold DivR
  rw [if_neg (by decide)]
theorem make_at {lo hi : Nat} (hlo : lo < 18446744073709551616) (hhi : hi < 18446744073709551616) {r : Nat × Nat × Bool} (h : makeS lo hi = r) : Ans 76 #[.float .f64 lo, .float .f64 hi] r := by
  intro w; have := make_any lo hi hlo hhi w; rw [h] at this; exact this
end Go.Proofs.YtipmejkofamfeaaGreat
