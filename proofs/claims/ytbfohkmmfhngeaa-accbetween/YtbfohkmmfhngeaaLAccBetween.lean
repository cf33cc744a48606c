import Derived.Test.YtbfohkmmfhngeaaBB
namespace Go.Proofs.Ytbfohkmmfhngeaa
open Go.RowKit
set_option linter.unusedVariables false

theorem psum_take {ts : List TmV} {k : Nat} (h : k < ts.length) : psum (ts.take (k + 1)) = psum (ts.take k) + prT ts[k] := by
  have e : ts.take (k + 1) = ts.take k ++ [ts[k]] := by rw [List.take_add_one, List.getElem?_eq_getElem h]; rfl
  rw [e, psum_append, psum_one]
theorem getT' {ts : List TmV} {k : Nat} (h : k < ts.length) : ts[k]?.getD tmD = ts[k] := by rw [List.getElem?_eq_getElem h]; rfl
/-- What the loop keeps. -/
structure BtS (w1 wr : World) (Bx Pv : Nat) (n0 : Bool) (o0 : Option Addr) (l0 c0 : Nat) (e0 : Int) (E : Nat) (T z : Int) : Prop where
  bel : Below w1.heap.size w1 wr
  ax : AccO wr Bx (some z)
  hp : wr.heap[Pv]? = some (Obj.cells #[Value.bool n0, Value.slice o0 l0 c0, Value.int IntKind.i64 e0] 29)
  num : NumZ wr (.agg #[.bool n0, .slice o0 l0 c0, .int .i64 e0]) (E + (E + 92)) T z
theorem BtS.later {w1 wr wy : World} {Bx Pv : Nat} {n0 : Bool} {o0 : Option Addr} {l0 c0 : Nat} {e0 : Int} {E : Nat} {T z : Int} (h : BtS w1 wr Bx Pv n0 o0 l0 c0 e0 E T z) (hb : Below wr.heap.size wr wy) : BtS w1 wy Bx Pv n0 o0 l0 c0 e0 E T z :=
  ⟨h.bel.trans (hb.mono h.bel.size), h.ax.below hb h.ax.block, (hb.block Pv (Array.getElem?_eq_some_iff.1 h.hp).1).trans h.hp, h.num.later hb⟩
theorem BtS.into {w1 wr wy : World} {Bx Pv : Nat} {n0 : Bool} {o0 : Option Addr} {l0 c0 : Nat} {e0 : Int} {E : Nat} {T z z' : Int} (h : BtS w1 wr Bx Pv n0 o0 l0 c0 e0 E T z) (hc : Chg Bx wr wy) (ha : AccO wy Bx (some z')) (hx : w1.heap.size ≤ Bx) (hne : Pv ≠ Bx) : Below w1.heap.size w1 wy ∧ wy.heap[Pv]? = some (Obj.cells #[Value.bool n0, Value.slice o0 l0 c0, Value.int IntKind.i64 e0] 29) ∧ NumZ wy (.agg #[.bool n0, .slice o0 l0 c0, .int .i64 e0]) (E + (E + 92)) T z :=
  ⟨h.bel.trans (hc.below.mono hx), (hc.other Pv (Array.getElem?_eq_some_iff.1 h.hp).1 hne).trans h.hp, h.num.chg h.ax hc⟩
theorem bt_three {z : Int} {D dn up nr : Nat} {ok is fine : Bool} (h : BtE z D dn up nr ok is fine) :
    (ok = false ∧ is = true ∧ srung up = 1 - (infK : Int) ∧ (fine = true → srung nr = srung up) ∧ z ≤ fval up * D) ∨ (ok = true ∧ is = false ∧ srung dn = (infK : Int) - 1 ∧ (fine = true → srung nr = srung dn) ∧ fval dn * D ≤ z) ∨
    (ok = true ∧ is = true ∧ fine = true ∧ fval dn * D ≤ z ∧ z ≤ fval up * D ∧ ((srung up = srung dn ∧ srung nr = srung dn ∧ fval dn * D = z) ∨ (srung up = srung dn + 1 ∧ -(infK : Int) < srung dn ∧ srung up < (infK : Int) ∧ ((2 * z < (fval dn + fval up) * D ∧ srung nr = srung dn) ∨ ((fval dn + fval up) * D < 2 * z ∧ srung nr = srung up) ∨ (2 * z = (fval dn + fval up) * D ∧ srung nr = if srung dn % 2 = 0 then srung dn else srung up))))) := by
  rcases h with ⟨h1, h2, h3, h4, h5⟩ | ⟨h1, h2, h3, h4, h5⟩ | ⟨h1, h2, h3, h4, h5, h6, h7⟩ | ⟨h1, h2, h3, h4, h5, h8, h6, h7, h9⟩
  · exact .inl ⟨h1, h2, h3, h4, h5⟩
  · exact .inr (.inl ⟨h1, h2, h3, h4, h5⟩)
  · exact .inr (.inr ⟨h1, h2, h3, by omega, by omega, .inl ⟨h4, h5, h6⟩⟩)
  · exact .inr (.inr ⟨h1, h2, h3, by omega, by omega, .inr ⟨h4, h5, h8, h9⟩⟩)
/-- The next number, by its bits. -/
theorem next_bits {dn up p : Nat} {b : Bool} {V : Int} {D : Nat} {c : Bool} (hu : RndZ 1 V D (up, c)) (h4 : srung up = srung dn + 1) (h5 : -(infK : Int) < srung dn) (h8 : srung up < (infK : Int)) (h : RndZ 1 (fval dn * 64 + (if (1 : Int) = 1 then 1 else if (1 : Int) = 2 then -1 else 0)) 64 (p, b)) : p = up := by
  rw [if_pos rfl, fval_smag] at h
  have h3 := smag_lt (show srung dn < srung dn + 1 by omega)
  have hf : Sf (smag (srung dn) * 64 + 1) 64 (srung dn) := ⟨by show smag (srung dn) * 64 ≤ _; omega, by show _ < smag (srung dn + 1) * 64; omega⟩
  have hc : ceilK (smag (srung dn) * 64 + 1) 64 (srung dn) = srung dn + 1 := by unfold ceilK; rw [if_neg (by show ¬ (smag (srung dn) * 64 + 1 = smag (srung dn) * 64); omega)]
  have hp := (rz_canon h).2.2
  have hq := (rz_canon hu).2.2
  rcases rz_up h hf with ⟨a1, a2, a3⟩ | ⟨a1, a2⟩
  · rw [hc] at a3
    simp only at a3
    exact canon_inj hp hq (by omega)
  · rw [hc] at a2; omega
theorem most_srung : srung 9218868437227405311 = (infK : Int) - 1 := by decide
theorem most_fopp : srung (fopp 9218868437227405311) = 1 - (infK : Int) := by decide
theorem most_fin : Fin 9218868437227405311 ∧ Fin (fopp 9218868437227405311) := by decide
theorem feq {x y : Nat} (hx : Fin x) (hy : Fin y) : (FloatKind.f64.format.order x y == some .eq) = decide (srung x = srung y) := ord_eq (Nat.le_of_lt hx) (Nat.le_of_lt hy)
theorem and1 (u : Nat) (hu : u < 18446744073709551616) : bits .and .u64 (u : Int) 1 = ((u % 2 : Nat) : Int) := by
  have h1 : (BitVec.ofInt 64 1).toNat = 1 := by decide
  have h2 : (BitVec.ofInt 64 (u : Int)).toNat = u := by
    rw [BitVec.toNat_ofInt]; show ((u : Int) % (18446744073709551616 : Int)).toNat = u; omega
  show IntKind.u64.wrap ((BitVec.ofInt 64 (u : Int) &&& BitVec.ofInt 64 1).toNat : Nat) = _
  rw [BitVec.toNat_and, h1, h2, Nat.and_one_is_mod, IntKind.wrap_u64]
  have := Nat.mod_lt u (show 0 < 2 by omega)
  omega
def zeroN : Obj := Obj.cells #[Value.bool false, Value.slice none 0 0, Value.int IntKind.i64 0] 29
theorem hidI {p : Prop} (h : p) : Hid p := h
theorem keepA {X : World} {B : Nat} {o o' : Obj} (h : X.heap[B]? = some o) : (X.alloc o').heap[B]? = some o := keep0 h ((Below.refl _ X).alloc (Nat.le_refl _) _)
theorem keep1 {X w : World} {B : Nat} {o o' : Obj} (h : X.heap[B]? = some o) (b : Below (X.alloc o').heap.size (X.alloc o') w) : w.heap[B]? = some o := keep0 (keepA h) b
theorem keep2 {X w : World} {B : Nat} {o o' o'' : Obj} (h : X.heap[B]? = some o) (b : Below ((X.alloc o').alloc o'').heap.size ((X.alloc o').alloc o'') w) : w.heap[B]? = some o := keep0 (keepA (keepA h)) b
theorem zb1 {X w : World} {o : Obj} (b : Below (X.alloc o).heap.size (X.alloc o) w) : w.heap[X.heap.size]? = some o := keep0 (heap_alloc_new X o) b
theorem zb1b {X w : World} {o o' : Obj} (b : Below ((X.alloc o).alloc o').heap.size ((X.alloc o).alloc o') w) : w.heap[X.heap.size + 1]? = some o' := by
  have h := zb1 b
  rw [show (X.alloc o).heap.size = X.heap.size + 1 by simp] at h
  exact h
theorem zb2 {X w : World} {o o' : Obj} (b : Below ((X.alloc o).alloc o').heap.size ((X.alloc o).alloc o') w) : w.heap[X.heap.size]? = some o := keep0 (keepA (heap_alloc_new X o)) b
theorem zd1 {X w : World} {o : Obj} (b : Below (X.alloc o).drew.heap.size (X.alloc o).drew w) : w.heap[X.heap.size]? = some o := keep0 (show (X.alloc o).drew.heap[X.heap.size]? = some o from heap_alloc_new X o) b
theorem zd2 {X w : World} {o o' : Obj} (b : Below ((X.alloc o).alloc o').drew.heap.size ((X.alloc o).alloc o').drew w) : w.heap[X.heap.size]? = some o := keep0 (show ((X.alloc o).alloc o').drew.heap[X.heap.size]? = some o from keepA (heap_alloc_new X o)) b
theorem zd1b {X w : World} {o o' : Obj} (b : Below ((X.alloc o).alloc o').drew.heap.size ((X.alloc o).alloc o').drew w) : w.heap[X.heap.size + 1]? = some o' := by
  have h := zd1 b
  rw [show (X.alloc o).heap.size = X.heap.size + 1 by simp] at h
  exact h
theorem al1 {X : World} {o : Obj} {v : Value} {s : Nat} {T z : Int} (h : NumZ X v s T z) : NumZ (X.alloc o) v s T z := h.later ((Below.refl _ X).alloc (Nat.le_refl _) _)
theorem al2 {X : World} {o o' : Obj} {v : Value} {s : Nat} {T z : Int} (h : NumZ X v s T z) : NumZ ((X.alloc o).alloc o') v s T z := al1 (al1 h)
theorem cells_alloc {X : World} {B : Nat} {v0 v1 v2 : Value} (h : X.heap[B]? = some (.cells #[v0, v1, v2] 29)) : ∀ o : Obj, ((X.alloc o).cell? ⟨B, 0, none⟩ = some v0 ∧ (X.alloc o).cell? ⟨B, 1, none⟩ = some v1 ∧ (X.alloc o).cell? ⟨B, 2, none⟩ = some v2) ∧ ∀ j, (X.alloc o).frozen? ⟨B, j, none⟩ = false := fun o => ⟨three_cells (keepA h), fun j => frozen_of_row _ _ j _ _ (keepA h)⟩
theorem ne_new {X : World} {B : Nat} {o : Obj} (h : X.heap[B]? = some o) : B ≠ X.heap.size ∧ X.heap.size ≠ B ∧ B ≠ X.heap.size + 1 ∧ X.heap.size + 1 ≠ B := by
  have := (Array.getElem?_eq_some_iff.1 h).1
  omega
theorem hn2 {X : World} {o o' : Obj} : ((X.alloc o).alloc o').heap[X.heap.size + 1]? = some o' := by
  have h := heap_alloc_new (X.alloc o) o'
  rw [show (X.alloc o).heap.size = X.heap.size + 1 by simp] at h
  exact h
theorem numB_of {w : World} {B : Nat} {n : Bool} {so : Option Addr} {l c : Nat} {e : Int} (h : w.heap[B]? = some (Obj.cells #[Value.bool n, Value.slice so l c, Value.int IntKind.i64 e] 29)) : NumB w B := ⟨_, _, _, _, _, h⟩
theorem bal {w0 X : World} {o : Obj} (h : Below w0.heap.size w0 X) : Below w0.heap.size w0 (X.alloc o) := h.alloc h.size o
theorem bdr {w0 X : World} (h : Below w0.heap.size w0 X) : Below w0.heap.size w0 X.drew := h.drew
theorem sz2 {n m : Nat} (h : n ≤ m) : n ≤ m + 1 := Nat.le_succ_of_le h
theorem sz1 {X : World} {o : Obj} {n : Nat} (h : n ≤ X.heap.size) : n ≤ (X.alloc o).heap.size := by simp; omega
set_option maxRecDepth 100000 in
set_option maxHeartbeats 16000000 in
theorem accBetween_walk (ao : Option Addr) (len cap : Nat) (F : Nat → TmV) (w : World) (hl : RdT w ao len cap F) :
    Calls Try.prog 3 #[.slice ao len cap] w fun e w' => e = .returned (.bool true) ∧ Below w.heap.size w w' := by
  obtain ⟨E, hE⟩ : ∃ E : Nat, E = 1074 := ⟨_, rfl⟩
  have HL : Hid (RdT w ao len cap F) := hl
  clear hl
  go_enter Try.func3, Try.ntmps3
  go_wp2_with fail
  refine (terms_any ao len cap F _ HL.out).mono ?_
  rintro e w1 ⟨v1, rfl, o1, b1⟩
  have B1 : Hid (Below w.heap.size w w1) := b1
  obtain ⟨ts, hts⟩ : ∃ ts, tsOf F (min len 200) = ts := ⟨_, rfl⟩
  have OT : Hid (∀ t ∈ ts, OkT t) := by rw [← hts]; exact tsOf_ok F _ (fun j hj => ⟨(HL.out.lt j (by omega)).1, (HL.out.lt j (by omega)).2.1⟩)
  have LT : Hid (ts.length ≤ 200) := by have := tsOf_len F (min len 200); rw [hts] at this; unfold Hid; omega
  rw [hts] at o1
  obtain ⟨lo, lc, rfl, hrl⟩ := o1.form (fun t ht => by have := OT.out t ht; exact ⟨this.2.2.1, this.2.2.2.1, this.2.2.2.2.1, this.2.2.2.2.2⟩)
  have HRL : Hid (RdT w1 lo ts.length lc (fun j => ts[j]?.getD tmD)) := hrl
  have hlm := hrl.max
  have hll := hrl.le
  unfold maxLen at hlm
  clear hts o1 b1 hrl HL
  go_wp2_with fail
  refine (new_any _).mono ?_
  rintro e w3 ⟨rfl, a3, b3, s3⟩
  have A3 : Hid (AccO w3 w1.heap.size (some 0)) := a3
  have B3 : Hid (Below w1.heap.size w1 w3) := b3
  have S3 : Hid (w3.heap.size = w1.heap.size + 1) := s3
  clear a3 b3 s3
  go_wp2_with fail
  refine (begun_any _).mono ?_
  rintro e w4 ⟨rfl, b4⟩
  have A4 : Hid (AccO w4 w1.heap.size (some 0)) := A3.out.below b4 A3.out.block
  have B4 : Hid (Below w1.heap.size w1 w4) := B3.out.trans (b4.mono B3.out.size)
  have S4 : Hid (w1.heap.size < w4.heap.size) := by unfold Hid; have := S3.out; have := b4.size; omega
  clear b4 A3 B3 S3
  go_upto_region 6 with fail
  have Z5 : Hid (BtS w1 (w4.alloc (Obj.cells #[Value.bool false, Value.slice none 0 0, Value.int IntKind.i64 0] 29)) w1.heap.size w4.heap.size false none 0 0 0 E 2200 0) := by
    have hb := (Below.refl _ w4).alloc (Nat.le_refl _) (Obj.cells #[Value.bool false, Value.slice none 0 0, Value.int IntKind.i64 0] 29)
    exact ⟨B4.out.trans (hb.mono B4.out.size), A4.out.below hb A4.out.block, heap_alloc_new w4 _, ⟨false, 0, 0, ⟨none, 0, 0, [], rfl, Rd4.none _, Or.inl rfl, rfl⟩, by omega, by rw [bl_zero]; omega, zv_zero _ _ _⟩⟩
  have HPV : Hid (w4.heap.size ≠ w1.heap.size ∧ w1.heap.size < w4.heap.size) := ⟨by have := S4.out; omega, S4.out⟩
  generalize w4.alloc (Obj.cells #[Value.bool false, Value.slice none 0 0, Value.int IntKind.i64 0] 29) = W5 at Z5 ⊢
  obtain ⟨Pv, hPv⟩ : ∃ P, w4.heap.size = P := ⟨_, rfl⟩
  rw [hPv] at Z5 HPV ⊢
  obtain ⟨Bx, hBx⟩ : ∃ P, w1.heap.size = P := ⟨_, rfl⟩
  have HBX : Hid (w1.heap.size = Bx) := hBx
  rw [hBx] at Z5 HPV ⊢
  clear hPv hBx A4 B4 S4
  go_wp2_with fail
  go_loopw [5] (fun iv wr => ∃ (k : Nat) (n0 : Bool) (o0 : Option Addr) (l0 c0 : Nat) (e0 : Int), k ≤ ts.length ∧ iv = .int .i64 k ∧ Hid (BtS w1 wr Bx Pv n0 o0 l0 c0 e0 E (2200 + k) (psum (ts.take k)))) (fun iv _ => ts.length - (intOf iv).toNat)
  case atStart => exact ⟨0, false, none, 0, 0, 0, by omega, rfl, by unfold Hid; rw [show (2200 + ((0 : Nat) : Int)) = 2200 from rfl, show psum (List.take 0 ts) = 0 from rfl]; exact Z5.out⟩
  case round =>
    obtain ⟨k, n0, o0, l0, c0, e0, hk, rfl, K⟩ := hrel
    by_cases hlt : k < ts.length
    · have hd : decide ((k : Int) < (ts.length : Int)) = true := decide_eq_true (by omega)
      rcases HRL.out.cells with h0 | ⟨b, off, rfl, hc⟩
      · omega
      obtain ⟨g0, g1, g2⟩ := hc k hlt
      rw [getT' hlt] at g0 g1 g2
      have hok := OT.out ts[k] (List.getElem_mem hlt)
      have hblk := World.block_lt_of_cell? w1 _ g0
      have HNX : Hid (psum (ts.take (k + 1)) = psum (ts.take k) + prT ts[k]) := psum_take hlt
      have HPO : Hid (prodO (some (psum (ts.take k))) ts[k].a ts[k].b ts[k].n = some (psum (ts.take k) + prT ts[k])) := by
        refine prodO_ok hok ?_
        have q1 := psum_lt (ts.take k) (fun t ht => OT.out t (List.mem_of_mem_take ht))
        have q2 : (ts.take k).length * topM ≤ 200 * topM := Nat.mul_le_mul_right _ (by rw [List.length_take]; have := LT.out; omega)
        have q3 := prT_lt hok
        omega
      have HPR : Hid (prT ts[k] = fval ts[k].a * fval ts[k].b * ((2 ^ (ts[k].n + ((92 : Nat) : Int)).toNat : Nat) : Int)) := rfl
      obtain ⟨ta, hta⟩ : ∃ x, ts[k].a = x := ⟨_, rfl⟩
      obtain ⟨tb, htb⟩ : ∃ x, ts[k].b = x := ⟨_, rfl⟩
      obtain ⟨tn, htn⟩ : ∃ x, ts[k].n = x := ⟨_, rfl⟩
      have HOK : Hid (Fin ta ∧ Fin tb ∧ -64 ≤ tn ∧ tn ≤ 64) := by rw [← hta, ← htb, ← htn]; exact ⟨hok.1, hok.2.1, hok.2.2.2.2.1, hok.2.2.2.2.2⟩
      have hal : ta < 18446744073709551616 := by rw [← hta]; exact hok.2.2.1
      have hbl : tb < 18446744073709551616 := by rw [← htb]; exact hok.2.2.2.1
      rw [hta] at g0 HPO HPR
      rw [htb] at g1 HPO HPR
      rw [htn] at g2 HPO HPR
      clear hc hok hta htb htn
      have HT : Hid (∀ wy, Below w1.heap.size w1 wy → wy.cell? ⟨b, off + k * 3, none⟩ = some (.int .u64 (ta : Int)) ∧ wy.cell? ⟨b, off + k * 3 + 1, none⟩ = some (.int .u64 (tb : Int)) ∧ wy.cell? ⟨b, off + k * 3 + 2, none⟩ = some (.int .i64 tn)) := by
        intro wy hb
        exact ⟨by rw [hb.cell (p := ⟨b, off + k * 3, none⟩) hblk]; exact g0, by rw [hb.cell (p := ⟨b, off + k * 3 + 1, none⟩) hblk]; exact g1, by rw [hb.cell (p := ⟨b, off + k * 3 + 2, none⟩) hblk]; exact g2⟩
      have HBK : Hid (b < w1.heap.size) := hblk
      clear g0 g1 g2 hblk
      obtain ⟨z, hz⟩ : ∃ z, psum (ts.take k) = z := ⟨_, rfl⟩
      obtain ⟨pr, hpr⟩ : ∃ z, prT ts[k] = z := ⟨_, rfl⟩
      rw [hz, hpr] at HPO HNX
      rw [hz] at K
      rw [hpr] at HPR
      clear hz hpr
      have i0 : (0 : Int) ≤ (k : Int) := by omega
      have i1 : (k : Int) < (ts.length : Int) := by omega
      obtain ⟨x0, x1, x2⟩ := HT.out _ K.out.bel
      go_wp2_with fail
      refine (into_any Bx _ ta tb tn false hal hbl _ K.out.ax).mono ?_
      rintro e w6 ⟨rfl, s1, s2⟩
      rw [show turnB false ta = ta from rfl, HPO.out] at s1
      obtain ⟨q1, q2, q3⟩ := K.out.into s2 s1 (by rw [HBX.out]; exact Nat.le_refl _) HPV.out.1
      have A6 : Hid (AccO w6 Bx (some (z + pr))) := s1
      have B6 : Hid (Below w1.heap.size w1 w6) := q1
      have V6 : Hid (w6.heap[Pv]? = some (Obj.cells #[Value.bool n0, Value.slice o0 l0 c0, Value.int IntKind.i64 e0] 29)) := q2
      have M6 : Hid (NumZ w6 (.agg #[.bool n0, .slice o0 l0 c0, .int .i64 e0]) (E + (E + 92)) (2200 + k) z) := q3
      clear s1 s2 q1 q2 q3 x0 x1 x2 K
      obtain ⟨x0, x1, x2⟩ := HT.out _ B6.out
      go_wp2_with fail
      refine Calls.mono (ofZ_any ta hal _ E hE) ?_
      rintro e w7 ⟨v7, rfl, ⟨z7, hz7, hf7⟩, bw⟩
      obtain rfl := hf7 HOK.out.1
      rw [decide_eq_true HOK.out.1]
      have Z7 : Hid (NumZ w7 v7 E 1024 (fval ta)) := hz7
      obtain ⟨n7, m7, e7, ⟨o7, l7, c7, xs7, rfl, -⟩, -⟩ := hz7
      have G7 : Hid (Below w6.heap.size w6 w7) := bw
      clear bw hf7 x0 x1 x2
      go_upto_region 11 with fail
      have N8 : Hid _ := heap_alloc_new w7 (Obj.cells #[Value.bool n7, Value.slice o7 l7 c7, Value.int IntKind.i64 e7] 29)
      have G8 : Hid (Below w6.heap.size w6 (w7.alloc (Obj.cells #[Value.bool n7, Value.slice o7 l7 c7, Value.int IntKind.i64 e7] 29))) := G7.out.alloc G7.out.size _
      have Z8 : Hid (NumZ (w7.alloc (Obj.cells #[Value.bool n7, Value.slice o7 l7 c7, Value.int IntKind.i64 e7] 29)) (.agg #[.bool n7, .slice o7 l7 c7, .int .i64 e7]) E 1024 (fval ta)) := NumZ.later Z7.out ((Below.refl _ w7).alloc (Nat.le_refl _) _)
      have HP7 : Hid (w7.heap.size ≠ Pv) := by unfold Hid; have h1 := (Array.getElem?_eq_some_iff.1 V6.out).1; have h2 := G7.out.size; omega
      obtain ⟨P7, hP7⟩ : ∃ P, w7.heap.size = P := ⟨_, rfl⟩
      rw [hP7] at N8 HP7 ⊢
      generalize w7.alloc (Obj.cells #[Value.bool n7, Value.slice o7 l7 c7, Value.int IntKind.i64 e7] 29) = W8 at N8 G8 Z8 ⊢
      clear hP7 Z7 G7
      obtain ⟨x0, x1, x2⟩ := HT.out _ (B6.out.trans (G8.out.mono B6.out.size))
      go_wp2_with fail
      refine Calls.mono (ofZ_any tb hbl _ E hE) ?_
      rintro e w9 ⟨v9, rfl, ⟨z9, hz9, hf9⟩, bw⟩
      obtain rfl := hf9 HOK.out.2.1
      rw [decide_eq_true HOK.out.2.1]
      have Z9 : Hid (NumZ w9 v9 E 1024 (fval tb)) := hz9
      obtain ⟨n9, m9, e9, ⟨o9, l9, c9, xs9, rfl, -⟩, -⟩ := hz9
      have G9 : Hid (Below w6.heap.size w6 w9) := G8.out.trans (bw.mono G8.out.size)
      have N9 : Hid _ := (bw.block _ (Array.getElem?_eq_some_iff.1 N8.out).1).trans N8.out
      have Y9 : Hid (NumZ w9 (.agg #[.bool n7, .slice o7 l7 c7, .int .i64 e7]) E 1024 (fval ta)) := NumZ.later Z8.out bw
      clear bw hf9 x0 x1 x2 N8 G8 Z8
      go_upto_region 12 with fail
      have bw := (Below.refl _ w9).alloc (Nat.le_refl _) (Obj.cells #[Value.bool n9, Value.slice o9 l9 c9, Value.int IntKind.i64 e9] 29)
      have NA : Hid _ := (bw.block _ (Array.getElem?_eq_some_iff.1 N9.out).1).trans N9.out
      have NB : Hid _ := heap_alloc_new w9 (Obj.cells #[Value.bool n9, Value.slice o9 l9 c9, Value.int IntKind.i64 e9] 29)
      have GA : Hid (Below w6.heap.size w6 (w9.alloc (Obj.cells #[Value.bool n9, Value.slice o9 l9 c9, Value.int IntKind.i64 e9] 29))) := G9.out.alloc G9.out.size _
      have YA : Hid (NumZ (w9.alloc (Obj.cells #[Value.bool n9, Value.slice o9 l9 c9, Value.int IntKind.i64 e9] 29)) (.agg #[.bool n7, .slice o7 l7 c7, .int .i64 e7]) E 1024 (fval ta)) := NumZ.later Y9.out bw
      have YB : Hid (NumZ (w9.alloc (Obj.cells #[Value.bool n9, Value.slice o9 l9 c9, Value.int IntKind.i64 e9] 29)) (.agg #[.bool n9, .slice o9 l9 c9, .int .i64 e9]) E 1024 (fval tb)) := NumZ.later Z9.out bw
      have HNE : Hid (P7 ≠ Pv ∧ w9.heap.size ≠ Pv ∧ b ≠ Pv) := ⟨HP7.out, by have h1 := (Array.getElem?_eq_some_iff.1 V6.out).1; have h2 := G9.out.size; omega, by have h1 := HBK.out; have h2 := HPV.out; have h3 := HBX.out; omega⟩
      obtain ⟨P9, hP9⟩ : ∃ P, w9.heap.size = P := ⟨_, rfl⟩
      rw [hP9] at NB HNE ⊢
      generalize w9.alloc (Obj.cells #[Value.bool n9, Value.slice o9 l9 c9, Value.int IntKind.i64 e9] 29) = WA at NA NB GA YA YB bw ⊢
      clear hP9 Y9 Z9 N9 G9 bw
      have AA : Hid (AccO WA Bx (some (z + pr))) := A6.out.below GA.out A6.out.block
      have BA' : Hid (Below w1.heap.size w1 WA) := B6.out.trans (GA.out.mono B6.out.size)
      have VA : Hid (WA.heap[Pv]? = some (Obj.cells #[Value.bool n0, Value.slice o0 l0 c0, Value.int IntKind.i64 e0] 29)) := (GA.out.block Pv (Array.getElem?_eq_some_iff.1 V6.out).1).trans V6.out
      have MA : Hid (NumZ WA (.agg #[.bool n0, .slice o0 l0 c0, .int .i64 e0]) (E + (E + 92)) (2200 + k) z) := NumZ.later M6.out GA.out
      clear A6 B6 V6 M6 GA
      have HC : Hid (∀ wx wy, Below WA.heap.size WA wx → Below wx.heap.size wx wy → Below WA.heap.size WA wy ∧ (wy.cell? ⟨Pv, 0, none⟩ = some (.bool n0) ∧ wy.cell? ⟨Pv, 1, none⟩ = some (.slice o0 l0 c0) ∧ wy.cell? ⟨Pv, 2, none⟩ = some (.int .i64 e0)) ∧ (wy.cell? ⟨P7, 0, none⟩ = some (.bool n7) ∧ wy.cell? ⟨P7, 1, none⟩ = some (.slice o7 l7 c7) ∧ wy.cell? ⟨P7, 2, none⟩ = some (.int .i64 e7)) ∧ (wy.cell? ⟨P9, 0, none⟩ = some (.bool n9) ∧ wy.cell? ⟨P9, 1, none⟩ = some (.slice o9 l9 c9) ∧ wy.cell? ⟨P9, 2, none⟩ = some (.int .i64 e9)) ∧ (wy.cell? ⟨b, off + k * 3, none⟩ = some (.int .u64 (ta : Int)) ∧ wy.cell? ⟨b, off + k * 3 + 1, none⟩ = some (.int .u64 (tb : Int)) ∧ wy.cell? ⟨b, off + k * 3 + 2, none⟩ = some (.int .i64 tn))) := by
        intro wx wy q1 q2
        have h := q1.trans (q2.mono q1.size)
        exact ⟨h, three_cells ((h.block _ (Array.getElem?_eq_some_iff.1 VA.out).1).trans VA.out), three_cells ((h.block _ (Array.getElem?_eq_some_iff.1 NA.out).1).trans NA.out), three_cells ((h.block _ (Array.getElem?_eq_some_iff.1 NB.out).1).trans NB.out), HT.out _ (BA'.out.trans (h.mono BA'.out.size))⟩
      obtain ⟨-, ⟨v0, v1, v2⟩, ⟨a0, a1, a2⟩, ⟨b0, b1, b2⟩, ⟨x0, x1, x2⟩⟩ := HC.out _ WA (Below.refl _ _) (Below.refl _ _)
      have GE : Hid (E + E + 92 = E + (E + 92)) := by unfold Hid; omega
      have hn7 : P7 ≠ Pv := HNE.out.1
      have hn9 : P9 ≠ Pv := HNE.out.2.1
      have hnb : b ≠ Pv := HNE.out.2.2
      have hm7 : Pv ≠ P7 := fun h => hn7 h.symm
      have hm9 : Pv ≠ P9 := fun h => hn9 h.symm
      have hmb : Pv ≠ b := fun h => hnb h.symm
      have hS7 : ∀ W, Below WA.heap.size WA W → ((W.cell? ⟨P7, 0, none⟩ = some (.bool n7) ∧ W.cell? ⟨P7, 1, none⟩ = some (.slice o7 l7 c7) ∧ W.cell? ⟨P7, 2, none⟩ = some (.int .i64 e7)) ∧ (W.cell? ⟨P9, 0, none⟩ = some (.bool n9) ∧ W.cell? ⟨P9, 1, none⟩ = some (.slice o9 l9 c9) ∧ W.cell? ⟨P9, 2, none⟩ = some (.int .i64 e9)) ∧ W.cell? ⟨b, off + k * 3 + 2, none⟩ = some (.int .i64 tn)) := fun W h => ⟨(HC.out _ W (Below.refl _ _) h).2.2.1, (HC.out _ W (Below.refl _ _) h).2.2.2.1, (HC.out _ W (Below.refl _ _) h).2.2.2.2.2.2⟩
      clear v0 v1 v2 a0 a1 a2 b0 b1 b2 x0 x1 x2
      refine wp_region_noPanic ?_
      refine wp_region_held_drew (S := fun W => (W.cell? ⟨P7, 0, none⟩ = some (.bool n7) ∧ W.cell? ⟨P7, 1, none⟩ = some (.slice o7 l7 c7) ∧ W.cell? ⟨P7, 2, none⟩ = some (.int .i64 e7)) ∧ (W.cell? ⟨P9, 0, none⟩ = some (.bool n9) ∧ W.cell? ⟨P9, 1, none⟩ = some (.slice o9 l9 c9) ∧ W.cell? ⟨P9, 2, none⟩ = some (.int .i64 e9)) ∧ W.cell? ⟨b, off + k * 3 + 2, none⟩ = some (.int .i64 tn)) (by kernel_rfl) (hS7 _ (Below.refl _ _).drew) (fun _ => ?_)
      refine takeH 63 (i := 1) (v := (.agg #[.bool n7, .slice o7 l7 c7, .int .i64 e7])) rfl rfl (by kernel_rfl) (by kernel_rfl) (by kernel_rfl) (fun _ _ _ h => h) (Or.inl ⟨(by kernel_rfl), fun w' hS => ex_load3 _ _ rfl P7 (by kernel_rfl) w' n7 o7 l7 c7 e7 hS.1⟩) (hS7 _ (Below.refl _ _).drew) ?_
      refine takeH 64 (i := 2) (v := (.agg #[.bool n9, .slice o9 l9 c9, .int .i64 e9])) rfl rfl (by kernel_rfl) (by kernel_rfl) (by kernel_rfl) (fun _ _ _ h => h) (Or.inl ⟨(by kernel_rfl), fun w' hS => ex_load3 _ _ rfl P9 (by kernel_rfl) w' n9 o9 l9 c9 e9 hS.2.1⟩) (hS7 _ (Below.refl _ _).drew) ?_
      refine takeH 66 (i := 4) (v := .slice (some ⟨b, off, none⟩) ts.length lc) rfl rfl (by kernel_rfl) (by kernel_rfl) (by kernel_rfl) (fun _ _ _ h => h) (Or.inl ⟨(by kernel_rfl), fun w' _ => by kernel_rfl⟩) (hS7 _ (Below.refl _ _).drew) ?_
      refine takeH 67 (i := 5) (v := .int .i64 (k : Int)) rfl rfl (by kernel_rfl) (by kernel_rfl) (by kernel_rfl) (fun _ _ _ h => h) (Or.inl ⟨(by kernel_rfl), fun w' _ => by kernel_rfl⟩) (hS7 _ (Below.refl _ _).drew) ?_
      simp only [Act.put, List.setIfInBounds_toArray, List.set_cons_zero, List.set_cons_succ]
      refine takeH 68 (i := 6) (v := .pointer (some ⟨b, off + k * 3, none⟩)) rfl rfl (by kernel_rfl) (by kernel_rfl) (by kernel_rfl) (fun _ _ _ h => h) (Or.inl ⟨(by kernel_rfl), by intro w' _; go_simp⟩) (hS7 _ (Below.refl _ _).drew) ?_
      simp only [Act.put, List.setIfInBounds_toArray, List.set_cons_zero, List.set_cons_succ]
      refine takeH 69 (i := 7) (v := .pointer (some ⟨b, off + k * 3 + 2, none⟩)) rfl rfl (by kernel_rfl) (by kernel_rfl) (by kernel_rfl) (fun _ _ _ h => h) (Or.inl ⟨(by kernel_rfl), by intro w' _; go_simp⟩) (hS7 _ (Below.refl _ _).drew) ?_
      simp only [Act.put, List.setIfInBounds_toArray, List.set_cons_zero, List.set_cons_succ]
      refine takeH 70 (i := 8) (v := .int .i64 tn) rfl rfl (by kernel_rfl) (by kernel_rfl) (by kernel_rfl) (fun _ _ _ h => h) (Or.inl ⟨(by kernel_rfl), by intro w' hS; have hS3 := hS.2.2; clear hS; go_simp⟩) (hS7 _ (Below.refl _ _).drew) ?_
      simp only [Act.put, List.setIfInBounds_toArray, List.set_cons_zero, List.set_cons_succ]
      refine lpRegion _ _ _ _ _ 3 9 10 0 11 65 71 72 62 (fun a b c l s => #[l, true, true, a, true, true, true, true, true, b, c, s]) _ WA 11 10 9 (.agg #[.bool n7, .slice o7 l7 c7, .int .i64 e7]) (.agg #[.bool n9, .slice o9 l9 c9, .int .i64 e9]) (.int .i64 tn) (E + E) (E + (E + 92)) (E + (E + 92)) 2048 (fval ta * fval tb) (2200 + k) pr (2200 + k + 1) (z + pr) (.tmp 4) (.tmp 72) Pv n0 o0 l0 c0 e0 rfl rfl rfl rfl rfl rfl rfl rfl rfl rfl rfl rfl rfl rfl rfl (by decide) (by decide) (by decide) (fun _ _ _ _ => rfl) (fun _ _ _ _ => rfl) (fun _ _ _ _ => rfl) (fun _ _ _ _ => rfl) (fun _ _ _ _ => rfl) (by kernel_rfl) (by kernel_rfl) (by kernel_rfl) (by kernel_rfl) (by kernel_rfl) (by kernel_rfl) (by kernel_rfl) (by kernel_rfl) (by intro u x W; kernel_rfl) (by intro u x W; kernel_rfl) (by intro u x W; kernel_rfl) (by intro u x W; kernel_rfl) (by intro u x W; kernel_rfl) (fun u x W hW => ex_load3 _ _ rfl Pv (by kernel_rfl) W n0 o0 l0 c0 e0 (HC.out _ W (Below.refl _ _) hW).2.1) (fun u x W hW => ex_load3 _ _ rfl Pv (by kernel_rfl) W n0 o0 l0 c0 e0 (HC.out _ W (Below.refl _ _) hW).2.1) (fun u x W hW => ex_load3 _ _ rfl Pv (by kernel_rfl) W n0 o0 l0 c0 e0 (HC.out _ W (Below.refl _ _) hW).2.1) rfl (by intro u x y; exact ⟨(by kernel_rfl), (by kernel_rfl)⟩)
        (fun W hW => timesZ_any _ _ E 1024 1024 (fval ta) (fval tb) W (NumZ.later YA.out hW) (NumZ.later YB.out hW) (by omega) (by omega) (by omega))
        (fun W u hW hu => Calls.mono (movedK_any 92 _ (E + E) 2048 _ tn (by have := HOK.out; omega) (by omega) W hu (by omega) (by omega)) (by rintro e W' ⟨v, rfl, hz, hb⟩; exact ⟨v, rfl, (by rw [HPR.out, ← GE.out]; exact NumZ.mono hz (by omega)), hb⟩))
        (fun W x hW hx => plusZ_any _ _ (E + (E + 92)) (2200 + k) z pr W (NumZ.later MA.out hW) hx (by omega) (by have := LT.out; omega)) VA.out hS7 ?_ _ (Below.refl _ _).drew
      intro wf W u x nf of lf cf ef Bf Zf Rf Ra Rt Rz Rb
      have hBW : Below w1.heap.size w1 W := Rb _ _ (BA'.out.trans (Bf.mono BA'.out.size)) (by rw [HBX.out]; have := HPV.out; omega)
      have QA : Hid (BtS w1 W Bx Pv nf of lf cf ef E (2200 + k + 1) (z + pr)) :=
        ⟨hBW, (AA.out.below Bf AA.out.block).heap (Rt _ (Ne.symm HPV.out.1)), Ra, Rz _ _ _ _ Zf⟩
      refine ⟨⟨three_cells ((Rt P7 hn7).trans (keep0 NA.out Bf)), three_cells ((Rt P9 hn9).trans (keep0 NB.out Bf)), (HT.out _ hBW).2.2⟩, ?_⟩
      refine NoPanic.normal ?_
      clear HC AA BA' VA MA NA NB YA YB hS7 Rz Rb Rt
      simp only [Act.put, List.setIfInBounds_toArray, List.set_cons_zero, List.set_cons_succ]
      go_wp2_with fail
      go_roundw
      case rel => exact ⟨k + 1, nf, of, lf, cf, ef, by omega, by go_num, by rw [HNX.out, show (2200 + ((k + 1 : Nat) : Int)) = 2200 + k + 1 by omega]; exact QA⟩
      case measure => simp [intOf]; omega
    · have hd : decide ((k : Int) < (ts.length : Int)) = false := decide_eq_false (by omega)
      obtain ⟨z, hz⟩ : ∃ z, psum (ts.take k) = z := ⟨_, rfl⟩
      rw [hz] at K
      have KT : Hid ((k : Int) ≤ 200) := by unfold Hid; have := LT.out; omega
      clear hz HRL OT Z5
      go_wp2_with fail
      refine (accRound_any 2 Bx (some z) _ K.out.ax).mono ?_
      rintro e wa ⟨dn, ok, rfl, r2, ba⟩
      have R2 : Hid (RndO 2 (some z) dn ok) := r2
      have Ka : Hid (BtS w1 wa Bx Pv n0 o0 l0 c0 e0 E (2200 + k) z) := K.out.later ba
      clear r2 ba K
      go_wp2_with fail
      refine (accRound_any 1 Bx (some z) _ Ka.out.ax).mono ?_
      rintro e wb ⟨up, is, rfl, r1, bb⟩
      have R1 : Hid (RndO 1 (some z) up is) := r1
      have Kb : Hid (BtS w1 wb Bx Pv n0 o0 l0 c0 e0 E (2200 + k) z) := Ka.out.later bb
      clear r1 bb Ka
      go_wp2_with fail
      refine (accRound_any 0 Bx (some z) _ Kb.out.ax).mono ?_
      rintro e wv ⟨nr, fine, rfl, r0, bc⟩
      have R0 : Hid (RndO 0 (some z) nr fine) := r0
      have Kc : Hid (BtS w1 wv Bx Pv n0 o0 l0 c0 e0 E (2200 + k) z) := Kb.out.later bc
      clear r0 bc Kb
      have HE2 : E + 92 = 1166 := by omega
      have BT : Hid (BtE z (2 ^ (E + 92)) dn up nr ok is fine) := bt_end (Nat.two_pow_pos _) (R2.out _ HE2) (R1.out _ HE2) (R0.out _ HE2)
      have FD : Hid (Fin dn ∧ dn < 18446744073709551616) := ⟨(RndO.num R2.out).1, (RndO.num R2.out).2.1⟩
      have FU : Hid (Fin up ∧ up < 18446744073709551616) := ⟨(RndO.num R1.out).1, (RndO.num R1.out).2.1⟩
      have FN : Hid (Fin nr ∧ nr < 18446744073709551616) := ⟨(RndO.num R0.out).1, (RndO.num R0.out).2.1⟩
      have HU1 : Hid (∃ V D' c, RndZ 1 V D' (up, c)) := ⟨_, _, _, R1.out _ HE2⟩
      clear R2 R1 R0
      have HCV : Hid (∀ wx wy, Below wv.heap.size wv wx → Below wx.heap.size wx wy → Below wv.heap.size wv wy ∧ (wy.cell? ⟨Pv, 0, none⟩ = some (.bool n0) ∧ wy.cell? ⟨Pv, 1, none⟩ = some (.slice o0 l0 c0) ∧ wy.cell? ⟨Pv, 2, none⟩ = some (.int .i64 e0))) := by
        intro wx wy q1 q2
        have h := q1.trans (q2.mono q1.size)
        exact ⟨h, three_cells ((h.block _ (Array.getElem?_eq_some_iff.1 Kc.out.hp).1).trans Kc.out.hp)⟩
      have MV : Hid (NumZ wv (.agg #[.bool n0, .slice o0 l0 c0, .int .i64 e0]) (E + (E + 92)) (2200 + k) z) := Kc.out.num
      have BW : Hid (Below w.heap.size w wv) := B1.out.trans (Kc.out.bel.mono B1.out.size)
      have DD : Hid (∀ wx v x, NumZ wx v E 1024 x → NumZ wx v (E + (E + 92)) (2200 + k) (x * ((2 ^ (E + 92) : Nat) : Int))) := fun wx v x h => NumZ.mono (NumZ.more h (E + 92)) (by omega)
      obtain ⟨vv0, vv1, vv2⟩ := three_cells Kc.out.hp
      clear Kc B1 HPV HBX LT
      generalize 2 ^ (E + 92) = D at BT DD
      have heD : (FloatKind.f64.format.order nr dn == some .eq) = decide (srung nr = srung dn) := feq FN.out.1 FD.out.1
      have heU : (FloatKind.f64.format.order nr up == some .eq) = decide (srung nr = srung up) := feq FN.out.1 FU.out.1
      have heB : (FloatKind.f64.format.order dn up == some .eq) = decide (srung dn = srung up) := feq FD.out.1 FU.out.1
      have hmD : (FloatKind.f64.format.order dn 9218868437227405311 == some .eq) = decide (srung dn = (infK : Int) - 1) := by rw [feq FD.out.1 most_fin.1, most_srung]
      have hmU : (FloatKind.f64.format.order up (fopp 9218868437227405311) == some .eq) = decide (srung up = 1 - (infK : Int)) := by rw [feq FU.out.1 most_fin.2, most_fopp]
      have hng := run_neg 9218868437227405311
      rcases bt_three BT.out with ⟨h1, h2, h3, h4, h5⟩ | ⟨h1, h2, h3, h4, h5⟩ | ⟨h1, h2, h3, h6, h7, h9⟩
      · subst h1 h2
        have hsg : decide (sgi (fval up * (D : Int) - z) < 0) = false := decide_eq_false (by unfold sgi; split; omega; split <;> omega)
        rw [decide_eq_true h3] at hmU
        have HN : Hid (fine = true → decide (srung nr = srung up) = true) := fun h => decide_eq_true (h4 h)
        clear h3 h4 h5 BT heB hmD
        obtain ⟨bD, hbD⟩ : ∃ b, decide (srung nr = srung dn) = b := ⟨_, rfl⟩
        rw [hbD] at heD
        clear hbD
        obtain ⟨sg, hsgg⟩ : ∃ s, sgi (fval up * (D : Int) - z) = s := ⟨_, rfl⟩
        have HSG : Hid _ := hsgg
        rw [hsgg] at hsg
        clear hsgg
        go_upto_region 16 with fail
        go_cut [113] (fun s113 wx => s113 = .bool false ∧ Hid (Below wv.heap.size wv wx))
        case first =>
          refine wp_region_noPanic ?_
          refine wp_region_held_drew (S := fun W' => Below wv.heap.size wv W') (by kernel_rfl) (Below.refl _ _).drew (fun _ => ?_)
          refine takeH 88 (i := 0) (v := .bool false) rfl rfl (by kernel_rfl) (by kernel_rfl) (by kernel_rfl) (fun _ _ _ h => h) (Or.inl ⟨(by kernel_rfl), fun w' _ => by kernel_rfl⟩) ((Below.refl _ _).drew) ?_
          refine takeH 89 (i := 1) (v := .bool true) rfl rfl (by kernel_rfl) (by kernel_rfl) (by kernel_rfl) (fun _ _ _ h => h) (Or.inl ⟨(by kernel_rfl), fun w' _ => by kernel_rfl⟩) ((Below.refl _ _).drew) ?_
          refine takeH 90 (i := 2) (v := .bool true) rfl rfl (by kernel_rfl) (by kernel_rfl) (by kernel_rfl) (fun _ _ _ h => h) (Or.inl ⟨(by kernel_rfl), fun w' _ => by kernel_rfl⟩) ((Below.refl _ _).drew) ?_
          refine takeH 91 (i := 3) (v := .bool true) rfl rfl (by kernel_rfl) (by kernel_rfl) (by kernel_rfl) (fun _ _ _ h => h) (Or.inl ⟨(by kernel_rfl), fun w' _ => by kernel_rfl⟩) ((Below.refl _ _).drew) ?_
          refine takeH 92 (i := 4) (v := .bool false) rfl rfl (by kernel_rfl) (by kernel_rfl) (by kernel_rfl) (fun _ _ _ h => h) (Or.inl ⟨(by kernel_rfl), fun w' _ => by kernel_rfl⟩) ((Below.refl _ _).drew) ?_
          refine takeH 93 (i := 5) (v := .bool false) rfl rfl (by kernel_rfl) (by kernel_rfl) (by kernel_rfl) (fun _ _ _ h => h) (Or.inl ⟨(by kernel_rfl), fun w' _ => by kernel_rfl⟩) ((Below.refl _ _).drew) ?_
          refine takeH 94 (i := 6) (v := .bool false) rfl rfl (by kernel_rfl) (by kernel_rfl) (by kernel_rfl) (fun _ _ _ h => h) (Or.inl ⟨(by kernel_rfl), fun w' _ => by kernel_rfl⟩) ((Below.refl _ _).drew) ?_
          refine takeH 95 (i := 7) (v := .bool false) rfl rfl (by kernel_rfl) (by kernel_rfl) (by kernel_rfl) (fun _ _ _ h => h) (Or.inl ⟨(by kernel_rfl), fun w' _ => by kernel_rfl⟩) ((Below.refl _ _).drew) ?_
          refine takeH 96 (i := 8) (v := .bool false) rfl rfl (by kernel_rfl) (by kernel_rfl) (by kernel_rfl) (fun _ _ _ h => h) (Or.inl ⟨(by kernel_rfl), fun w' _ => by kernel_rfl⟩) ((Below.refl _ _).drew) ?_
          refine takeH 97 (i := 9) (v := undef) rfl rfl (by kernel_rfl) (by kernel_rfl) (by kernel_rfl) (fun _ _ _ h => h) (Or.inr ⟨(by kernel_rfl), rfl⟩) ((Below.refl _ _).drew) ?_
          refine takeH 98 (i := 10) (v := undef) rfl rfl (by kernel_rfl) (by kernel_rfl) (by kernel_rfl) (fun _ _ _ h => h) (Or.inr ⟨(by kernel_rfl), rfl⟩) ((Below.refl _ _).drew) ?_
          refine takeH 99 (i := 11) (v := undef) rfl rfl (by kernel_rfl) (by kernel_rfl) (by kernel_rfl) (fun _ _ _ h => h) (Or.inr ⟨(by kernel_rfl), rfl⟩) ((Below.refl _ _).drew) ?_
          refine takeH 100 (i := 12) (v := undef) rfl rfl (by kernel_rfl) (by kernel_rfl) (by kernel_rfl) (fun _ _ _ h => h) (Or.inr ⟨(by kernel_rfl), rfl⟩) ((Below.refl _ _).drew) ?_
          refine takeH 101 (i := 13) (v := undef) rfl rfl (by kernel_rfl) (by kernel_rfl) (by kernel_rfl) (fun _ _ _ h => h) (Or.inr ⟨(by kernel_rfl), rfl⟩) ((Below.refl _ _).drew) ?_
          refine takeH 102 (i := 14) (v := .bool false) rfl rfl (by kernel_rfl) (by kernel_rfl) (by kernel_rfl) (fun _ _ _ h => h) (Or.inl ⟨(by kernel_rfl), fun w' _ => by kernel_rfl⟩) ((Below.refl _ _).drew) ?_
          refine takeH 103 (i := 15) (v := .bool false) rfl rfl (by kernel_rfl) (by kernel_rfl) (by kernel_rfl) (fun _ _ _ h => h) (Or.inl ⟨(by kernel_rfl), fun w' _ => by kernel_rfl⟩) ((Below.refl _ _).drew) ?_
          refine takeH 104 (i := 16) (v := .bool false) rfl rfl (by kernel_rfl) (by kernel_rfl) (by kernel_rfl) (fun _ _ _ h => h) (Or.inl ⟨(by kernel_rfl), fun w' _ => by kernel_rfl⟩) ((Below.refl _ _).drew) ?_
          refine takeH 105 (i := 17) (v := .bool true) rfl rfl (by kernel_rfl) (by kernel_rfl) (by kernel_rfl) (fun _ _ _ h => h) (Or.inl ⟨(by kernel_rfl), fun w' _ => by kernel_rfl⟩) ((Below.refl _ _).drew) ?_
          refine takeH 106 (i := 18) (v := .bool true) rfl rfl (by kernel_rfl) (by kernel_rfl) (by kernel_rfl) (fun _ _ _ h => h) (Or.inl ⟨(by kernel_rfl), fun w' _ => by kernel_rfl⟩) ((Below.refl _ _).drew) ?_
          refine takeH 107 (i := 19) (v := .float .f64 up) rfl rfl (by kernel_rfl) (by kernel_rfl) (by kernel_rfl) (fun _ _ _ h => h) (Or.inl ⟨(by kernel_rfl), fun w' _ => by kernel_rfl⟩) ((Below.refl _ _).drew) ?_
          refine takeH 109 (i := 21) (v := (.agg #[.bool n0, .slice o0 l0 c0, .int .i64 e0])) rfl rfl (by kernel_rfl) (by kernel_rfl) (by kernel_rfl) (fun _ _ _ h => h) (Or.inl ⟨(by kernel_rfl), fun w' hS => ex_load3 _ _ rfl Pv (by kernel_rfl) w' n0 o0 l0 c0 e0 (HCV.out _ w' (Below.refl _ _) hS).2⟩) ((Below.refl _ _).drew) ?_
          simp only [Act.put, List.setIfInBounds_toArray, List.set_cons_zero, List.set_cons_succ]
          refine wpAnyH_ready (rs := [20]) (by kernel_rfl) (by simp) ?_
          refine consH _ rfl ?_ AllReadyH.nil
          refine hopCd 108 rfl (by kernel_rfl) rfl (by kernel_rfl) (Calls.mono (value_any up FU.out.2 FU.out.1 _ E hE) ?_)
          rintro e wt ⟨vt, rfl, hzt, bxt⟩
          have bzt : Below wv.heap.size wv wt := Below.trans ((Below.refl _ _).drew : Below wv.heap.size wv _) (bxt.mono (Below.size ((Below.refl _ _).drew : Below wv.heap.size wv _)))
          have Zt : Hid (NumZ wt vt (E + (E + 92)) (2200 + k) (fval up * (D : Int))) := DD.out _ _ _ hzt
          refine ⟨vt, rfl, bzt, ?_⟩
          simp only [Act.put, List.setIfInBounds_toArray, List.set_cons_zero, List.set_cons_succ]
          refine wpAnyH_ready (rs := [22]) (by kernel_rfl) (by simp) ?_
          refine consH _ rfl ?_ AllReadyH.nil
          refine hopCd 110 rfl (by kernel_rfl) rfl (by kernel_rfl) (Calls.mono (cmpZ_any _ _ (E + (E + 92)) (2200 + k) (fval up * (D : Int)) z _ Zt.out (NumZ.later MV.out bzt) (by omega) (by have := KT.out; omega)) ?_)
          rintro e xt ⟨rfl, byt⟩
          rw [HSG.out]
          have bct : Below wv.heap.size wv xt := bzt.trans (byt.mono bzt.size)
          refine ⟨_, rfl, bct, ?_⟩
          refine takeH 111 (i := 23) (v := .bool false) rfl rfl (by kernel_rfl) (by kernel_rfl) (by kernel_rfl) (fun _ _ _ h => h) (Or.inl ⟨(by kernel_rfl), fun w' _ => (show _ = Result.ok (Next.value (Value.bool (decide (sg < 0)))) w' by kernel_rfl).trans (by rw [hsg])⟩) (bct) ?_
          refine takeH 112 (i := 24) (v := .bool false) rfl rfl (by kernel_rfl) (by kernel_rfl) (by kernel_rfl) (fun _ _ _ h => h) (Or.inl ⟨(by kernel_rfl), fun w' _ => by kernel_rfl⟩) (bct) ?_
          refine takeH 113 (i := 25) (v := .bool false) rfl rfl (by kernel_rfl) (by kernel_rfl) (by kernel_rfl) (fun _ _ _ h => h) (Or.inl ⟨(by kernel_rfl), fun w' _ => by kernel_rfl⟩) (bct) ?_
          refine wpAnyH_done (by kernel_rfl) ?_ _
          refine NoPanic.normal ?_
          simp only [Act.put, List.setIfInBounds_toArray, List.set_cons_zero, List.set_cons_succ]
          go_wp2_with fail
          go_meet
          exact ⟨rfl, bct⟩
        case rest =>
        obtain ⟨rfl, BY⟩ := hcut
        have BX : Hid (Below w.heap.size w _) := BW.out.trans (BY.out.mono BW.out.size)
        clear hsg HSG vv0 vv1 vv2
        cases fine
        · go_wp2_with (go_at_call 15; refine (float_int _ _).mono ?_; rintro e w' ⟨rfl, rfl⟩)
          go_ret
          exact ⟨rfl, BX.out⟩
        · rw [HN.out rfl] at heU
          cases bD
          all_goals
            go_wp2_with (go_at_call 15; refine (float_int _ _).mono ?_; rintro e w' ⟨rfl, rfl⟩)
            go_ret
            exact ⟨rfl, BX.out⟩
      · subst h1 h2
        have hsg : decide (0 < sgi (fval dn * (D : Int) - z)) = false := decide_eq_false (by unfold sgi; split; omega; split <;> omega)
        rw [decide_eq_true h3] at hmD
        have HN : Hid (fine = true → decide (srung nr = srung dn) = true) := fun h => decide_eq_true (h4 h)
        clear h3 h4 h5 BT heB hmU
        obtain ⟨bD, hbD⟩ : ∃ b, decide (srung nr = srung up) = b := ⟨_, rfl⟩
        rw [hbD] at heU
        clear hbD
        obtain ⟨sg, hsgg⟩ : ∃ s, sgi (fval dn * (D : Int) - z) = s := ⟨_, rfl⟩
        have HSG : Hid _ := hsgg
        rw [hsgg] at hsg
        clear hsgg
        go_upto_region 16 with fail
        go_cut [113] (fun s113 wx => s113 = .bool false ∧ Hid (Below wv.heap.size wv wx))
        case first =>
          refine wp_region_noPanic ?_
          refine wp_region_held_drew (S := fun W' => Below wv.heap.size wv W') (by kernel_rfl) (Below.refl _ _).drew (fun _ => ?_)
          refine takeH 88 (i := 0) (v := .bool true) rfl rfl (by kernel_rfl) (by kernel_rfl) (by kernel_rfl) (fun _ _ _ h => h) (Or.inl ⟨(by kernel_rfl), fun w' _ => by kernel_rfl⟩) ((Below.refl _ _).drew) ?_
          refine takeH 89 (i := 1) (v := .bool false) rfl rfl (by kernel_rfl) (by kernel_rfl) (by kernel_rfl) (fun _ _ _ h => h) (Or.inl ⟨(by kernel_rfl), fun w' _ => by kernel_rfl⟩) ((Below.refl _ _).drew) ?_
          refine takeH 90 (i := 2) (v := .bool false) rfl rfl (by kernel_rfl) (by kernel_rfl) (by kernel_rfl) (fun _ _ _ h => h) (Or.inl ⟨(by kernel_rfl), fun w' _ => by kernel_rfl⟩) ((Below.refl _ _).drew) ?_
          refine takeH 91 (i := 3) (v := undef) rfl rfl (by kernel_rfl) (by kernel_rfl) (by kernel_rfl) (fun _ _ _ h => h) (Or.inr ⟨(by kernel_rfl), rfl⟩) ((Below.refl _ _).drew) ?_
          refine takeH 92 (i := 4) (v := undef) rfl rfl (by kernel_rfl) (by kernel_rfl) (by kernel_rfl) (fun _ _ _ h => h) (Or.inr ⟨(by kernel_rfl), rfl⟩) ((Below.refl _ _).drew) ?_
          refine takeH 93 (i := 5) (v := .bool false) rfl rfl (by kernel_rfl) (by kernel_rfl) (by kernel_rfl) (fun _ _ _ h => h) (Or.inl ⟨(by kernel_rfl), fun w' _ => by kernel_rfl⟩) ((Below.refl _ _).drew) ?_
          refine takeH 94 (i := 6) (v := .bool false) rfl rfl (by kernel_rfl) (by kernel_rfl) (by kernel_rfl) (fun _ _ _ h => h) (Or.inl ⟨(by kernel_rfl), fun w' _ => by kernel_rfl⟩) ((Below.refl _ _).drew) ?_
          refine takeH 95 (i := 7) (v := .bool true) rfl rfl (by kernel_rfl) (by kernel_rfl) (by kernel_rfl) (fun _ _ _ h => h) (Or.inl ⟨(by kernel_rfl), fun w' _ => by kernel_rfl⟩) ((Below.refl _ _).drew) ?_
          refine takeH 96 (i := 8) (v := .bool true) rfl rfl (by kernel_rfl) (by kernel_rfl) (by kernel_rfl) (fun _ _ _ h => h) (Or.inl ⟨(by kernel_rfl), fun w' _ => by kernel_rfl⟩) ((Below.refl _ _).drew) ?_
          refine takeH 97 (i := 9) (v := .float .f64 dn) rfl rfl (by kernel_rfl) (by kernel_rfl) (by kernel_rfl) (fun _ _ _ h => h) (Or.inl ⟨(by kernel_rfl), fun w' _ => by kernel_rfl⟩) ((Below.refl _ _).drew) ?_
          refine takeH 99 (i := 11) (v := (.agg #[.bool n0, .slice o0 l0 c0, .int .i64 e0])) rfl rfl (by kernel_rfl) (by kernel_rfl) (by kernel_rfl) (fun _ _ _ h => h) (Or.inl ⟨(by kernel_rfl), fun w' hS => ex_load3 _ _ rfl Pv (by kernel_rfl) w' n0 o0 l0 c0 e0 (HCV.out _ w' (Below.refl _ _) hS).2⟩) ((Below.refl _ _).drew) ?_
          simp only [Act.put, List.setIfInBounds_toArray, List.set_cons_zero, List.set_cons_succ]
          refine wpAnyH_ready (rs := [10]) (by kernel_rfl) (by simp) ?_
          refine consH _ rfl ?_ AllReadyH.nil
          refine hopCd 98 rfl (by kernel_rfl) rfl (by kernel_rfl) (Calls.mono (value_any dn FD.out.2 FD.out.1 _ E hE) ?_)
          rintro e wu ⟨vu, rfl, hzu, bxu⟩
          have bzu : Below wv.heap.size wv wu := Below.trans ((Below.refl _ _).drew : Below wv.heap.size wv _) (bxu.mono (Below.size ((Below.refl _ _).drew : Below wv.heap.size wv _)))
          have Zu : Hid (NumZ wu vu (E + (E + 92)) (2200 + k) (fval dn * (D : Int))) := DD.out _ _ _ hzu
          refine ⟨vu, rfl, bzu, ?_⟩
          simp only [Act.put, List.setIfInBounds_toArray, List.set_cons_zero, List.set_cons_succ]
          refine wpAnyH_ready (rs := [12]) (by kernel_rfl) (by simp) ?_
          refine consH _ rfl ?_ AllReadyH.nil
          refine hopCd 100 rfl (by kernel_rfl) rfl (by kernel_rfl) (Calls.mono (cmpZ_any _ _ (E + (E + 92)) (2200 + k) (fval dn * (D : Int)) z _ Zu.out (NumZ.later MV.out bzu) (by omega) (by have := KT.out; omega)) ?_)
          rintro e xu ⟨rfl, byu⟩
          rw [HSG.out]
          have bcu : Below wv.heap.size wv xu := bzu.trans (byu.mono bzu.size)
          refine ⟨_, rfl, bcu, ?_⟩
          refine takeH 101 (i := 13) (v := .bool false) rfl rfl (by kernel_rfl) (by kernel_rfl) (by kernel_rfl) (fun _ _ _ h => h) (Or.inl ⟨(by kernel_rfl), fun w' _ => (show _ = Result.ok (Next.value (Value.bool (decide (0 < sg)))) w' by kernel_rfl).trans (by rw [hsg])⟩) (bcu) ?_
          refine takeH 102 (i := 14) (v := .bool false) rfl rfl (by kernel_rfl) (by kernel_rfl) (by kernel_rfl) (fun _ _ _ h => h) (Or.inl ⟨(by kernel_rfl), fun w' _ => by kernel_rfl⟩) (bcu) ?_
          refine takeH 103 (i := 15) (v := .bool false) rfl rfl (by kernel_rfl) (by kernel_rfl) (by kernel_rfl) (fun _ _ _ h => h) (Or.inl ⟨(by kernel_rfl), fun w' _ => by kernel_rfl⟩) (bcu) ?_
          refine takeH 104 (i := 16) (v := .bool false) rfl rfl (by kernel_rfl) (by kernel_rfl) (by kernel_rfl) (fun _ _ _ h => h) (Or.inl ⟨(by kernel_rfl), fun w' _ => by kernel_rfl⟩) (bcu) ?_
          refine takeH 105 (i := 17) (v := .bool false) rfl rfl (by kernel_rfl) (by kernel_rfl) (by kernel_rfl) (fun _ _ _ h => h) (Or.inl ⟨(by kernel_rfl), fun w' _ => by kernel_rfl⟩) (bcu) ?_
          refine takeH 106 (i := 18) (v := .bool false) rfl rfl (by kernel_rfl) (by kernel_rfl) (by kernel_rfl) (fun _ _ _ h => h) (Or.inl ⟨(by kernel_rfl), fun w' _ => by kernel_rfl⟩) (bcu) ?_
          refine takeH 107 (i := 19) (v := undef) rfl rfl (by kernel_rfl) (by kernel_rfl) (by kernel_rfl) (fun _ _ _ h => h) (Or.inr ⟨(by kernel_rfl), rfl⟩) (bcu) ?_
          refine takeH 108 (i := 20) (v := undef) rfl rfl (by kernel_rfl) (by kernel_rfl) (by kernel_rfl) (fun _ _ _ h => h) (Or.inr ⟨(by kernel_rfl), rfl⟩) (bcu) ?_
          refine takeH 109 (i := 21) (v := undef) rfl rfl (by kernel_rfl) (by kernel_rfl) (by kernel_rfl) (fun _ _ _ h => h) (Or.inr ⟨(by kernel_rfl), rfl⟩) (bcu) ?_
          refine takeH 110 (i := 22) (v := undef) rfl rfl (by kernel_rfl) (by kernel_rfl) (by kernel_rfl) (fun _ _ _ h => h) (Or.inr ⟨(by kernel_rfl), rfl⟩) (bcu) ?_
          refine takeH 111 (i := 23) (v := undef) rfl rfl (by kernel_rfl) (by kernel_rfl) (by kernel_rfl) (fun _ _ _ h => h) (Or.inr ⟨(by kernel_rfl), rfl⟩) (bcu) ?_
          refine takeH 112 (i := 24) (v := .bool false) rfl rfl (by kernel_rfl) (by kernel_rfl) (by kernel_rfl) (fun _ _ _ h => h) (Or.inl ⟨(by kernel_rfl), fun w' _ => by kernel_rfl⟩) (bcu) ?_
          refine takeH 113 (i := 25) (v := .bool false) rfl rfl (by kernel_rfl) (by kernel_rfl) (by kernel_rfl) (fun _ _ _ h => h) (Or.inl ⟨(by kernel_rfl), fun w' _ => by kernel_rfl⟩) (bcu) ?_
          refine wpAnyH_done (by kernel_rfl) ?_ _
          refine NoPanic.normal ?_
          simp only [Act.put, List.setIfInBounds_toArray, List.set_cons_zero, List.set_cons_succ]
          go_wp2_with fail
          go_meet
          exact ⟨rfl, bcu⟩
        case rest =>
        obtain ⟨rfl, BY⟩ := hcut
        have BX : Hid (Below w.heap.size w _) := BW.out.trans (BY.out.mono BW.out.size)
        clear hsg HSG vv0 vv1 vv2
        cases fine
        · go_wp2_with (go_at_call 15; refine (float_int _ _).mono ?_; rintro e w' ⟨rfl, rfl⟩)
          go_ret
          exact ⟨rfl, BX.out⟩
        · rw [HN.out rfl] at heD
          go_wp2_with (go_at_call 15; refine (float_int _ _).mono ?_; rintro e w' ⟨rfl, rfl⟩)
          go_ret
          exact ⟨rfl, BX.out⟩
      · subst h1 h2 h3
        have H9 : Hid _ := h9
        clear h9
        have hsd : decide (0 < sgi (fval dn * (D : Int) - z)) = false := decide_eq_false (by unfold sgi; split; omega; split <;> omega)
        have hsu : decide (sgi (fval up * (D : Int) - z) < 0) = false := decide_eq_false (by unfold sgi; split; omega; split <;> omega)
        obtain ⟨sd, hsgd⟩ : ∃ s, sgi (fval dn * (D : Int) - z) = s := ⟨_, rfl⟩
        obtain ⟨su, hsgu⟩ : ∃ s, sgi (fval up * (D : Int) - z) = s := ⟨_, rfl⟩
        have HSD : Hid _ := hsgd
        have HSU : Hid _ := hsgu
        rw [hsgd] at hsd
        rw [hsgu] at hsu
        clear hsgd hsgu hmD hmU hng
        go_upto_region 16 with fail
        go_cut [113] (fun s113 wx => s113 = .bool false ∧ Hid (Below wv.heap.size wv wx))
        case first =>
          refine wp_region_noPanic ?_
          refine wp_region_held_drew (S := fun W' => Below wv.heap.size wv W') (by kernel_rfl) (Below.refl _ _).drew (fun _ => ?_)
          refine takeH 88 (i := 0) (v := .bool true) rfl rfl (by kernel_rfl) (by kernel_rfl) (by kernel_rfl) (fun _ _ _ h => h) (Or.inl ⟨(by kernel_rfl), fun w' _ => by kernel_rfl⟩) ((Below.refl _ _).drew) ?_
          refine takeH 89 (i := 1) (v := .bool false) rfl rfl (by kernel_rfl) (by kernel_rfl) (by kernel_rfl) (fun _ _ _ h => h) (Or.inl ⟨(by kernel_rfl), fun w' _ => by kernel_rfl⟩) ((Below.refl _ _).drew) ?_
          refine takeH 90 (i := 2) (v := .bool false) rfl rfl (by kernel_rfl) (by kernel_rfl) (by kernel_rfl) (fun _ _ _ h => h) (Or.inl ⟨(by kernel_rfl), fun w' _ => by kernel_rfl⟩) ((Below.refl _ _).drew) ?_
          refine takeH 91 (i := 3) (v := undef) rfl rfl (by kernel_rfl) (by kernel_rfl) (by kernel_rfl) (fun _ _ _ h => h) (Or.inr ⟨(by kernel_rfl), rfl⟩) ((Below.refl _ _).drew) ?_
          refine takeH 92 (i := 4) (v := undef) rfl rfl (by kernel_rfl) (by kernel_rfl) (by kernel_rfl) (fun _ _ _ h => h) (Or.inr ⟨(by kernel_rfl), rfl⟩) ((Below.refl _ _).drew) ?_
          refine takeH 93 (i := 5) (v := .bool false) rfl rfl (by kernel_rfl) (by kernel_rfl) (by kernel_rfl) (fun _ _ _ h => h) (Or.inl ⟨(by kernel_rfl), fun w' _ => by kernel_rfl⟩) ((Below.refl _ _).drew) ?_
          refine takeH 94 (i := 6) (v := .bool false) rfl rfl (by kernel_rfl) (by kernel_rfl) (by kernel_rfl) (fun _ _ _ h => h) (Or.inl ⟨(by kernel_rfl), fun w' _ => by kernel_rfl⟩) ((Below.refl _ _).drew) ?_
          refine takeH 95 (i := 7) (v := .bool true) rfl rfl (by kernel_rfl) (by kernel_rfl) (by kernel_rfl) (fun _ _ _ h => h) (Or.inl ⟨(by kernel_rfl), fun w' _ => by kernel_rfl⟩) ((Below.refl _ _).drew) ?_
          refine takeH 96 (i := 8) (v := .bool true) rfl rfl (by kernel_rfl) (by kernel_rfl) (by kernel_rfl) (fun _ _ _ h => h) (Or.inl ⟨(by kernel_rfl), fun w' _ => by kernel_rfl⟩) ((Below.refl _ _).drew) ?_
          refine takeH 97 (i := 9) (v := .float .f64 dn) rfl rfl (by kernel_rfl) (by kernel_rfl) (by kernel_rfl) (fun _ _ _ h => h) (Or.inl ⟨(by kernel_rfl), fun w' _ => by kernel_rfl⟩) ((Below.refl _ _).drew) ?_
          refine takeH 99 (i := 11) (v := (.agg #[.bool n0, .slice o0 l0 c0, .int .i64 e0])) rfl rfl (by kernel_rfl) (by kernel_rfl) (by kernel_rfl) (fun _ _ _ h => h) (Or.inl ⟨(by kernel_rfl), fun w' hS => ex_load3 _ _ rfl Pv (by kernel_rfl) w' n0 o0 l0 c0 e0 (HCV.out _ w' (Below.refl _ _) hS).2⟩) ((Below.refl _ _).drew) ?_
          simp only [Act.put, List.setIfInBounds_toArray, List.set_cons_zero, List.set_cons_succ]
          refine wpAnyH_ready (rs := [10]) (by kernel_rfl) (by simp) ?_
          refine consH _ rfl ?_ AllReadyH.nil
          refine hopCd 98 rfl (by kernel_rfl) rfl (by kernel_rfl) (Calls.mono (value_any dn FD.out.2 FD.out.1 _ E hE) ?_)
          rintro e wu ⟨vu, rfl, hzu, bxu⟩
          have bzu : Below wv.heap.size wv wu := Below.trans ((Below.refl _ _).drew : Below wv.heap.size wv _) (bxu.mono (Below.size ((Below.refl _ _).drew : Below wv.heap.size wv _)))
          have Zu : Hid (NumZ wu vu (E + (E + 92)) (2200 + k) (fval dn * (D : Int))) := DD.out _ _ _ hzu
          refine ⟨vu, rfl, bzu, ?_⟩
          simp only [Act.put, List.setIfInBounds_toArray, List.set_cons_zero, List.set_cons_succ]
          refine wpAnyH_ready (rs := [12]) (by kernel_rfl) (by simp) ?_
          refine consH _ rfl ?_ AllReadyH.nil
          refine hopCd 100 rfl (by kernel_rfl) rfl (by kernel_rfl) (Calls.mono (cmpZ_any _ _ (E + (E + 92)) (2200 + k) (fval dn * (D : Int)) z _ Zu.out (NumZ.later MV.out bzu) (by omega) (by have := KT.out; omega)) ?_)
          rintro e xu ⟨rfl, byu⟩
          rw [HSD.out]
          have bcu : Below wv.heap.size wv xu := bzu.trans (byu.mono bzu.size)
          refine ⟨_, rfl, bcu, ?_⟩
          refine takeH 101 (i := 13) (v := .bool false) rfl rfl (by kernel_rfl) (by kernel_rfl) (by kernel_rfl) (fun _ _ _ h => h) (Or.inl ⟨(by kernel_rfl), fun w' _ => (show _ = Result.ok (Next.value (Value.bool (decide (0 < sd)))) w' by kernel_rfl).trans (by rw [hsd])⟩) (bcu) ?_
          refine takeH 102 (i := 14) (v := .bool false) rfl rfl (by kernel_rfl) (by kernel_rfl) (by kernel_rfl) (fun _ _ _ h => h) (Or.inl ⟨(by kernel_rfl), fun w' _ => by kernel_rfl⟩) (bcu) ?_
          refine takeH 103 (i := 15) (v := .bool false) rfl rfl (by kernel_rfl) (by kernel_rfl) (by kernel_rfl) (fun _ _ _ h => h) (Or.inl ⟨(by kernel_rfl), fun w' _ => by kernel_rfl⟩) (bcu) ?_
          refine takeH 104 (i := 16) (v := .bool false) rfl rfl (by kernel_rfl) (by kernel_rfl) (by kernel_rfl) (fun _ _ _ h => h) (Or.inl ⟨(by kernel_rfl), fun w' _ => by kernel_rfl⟩) (bcu) ?_
          refine takeH 105 (i := 17) (v := .bool true) rfl rfl (by kernel_rfl) (by kernel_rfl) (by kernel_rfl) (fun _ _ _ h => h) (Or.inl ⟨(by kernel_rfl), fun w' _ => by kernel_rfl⟩) (bcu) ?_
          refine takeH 106 (i := 18) (v := .bool true) rfl rfl (by kernel_rfl) (by kernel_rfl) (by kernel_rfl) (fun _ _ _ h => h) (Or.inl ⟨(by kernel_rfl), fun w' _ => by kernel_rfl⟩) (bcu) ?_
          refine takeH 107 (i := 19) (v := .float .f64 up) rfl rfl (by kernel_rfl) (by kernel_rfl) (by kernel_rfl) (fun _ _ _ h => h) (Or.inl ⟨(by kernel_rfl), fun w' _ => by kernel_rfl⟩) (bcu) ?_
          refine takeH 109 (i := 21) (v := (.agg #[.bool n0, .slice o0 l0 c0, .int .i64 e0])) rfl rfl (by kernel_rfl) (by kernel_rfl) (by kernel_rfl) (fun _ _ _ h => h) (Or.inl ⟨(by kernel_rfl), fun w' hS => ex_load3 _ _ rfl Pv (by kernel_rfl) w' n0 o0 l0 c0 e0 (HCV.out _ w' (Below.refl _ _) hS).2⟩) (bcu) ?_
          simp only [Act.put, List.setIfInBounds_toArray, List.set_cons_zero, List.set_cons_succ]
          refine wpAnyH_ready (rs := [20]) (by kernel_rfl) (by simp) ?_
          refine consH _ rfl ?_ AllReadyH.nil
          refine hopCd 108 rfl (by kernel_rfl) rfl (by kernel_rfl) (Calls.mono (value_any up FU.out.2 FU.out.1 _ E hE) ?_)
          rintro e wt ⟨vt, rfl, hzt, bxt⟩
          have bzt : Below wv.heap.size wv wt := Below.trans (bcu : Below wv.heap.size wv _) (bxt.mono (Below.size (bcu : Below wv.heap.size wv _)))
          have Zt : Hid (NumZ wt vt (E + (E + 92)) (2200 + k) (fval up * (D : Int))) := DD.out _ _ _ hzt
          refine ⟨vt, rfl, bzt, ?_⟩
          simp only [Act.put, List.setIfInBounds_toArray, List.set_cons_zero, List.set_cons_succ]
          refine wpAnyH_ready (rs := [22]) (by kernel_rfl) (by simp) ?_
          refine consH _ rfl ?_ AllReadyH.nil
          refine hopCd 110 rfl (by kernel_rfl) rfl (by kernel_rfl) (Calls.mono (cmpZ_any _ _ (E + (E + 92)) (2200 + k) (fval up * (D : Int)) z _ Zt.out (NumZ.later MV.out bzt) (by omega) (by have := KT.out; omega)) ?_)
          rintro e xt ⟨rfl, byt⟩
          rw [HSU.out]
          have bct : Below wv.heap.size wv xt := bzt.trans (byt.mono bzt.size)
          refine ⟨_, rfl, bct, ?_⟩
          refine takeH 111 (i := 23) (v := .bool false) rfl rfl (by kernel_rfl) (by kernel_rfl) (by kernel_rfl) (fun _ _ _ h => h) (Or.inl ⟨(by kernel_rfl), fun w' _ => (show _ = Result.ok (Next.value (Value.bool (decide (su < 0)))) w' by kernel_rfl).trans (by rw [hsu])⟩) (bct) ?_
          refine takeH 112 (i := 24) (v := .bool false) rfl rfl (by kernel_rfl) (by kernel_rfl) (by kernel_rfl) (fun _ _ _ h => h) (Or.inl ⟨(by kernel_rfl), fun w' _ => by kernel_rfl⟩) (bct) ?_
          refine takeH 113 (i := 25) (v := .bool false) rfl rfl (by kernel_rfl) (by kernel_rfl) (by kernel_rfl) (fun _ _ _ h => h) (Or.inl ⟨(by kernel_rfl), fun w' _ => by kernel_rfl⟩) (bct) ?_
          refine wpAnyH_done (by kernel_rfl) ?_ _
          refine NoPanic.normal ?_
          simp only [Act.put, List.setIfInBounds_toArray, List.set_cons_zero, List.set_cons_succ]
          go_wp2_with fail
          go_meet
          exact ⟨rfl, bct⟩
        case rest =>
        obtain ⟨rfl, BX⟩ := hcut
        clear hsd hsu HSD HSU vv0 vv1 vv2
        go_upto_region 21 with fail
        have HKT : Hid (0 ≤ 2200 + (k : Int) ∧ 2200 + (k : Int) ≤ 20000) := by unfold Hid; have := KT.out; omega
        go_cut [17, 18] (fun s17 s18 wx => ∃ (P17 P18 : Nat) (nx : Bool) (ox : Option Addr) (lx cx : Nat) (ex : Int) (ny : Bool) (oy : Option Addr) (ly cy : Nat) (ey : Int), s17 = .pointer (some ⟨P17, 0, none⟩) ∧ s18 = .pointer (some ⟨P18, 0, none⟩) ∧ Hid (wx.heap[P17]? = some (Obj.cells #[Value.bool nx, Value.slice ox lx cx, Value.int IntKind.i64 ex] 29)) ∧ Hid (wx.heap[P18]? = some (Obj.cells #[Value.bool ny, Value.slice oy ly cy, Value.int IntKind.i64 ey] 29)) ∧ Hid (NumZ wx (.agg #[.bool nx, .slice ox lx cx, .int .i64 ex]) (E + (E + 92)) (2200 + k + 1) (z - fval dn * (D : Int))) ∧ Hid (NumZ wx (.agg #[.bool ny, .slice oy ly cy, .int .i64 ey]) (E + (E + 92)) (2200 + k + 1) (fval up * (D : Int) - z)) ∧ Hid (Below wv.heap.size wv wx))
        case first =>
          clear H9 heD heU heB
          have HES : E + (E + 92) ≤ 20000 := by omega
          have hTc : Below wv.heap.size wv wc := BX.out
          have HLD : ∀ w', Below wc.heap.size wc w' → (w'.cell? ⟨Pv, 0, none⟩ = some (.bool n0) ∧ w'.cell? ⟨Pv, 1, none⟩ = some (.slice o0 l0 c0) ∧ w'.cell? ⟨Pv, 2, none⟩ = some (.int .i64 e0)) := fun w' h => (HCV.out _ w' BX.out h).2
          have MC : ∀ w', Below wc.heap.size wc w' → NumZ w' (.agg #[.bool n0, .slice o0 l0 c0, .int .i64 e0]) (E + (E + 92)) (2200 + k) z := fun w' h => NumZ.later MV.out (hTc.trans (h.mono hTc.size))
          refine wp_region_noPanic ?_
          refine wp_region_held_drew (S := fun W' => Below wc.heap.size wc W') (by kernel_rfl) (Below.refl _ _).drew (fun _ => ?_)
          refine takeH 150 (i := 0) (v := (.agg #[.bool n0, .slice o0 l0 c0, .int .i64 e0])) rfl rfl (by kernel_rfl) (by kernel_rfl) (by kernel_rfl) (fun _ _ _ h => h) (Or.inl ⟨by rfl, fun w' hS => ex_load3 _ _ rfl Pv (by rfl) w' n0 o0 l0 c0 e0 (HLD w' hS)⟩) (Below.refl _ _).drew ?_
          refine takeH 151 (i := 1) (v := .float .f64 dn) rfl rfl (by kernel_rfl) (by kernel_rfl) (by kernel_rfl) (fun _ _ _ h => h) (Yields.yieldsIf (Or.inl ⟨by rfl, fun w => by rfl⟩)) (Below.refl _ _).drew ?_
          refine takeH 154 (i := 4) (v := .float .f64 up) rfl rfl (by kernel_rfl) (by kernel_rfl) (by kernel_rfl) (fun _ _ _ h => h) (Yields.yieldsIf (Or.inl ⟨by rfl, fun w => by rfl⟩)) (Below.refl _ _).drew ?_
          refine takeH 156 (i := 6) (v := (.agg #[.bool n0, .slice o0 l0 c0, .int .i64 e0])) rfl rfl (by kernel_rfl) (by kernel_rfl) (by kernel_rfl) (fun _ _ _ h => h) (Or.inl ⟨by rfl, fun w' hS => ex_load3 _ _ rfl Pv (by rfl) w' n0 o0 l0 c0 e0 (HLD w' hS)⟩) (Below.refl _ _).drew ?_
          refine btRegion _ _ _ _ _ _ _ _ 2 3 5 7 8 9 10 11 152 153 155 157 17 18 (fun a b c d e f g h => #[true, true, a, b, true, c, true, d, e, f, g, h]) _ wc 14 16 (.float .f64 dn) (.float .f64 up) (.agg #[.bool n0, .slice o0 l0 c0, .int .i64 e0]) (E + (E + 92)) (E + (E + 92)) (E + (E + 92)) (E + (E + 92)) (2200 + k) (fval dn * (D : Int)) (2200 + k + 1) (z - fval dn * (D : Int)) (2200 + k) (fval up * (D : Int)) (2200 + k + 1) (fval up * (D : Int) - z) (.tmp 17) (.tmp 153) (.tmp 18) (.tmp 157) rfl rfl rfl rfl rfl rfl rfl rfl rfl rfl rfl rfl rfl rfl rfl rfl rfl rfl rfl rfl rfl rfl rfl rfl (by decide) (by decide) (by decide) (by decide) (by decide) (by decide) (by decide) (by decide) (by decide) (fun _ _ _ _ _ _ _ => rfl) (fun _ _ _ _ _ _ _ => rfl) (fun _ _ _ _ _ _ _ => rfl) (fun _ _ _ _ _ _ _ => rfl) (fun _ _ _ _ _ _ _ => rfl) (fun _ _ _ _ _ _ _ => rfl) (fun _ _ _ _ _ _ _ => rfl) (fun _ _ _ _ _ _ _ => rfl) (by kernel_rfl) (by kernel_rfl) (by kernel_rfl) (by kernel_rfl) (by kernel_rfl) (by kernel_rfl) (by kernel_rfl) (by kernel_rfl) (by kernel_rfl) (by kernel_rfl) (by kernel_rfl) (by kernel_rfl) (by kernel_rfl) (by kernel_rfl) (by kernel_rfl) (by kernel_rfl) (by kernel_rfl) (by kernel_rfl) (by kernel_rfl) (by kernel_rfl) (by kernel_rfl) (by kernel_rfl) (by intro u x t P8 P9 W; kernel_rfl) (by intro u x t P8 P9 W; kernel_rfl) (by intro u x t P8 P9 W; kernel_rfl) (by intro u x t P8 P9 W; kernel_rfl) (by intro u x t P8 P9 W; kernel_rfl) (by intro u x t P8 P9 W; kernel_rfl) (by intro u x t P8 P9 W; kernel_rfl) (by intro u x t P8 P9 W; kernel_rfl) (by intro u x t P8 P9 W; kernel_rfl) (by intro u x t P8 P9 W; kernel_rfl) (by intro u x t P8 P9 W; kernel_rfl) (by intro u x t P8 P9 W; kernel_rfl) (by intro u x t P8 P9 W; kernel_rfl) (by intro u x t P8 P9 W; kernel_rfl) (by intro u x t P8 P9 W; kernel_rfl) (by intro u x t P8 P9 W; kernel_rfl) (fun _ W => ex_alloc _ _ rfl _ _ _ (alloc_num W)) (fun _ W => ex_alloc _ _ rfl _ _ _ (alloc_num W)) rfl rfl (by intro u x t y P8 P9; exact ⟨(by kernel_rfl), (by kernel_rfl), (by kernel_rfl), (by kernel_rfl)⟩)
            (fun W hW => Calls.mono (value_any dn FD.out.2 FD.out.1 W E hE) (by rintro e w' ⟨v, rfl, hz, hb⟩; exact ⟨v, rfl, DD.out _ _ _ hz, hb⟩))
            (fun W u hW hu => minusZ_any _ _ (E + (E + 92)) (2200 + k) z (fval dn * (D : Int)) W (MC W hW) hu HES HKT.out)
            (fun W hW => Calls.mono (value_any up FU.out.2 FU.out.1 W E hE) (by rintro e w' ⟨v, rfl, hz, hb⟩; exact ⟨v, rfl, DD.out _ _ _ hz, hb⟩))
            (fun W t hW ht => minusZ_any _ _ (E + (E + 92)) (2200 + k) (fval up * (D : Int)) z W ht (MC W hW) HES HKT.out) ?_ _ (Below.refl _ _).drew
          intro W u t nx ox lx cx ex ny oy ly cy ey P8 P9 hb a8 a9 zx zy
          refine NoPanic.normal ?_
          simp only [Act.put, List.setIfInBounds_toArray, List.set_cons_zero, List.set_cons_succ]
          go_wp2_with fail
          go_meet
          exact ⟨P8, P9, nx, ox, lx, cx, ex, ny, oy, ly, cy, ey, rfl, rfl, a8, a9, zx, zy, hTc.trans (hb.mono hTc.size)⟩
        case rest =>
        obtain ⟨P17, P18, nx, ox, lx, cx, ex, ny, oy, ly, cy, ey, rfl, rfl, A17, A18, Zx, Zy, KB⟩ := hcut
        obtain ⟨x0, x1, x2⟩ := three_cells A17.out
        obtain ⟨y0, y1, y2⟩ := three_cells A18.out
        have BW2 : Hid (Below w.heap.size w wc) := BW.out.trans (KB.out.mono BW.out.size)
        rcases H9.out with ⟨h4, h5, h6⟩ | ⟨h4, h5, h8, h9⟩
        · rw [decide_eq_true h5] at heD
          rw [decide_eq_true h4.symm] at heB
          have HS : Hid (sgi (z - fval dn * (D : Int)) = 0) := by unfold Hid; rw [h6]; unfold sgi; rw [if_neg (by omega), if_pos (by omega)]
          clear h4 h5 h6 H9 heU BX KB
          go_wp2_with fail
          refine Calls.mono (signZ_any _ (E + (E + 92)) (2200 + k + 1) _ _ Zx.out) ?_
          rintro e wy ⟨rfl, by'⟩
          rw [HS.out]
          have BZ : Hid (Below w.heap.size w wy) := BW2.out.trans (by'.mono BW2.out.size)
          clear by'
          go_wp2_with fail
          go_ret
          exact ⟨rfl, BZ.out⟩
        · have hne : ¬ (srung dn = srung up) := by omega
          rw [decide_eq_false hne] at heB
          have hnn : 2 * z - (fval dn + fval up) * (D : Int) = (z - fval dn * (D : Int)) - (fval up * (D : Int) - z) := by rw [Int.add_mul]; omega
          have HNB : Hid (∀ p b, RndZ 1 (fval dn * 64 + (if (1 : Int) = 1 then 1 else if (1 : Int) = 2 then -1 else 0)) 64 (p, b) → p = up) := fun p b h => by
            obtain ⟨V, D', c, hu⟩ := HU1.out
            exact next_bits hu h4 h5 h8 h
          have HEV : Hid (dn % 2 = 0 ↔ srung dn % 2 = 0) := even_word FD.out.2
          have h3c : (sgi ((z - fval dn * (D : Int)) - (fval up * (D : Int) - z)) = -1 ∧ srung nr = srung dn) ∨ (sgi ((z - fval dn * (D : Int)) - (fval up * (D : Int) - z)) = 1 ∧ srung nr = srung up) ∨ (sgi ((z - fval dn * (D : Int)) - (fval up * (D : Int) - z)) = 0 ∧ (dn % 2 = 0 → srung nr = srung dn) ∧ (dn % 2 = 1 → srung nr = srung up)) := by
            rw [← hnn]
            rcases h9 with ⟨c, e⟩ | ⟨c, e⟩ | ⟨c, e⟩
            · exact .inl ⟨by unfold sgi; rw [if_pos (by omega)], e⟩
            · exact .inr (.inl ⟨by unfold sgi; rw [if_neg (by omega), if_neg (by omega)], e⟩)
            · refine .inr (.inr ⟨by unfold sgi; rw [if_neg (by omega), if_pos (by omega)], fun hp => ?_, fun hp => ?_⟩)
              · rw [e, if_pos (HEV.out.1 hp)]
              · rw [e, if_neg (fun q => by have := HEV.out.2 q; omega)]
          have H3 : Hid _ := h3c
          clear h3c h9 hnn h4 h5 h8 H9 HU1 HEV BX
          go_wp2_with (go_at_call 19; refine (bits_any _ _).mono ?_; rintro e w' ⟨rfl, rfl⟩)
          refine Calls.mono (refNext_any 1 dn FD.out.2 (by decide) (by decide) _ E hE) ?_
          rintro e wy ⟨nx', nb, rfl, k1, -, by'⟩
          obtain rfl := HNB.out _ _ (k1 FD.out.1)
          have BZ : Hid (Below w.heap.size w wy) := BW2.out.trans (by'.mono BW2.out.size)
          have Vx : Hid _ := NumZ.later Zx.out by'
          have Vy : Hid _ := NumZ.later Zy.out by'
          obtain ⟨u0, u1, u2⟩ := three_cells ((by'.block _ (Array.getElem?_eq_some_iff.1 A17.out).1).trans A17.out)
          obtain ⟨t0, t1, t2⟩ := three_cells ((by'.block _ (Array.getElem?_eq_some_iff.1 A18.out).1).trans A18.out)
          clear by' k1 x0 x1 x2 y0 y1 y2 Zx Zy A17 A18 BW2 KB HNB
          have hbne : ((nx' : Int) != (nx' : Int)) = false := by simp
          go_upto_region 27 with (go_at_call 19; refine (bits_any _ _).mono ?_; rintro e w' ⟨rfl, rfl⟩)
          go_wp2_with fail
          refine Calls.mono (cmpZ_any _ _ (E + (E + 92)) (2200 + k + 1) _ _ _ Vx.out Vy.out (by omega) (by have := KT.out; omega)) ?_
          rintro e wz ⟨rfl, bz⟩
          have BY : Hid (Below w.heap.size w wz) := BZ.out.trans (bz.mono BZ.out.size)
          have ha1 := and1 dn FD.out.2
          have hm := Nat.mod_lt dn (show 0 < 2 by omega)
          clear bz u0 u1 u2 t0 t1 t2 Vx Vy BZ
          rcases H3.out with ⟨g, e1⟩ | ⟨g, e1⟩ | ⟨g, e1, e2⟩
          · rw [g]
            rw [decide_eq_true e1] at heD
            clear H3 g e1
            rcases (show dn % 2 = 0 ∨ dn % 2 = 1 by omega) with c | c
            all_goals
              rw [c] at ha1
              clear c hm
              go_wp2_with (go_at_call 19; refine (bits_any _ _).mono ?_; rintro e w' ⟨rfl, rfl⟩)
              go_ret
              exact ⟨rfl, BY.out⟩
          · rw [g]
            rw [decide_eq_true e1] at heU
            clear H3 g e1
            rcases (show dn % 2 = 0 ∨ dn % 2 = 1 by omega) with c | c
            all_goals
              rw [c] at ha1
              clear c hm
              go_wp2_with (go_at_call 19; refine (bits_any _ _).mono ?_; rintro e w' ⟨rfl, rfl⟩)
              go_ret
              exact ⟨rfl, BY.out⟩
          · rw [g]
            rcases (show dn % 2 = 0 ∨ dn % 2 = 1 by omega) with c | c
            · rw [decide_eq_true (e1 c)] at heD
              rw [c] at ha1
              clear c hm H3 g e1 e2
              go_wp2_with (go_at_call 19; refine (bits_any _ _).mono ?_; rintro e w' ⟨rfl, rfl⟩)
              go_ret
              exact ⟨rfl, BY.out⟩
            · rw [decide_eq_true (e2 c)] at heU
              rw [c] at ha1
              clear c hm H3 g e1 e2
              go_wp2_with (go_at_call 19; refine (bits_any _ _).mono ?_; rintro e w' ⟨rfl, rfl⟩)
              go_ret
              exact ⟨rfl, BY.out⟩
end Go.Proofs.Ytbfohkmmfhngeaa
