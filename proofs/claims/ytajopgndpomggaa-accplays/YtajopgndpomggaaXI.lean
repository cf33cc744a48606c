import Derived.Test.YtajopgndpomggaaXH
import Derived.Test.YtajopgndpomggaaQH
import Derived.Test.YtajopgndpomggaaOX
namespace Go.Proofs.Ytajopgndpomggaa
open Go.RowKit
set_option linter.unusedVariables false

theorem rnd_sign0 {d : Int} {g g' : Bool} {D : Nat} (hD : 0 < D) {p : Nat × Bool} (h : Rnd d g 0 D p) : Rnd d g' 0 D p := by
  by_cases hd : d = 0 ∨ d = 1 ∨ d = 2
  · rw [h.uniq (rnd_nought d g D hD hd)]; exact rnd_nought d g' D hD hd
  · rw [h.uniq (rnd_none d g 0 D hD hd)]; exact rnd_none d g' 0 D hD hd
theorem ovr_of {d : Int} {nx ny : Bool} {mx my : Nat} {ex ey : Int} {s : Nat} {a : Nat} {b : Bool} (hx : -(s : Int) ≤ ex) (hy : -(s : Int) ≤ ey) (hr : my ≠ 0 → Rnd d (nx != ny) (mx * 2 ^ (ex - ey + 1074).toNat) (my * 2 ^ (-(ex - ey + 1074)).toNat) (a, b)) (h0 : my = 0 → (a, b) = (0, false)) :
    OvrO d (some (zv s nx mx ex)) (some (zv s ny my ey)) a b := by
  have ax := zv_abs s nx mx ex
  have ay := zv_abs s ny my ey
  show if zv s ny my ey = 0 then _ else _
  by_cases hm : my = 0
  · have hz : zv s ny my ey = 0 := by rw [hm, zv_zero]
    rw [if_pos hz]
    have := h0 hm
    exact ⟨congrArg Prod.fst this, congrArg Prod.snd this⟩
  · have hp : 0 < my * 2 ^ (ey + (s : Int)).toNat := Nat.mul_pos (Nat.pos_of_ne_zero hm) (Nat.two_pow_pos _)
    have hz : zv s ny my ey ≠ 0 := fun c => by rw [c] at ay; simp at ay; omega
    rw [if_neg hz]
    intro E hE
    have hny := zv_lt hz
    have key : Rnd d (nx != ny) ((zv s nx mx ex).natAbs * 2 ^ E) (zv s ny my ey).natAbs (a, b) := by
      refine (hr hm).of_eq (by rw [ay]; exact hp) ?_
      rw [ax, ay]
      have e1 : (ex - ey + 1074).toNat + (ey + (s : Int)).toNat = (ex + (s : Int)).toNat + E + (-(ex - ey + 1074)).toNat := by omega
      have e2 : (2 : Nat) ^ (ex - ey + 1074).toNat * 2 ^ (ey + (s : Int)).toNat = 2 ^ (ex + (s : Int)).toNat * 2 ^ E * 2 ^ (-(ex - ey + 1074)).toNat := by
        rw [← Nat.pow_add, ← Nat.pow_add, ← Nat.pow_add, e1]
      calc mx * 2 ^ (ex - ey + 1074).toNat * (my * 2 ^ (ey + (s : Int)).toNat) = mx * my * (2 ^ (ex - ey + 1074).toNat * 2 ^ (ey + (s : Int)).toNat) := by ac_rfl
        _ = mx * my * (2 ^ (ex + (s : Int)).toNat * 2 ^ E * 2 ^ (-(ex - ey + 1074)).toNat) := by rw [e2]
        _ = mx * 2 ^ (ex + (s : Int)).toNat * 2 ^ E * (my * 2 ^ (-(ex - ey + 1074)).toNat) := by ac_rfl
    by_cases hx0 : zv s nx mx ex = 0
    · rw [hx0] at key ⊢
      simp only [Int.natAbs_zero, Nat.zero_mul] at key ⊢
      exact rnd_sign0 (by rw [ay]; exact hp) key
    · rw [← zv_lt hx0, ← hny]; exact key
theorem OvrO.uniq {d : Int} {o p : Option Int} {u v : Nat} {b c : Bool} (h : OvrO d o p u b) (k : OvrO d o p v c) : u = v ∧ b = c := by
  cases o with
  | none => exact ⟨h.1.trans k.1.symm, h.2.trans k.2.symm⟩
  | some x =>
    cases p with
    | none => exact ⟨h.1.trans k.1.symm, h.2.trans k.2.symm⟩
    | some y =>
      change (if y = 0 then _ else _) at h k
      by_cases h0 : y = 0
      · rw [if_pos h0] at h k; exact ⟨h.1.trans k.1.symm, h.2.trans k.2.symm⟩
      · rw [if_neg h0] at h k
        obtain ⟨E, hE⟩ : ∃ E : Nat, E = 1074 := ⟨_, rfl⟩
        have := Rnd.uniq (h E hE) (k E hE)
        exact ⟨congrArg Prod.fst this, congrArg Prod.snd this⟩
set_option maxRecDepth 100000 in
set_option maxHeartbeats 1000000 in
theorem refOver3_any (v u : Value) (o p : Option Int) (d : Int) (hd0 : -9223372036854775808 ≤ d) (hd1 : d ≤ 9223372036854775807) (w : World) (h : RefO w v o) (k : RefO w u p) :
    Calls Try.prog 35 #[v, .int .i64 d, u] w fun e' w' => ∃ (a : Nat) (b : Bool), e' = .returned (.tuple #[.int .u64 (a : Int), .bool b]) ∧ OvrO d o p a b ∧ Below w.heap.size w w' := by
  obtain ⟨nb, ao, l, c, e, rfl, hz⟩ := h
  obtain ⟨nb', ao', l', c', e', rfl, hz'⟩ := k
  have HZ : Hid (∀ z, o = some z → NumC w (.agg #[.bool nb, .slice ao l c, .int .i64 e]) 2240 2560 z) := hz
  have HZ' : Hid (∀ z, p = some z → NumC w (.agg #[.bool nb', .slice ao' l' c', .int .i64 e']) 2240 2560 z) := hz'
  obtain ⟨-, -, a3, a4⟩ := alloc2_facts w (.cells #[.bool nb, .slice ao l c, .int .i64 e, .bool o.isNone] 29) (.cells #[.bool nb', .slice ao' l' c', .int .i64 e', .bool p.isNone] 29)
  have B1 : Hid _ := a4
  clear hz hz' a3 a4
  cases o with
  | none =>
    go_enter Try.func35, Try.ntmps35
    go_wp2_with fail
    go_ret2
    exact ⟨0, false, rfl, ⟨rfl, rfl⟩, B1.out⟩
  | some z =>
    cases p with
    | none =>
      go_enter Try.func35, Try.ntmps35
      go_wp2_with fail
      go_ret2
      exact ⟨0, false, rfl, ⟨rfl, rfl⟩, B1.out⟩
    | some y =>
      obtain ⟨nx, mx, ex, n1, n2, n3, n4⟩ := (HZ.out z rfl).bnd
      obtain ⟨ny, my, ey, m1, m2, m3, m4⟩ := (HZ'.out y rfl).bnd
      have N1 : Hid _ := NumV.later n1 B1.out
      have M1 : Hid _ := NumV.later m1 B1.out
      have N4 : Hid _ := n4
      have M4 : Hid _ := m4
      clear n1 m1 n4 m4
      go_enter Try.func35, Try.ntmps35
      go_wp2_with fail
      refine (overB_any d _ _ nx ny mx my ex ey _ N1.out M1.out (by omega) (by omega) (by omega) (by omega) hd0 hd1).mono ?_
      rintro e8 w8 ⟨a, b, rfl, hr, h0, b8⟩
      have HR : Hid _ := hr
      have H0 : Hid _ := h0
      have B8 : Hid (Below w.heap.size w w8) := B1.out.trans (b8.mono B1.out.size)
      clear b8 hr h0
      go_wp2_with fail
      go_ret2
      refine ⟨a, b, rfl, ?_, B8.out⟩
      rw [← N4.out, ← M4.out]
      exact ovr_of n2 m2 HR.out H0.out
end Go.Proofs.Ytajopgndpomggaa
