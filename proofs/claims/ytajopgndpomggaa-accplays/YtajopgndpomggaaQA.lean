namespace Go.Proofs.Ytajopgndpomggaa
set_option linter.unusedVariables false

/-- What stays in a half of a long division: q is never too small. -/
structure DvI (u d y1 y0 q r : Nat) : Prop where
  eq : q * y1 + r = u
  up : u * 4294967296 + d < (q + 1) * (y1 * 4294967296 + y0)
  le : q ≤ 4294967297
theorem DvI.init {u d y1 y0 : Nat} (h1 : 2147483648 ≤ y1) (h0 : y0 < 4294967296) (hd : d < 4294967296) (hu : u < y1 * 4294967296 + y0) : DvI u d y1 y0 (u / y1) (u - u / y1 * y1) := by
  have hp : 0 < y1 := by omega
  have e := Nat.div_add_mod u y1
  have hm := Nat.mod_lt u hp
  rw [Nat.mul_comm] at e
  generalize u / y1 = q at *
  generalize u % y1 = r at *
  have hq : q ≤ 4294967297 := by
    rcases Nat.lt_or_ge 4294967297 q with h | h
    · exfalso
      have h2 : 4294967298 * y1 ≤ q * y1 := Nat.mul_le_mul_right _ h
      omega
    · exact h
  refine ⟨by omega, ?_, hq⟩
  rw [Nat.add_mul, Nat.one_mul, Nat.mul_add, ← Nat.mul_assoc]
  generalize q * y1 = a at *
  generalize q * y0 = b at *
  omega
theorem DvI.dec {u d y1 y0 q r : Nat} (h : DvI u d y1 y0 q r) (hu : u < y1 * 4294967296 + y0) (hd : d < 4294967296) (ht : 4294967296 ≤ q ∨ 4294967296 * r + d < q * y0) : DvI u d y1 y0 (q - 1) (r + y1) ∧ 1 ≤ q ∧ q - 1 ≤ 4294967296 := by
  obtain ⟨e, -, hl⟩ := h
  have hq : 1 ≤ q := by
    rcases ht with h | h
    · omega
    · rcases Nat.eq_zero_or_pos q with h0 | h0
      · subst h0; rw [Nat.zero_mul] at h; omega
      · exact h0
  obtain ⟨q', rfl⟩ : ∃ q', q = q' + 1 := ⟨q - 1, by omega⟩
  refine ⟨⟨?_, ?_, by omega⟩, hq, by omega⟩
  · rw [Nat.add_sub_cancel]
    rw [Nat.add_mul] at e
    omega
  · rw [Nat.add_sub_cancel]
    rcases ht with h | h
    · have h2 : 4294967296 * (y1 * 4294967296 + y0) ≤ (q' + 1) * (y1 * 4294967296 + y0) := Nat.mul_le_mul_right _ h
      omega
    · rw [Nat.mul_add, ← Nat.mul_assoc]
      generalize (q' + 1) * y1 = a at *
      generalize (q' + 1) * y0 = b at *
      omega
theorem DvI.fin {u d y1 y0 q r : Nat} (h : DvI u d y1 y0 q r) (ht : q * y0 ≤ 4294967296 * r + d) : q * (y1 * 4294967296 + y0) ≤ u * 4294967296 + d := by
  obtain ⟨e, -, hl⟩ := h
  rw [Nat.mul_add, ← Nat.mul_assoc]
  generalize q * y1 = a at *
  generalize q * y0 = b at *
  omega
theorem DvI.brk {u d y1 y0 q r : Nat} (h : DvI u d y1 y0 q r) (h0 : y0 < 4294967296) (hq : q ≤ 4294967296) (hr : 4294967296 ≤ r) : q * (y1 * 4294967296 + y0) ≤ u * 4294967296 + d := by
  refine h.fin ?_
  have h1 : q * y0 ≤ 4294967296 * y0 := Nat.mul_le_mul_right _ hq
  have h2 : 4294967296 * y0 ≤ 4294967296 * r := Nat.mul_le_mul_left _ (by omega)
  omega
theorem DvI.lt {u d y1 y0 q : Nat} (hu : u < y1 * 4294967296 + y0) (hd : d < 4294967296) (h : q * (y1 * 4294967296 + y0) ≤ u * 4294967296 + d) : q < 4294967296 := by
  rcases Nat.lt_or_ge q 4294967296 with h1 | h1
  · exact h1
  · exfalso
    have h2 : 4294967296 * (y1 * 4294967296 + y0) ≤ q * (y1 * 4294967296 + y0) := Nat.mul_le_mul_right _ h1
    omega
/-- Both halves together. -/
theorem dv_join {hi lo y q1 q0 u : Nat} (a1 : q1 * y ≤ hi * 4294967296 + lo / 4294967296) (hu : u = hi * 4294967296 + lo / 4294967296 - q1 * y) (b1 : q0 * y ≤ u * 4294967296 + lo % 4294967296) (b2 : u * 4294967296 + lo % 4294967296 < (q0 + 1) * y) :
    (q1 * 4294967296 + q0) * y ≤ hi * 18446744073709551616 + lo ∧ hi * 18446744073709551616 + lo < (q1 * 4294967296 + q0 + 1) * y := by
  rw [Nat.add_mul, Nat.one_mul] at b2
  rw [Nat.add_mul, Nat.add_mul, Nat.add_mul, Nat.one_mul, show q1 * 4294967296 * y = 4294967296 * (q1 * y) by ac_rfl]
  generalize q1 * y = a at *
  generalize q0 * y = b at *
  omega
end Go.Proofs.Ytajopgndpomggaa
