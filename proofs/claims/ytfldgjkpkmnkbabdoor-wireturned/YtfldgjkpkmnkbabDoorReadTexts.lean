import Derived.Test.YtfldgjkpkmnkbabDoorTexts
import Derived.Test.YtfldgjkpkmnkbabDoorReadUint
namespace Go.Proofs.YtfldgjkpkmnkbabDoor
open Go.RowKit
set_option linter.unusedVariables false

theorem rdG_ok (p : Int) : ∀ (f i : Nat) (v : Int) (cs : List Int), Byt cs → f + i = 9 → 0 ≤ v → v < 2 ^ (7 * i) → (rdG p f i v cs).2.2 = 0 →
    0 ≤ (rdG p f i v cs).1 ∧ (rdG p f i v cs).1 < 2 ^ 63 ∧ p + i + 1 ≤ (rdG p f i v cs).2.1 ∧ (rdG p f i v cs).2.1 ≤ p + i + cs.length := by
  intro f
  induction f with
  | zero => intro i v cs _ _ _ _ h; simp [rdG] at h
  | succ f ih =>
    intro i v cs hb hf h0 h1 h
    cases cs with
    | nil => simp [rdG] at h
    | cons c cs =>
      have hc := hb c (List.mem_cons_self ..)
      have hb' : Byt cs := fun y hy => hb y (List.mem_cons_of_mem _ hy)
      have hp : (0 : Int) < 2 ^ (7 * i) := Int.pow_pos (by decide)
      have e7 : (2 : Int) ^ (7 * (i + 1)) = 128 * 2 ^ (7 * i) := by rw [show 7 * (i + 1) = 7 * i + 7 from by omega, Int.pow_add]; omega
      have hle : (2 : Int) ^ (7 * (i + 1)) ≤ 2 ^ 63 := by
        have : (2 : Nat) ^ (7 * (i + 1)) ≤ 2 ^ 63 := Nat.pow_le_pow_right (by decide) (by omega)
        exact_mod_cast this
      by_cases h128 : 128 ≤ c
      · have hstep : rdG p (f + 1) i v (c :: cs) = rdG p f (i + 1) (v + (c - 128) * 2 ^ (7 * i)) cs := by simp only [rdG]; rw [if_pos h128]
        rw [hstep] at h ⊢
        have hcx : (c - 128) * 2 ^ (7 * i) ≤ 127 * 2 ^ (7 * i) := Int.mul_le_mul_of_nonneg_right (by omega) (by omega)
        have hc0 : 0 ≤ (c - 128) * 2 ^ (7 * i) := Int.mul_nonneg (by omega) (by omega)
        have := ih (i + 1) (v + (c - 128) * 2 ^ (7 * i)) cs hb' (by omega) (by omega) (by rw [e7]; omega) h
        simp only [List.length_cons]
        omega
      · by_cases hz : c = 0 ∧ 0 < i
        · have hstep : rdG p (f + 1) i v (c :: cs) = (0, 0, 11) := by simp only [rdG]; rw [if_neg h128, if_pos hz]
          rw [hstep] at h
          simp at h
        · have hstep : rdG p (f + 1) i v (c :: cs) = (v + c * 2 ^ (7 * i), p + i + 1, 0) := by simp only [rdG]; rw [if_neg h128, if_neg hz]
          rw [hstep]
          have hcx : c * 2 ^ (7 * i) ≤ 127 * 2 ^ (7 * i) := Int.mul_le_mul_of_nonneg_right (by omega) (by omega)
          have hc0 : 0 ≤ c * 2 ^ (7 * i) := Int.mul_nonneg (by omega) (by omega)
          simp only [List.length_cons]
          omega
/-- What a number that was read tells of its place. -/
theorem rdU_ok (xs : List Int) (p : Int) (hb : Byt xs) (h : (rdU xs p).2.2 = 0) : 0 ≤ (rdU xs p).1 ∧ (rdU xs p).1 < 2 ^ 63 ∧ 0 ≤ p ∧ p + 1 ≤ (rdU xs p).2.1 ∧ (rdU xs p).2.1 ≤ xs.length := by
  unfold rdU at h ⊢
  split at h
  · simp at h
  · rename_i ho
    rw [if_neg ho]
    have := rdG_ok p 9 0 0 (xs.drop p.toNat) (hb.drop _) (by omega) (by omega) (by simp) h
    rw [List.length_drop] at this
    omega

/-- What ReadText tells: the text, the place behind it, the error. -/
def rdT (xs : List Int) (p most : Int) : ByteArray × Int × Int :=
  if p < 0 ∨ (xs.length : Int) < p ∨ most < 0 then (⟨#[]⟩, 0, 1)
  else if (rdU xs p).2.2 ≠ 0 then (⟨#[]⟩, 0, (rdU xs p).2.2)
  else if most < (rdU xs p).1 then (⟨#[]⟩, 0, 13)
  else if (xs.length : Int) - (rdU xs p).2.1 < (rdU xs p).1 then (⟨#[]⟩, 0, 10)
  else match rn (strB ((xs.take ((rdU xs p).2.1 + (rdU xs p).1).toNat).drop (rdU xs p).2.1.toNat)) with
    | none => (⟨#[]⟩, 0, 14)
    | some _ => (strB ((xs.take ((rdU xs p).2.1 + (rdU xs p).1).toNat).drop (rdU xs p).2.1.toNat), (rdU xs p).2.1 + (rdU xs p).1, 0)
def rdTv (r : ByteArray × Int × Int) : Value := .tuple #[.string r.1, .int .i64 r.2.1, .int .i64 r.2.2]
theorem strB_size (xs : List Int) : (strB xs).size = xs.length := by
  show (strB xs).data.size = _
  unfold strB; simp

set_option maxRecDepth 100000 in
set_option maxHeartbeats 2000000 in
theorem readText_any (ao : Option Addr) (len cap : Nat) (xs : List Int) (p most : Int) (w : World) (hr : Rd w ao len cap xs) (hT : U8 w) :
    Calls Tryd.prog 25 #[.slice ao len cap, .int .i64 p, .int .i64 most] w fun e w' => e = .returned (rdTv (rdT xs p most)) ∧ Below w.heap.size w w' := by
  have hm := hr.max
  have hle := hr.le
  have hl := hr.length
  by_cases ho : p < 0 ∨ (len : Int) < p
  · have HE : Hid (rdT xs p most = (⟨#[]⟩, 0, 1)) := by unfold Hid rdT; rw [hl, if_pos (by omega)]
    clear hr hl
    go_enter Tryd.func25, Tryd.ntmps25
    go_wp2_with fail
    refine (outside_any _ _ _ _ _ (by omega) true (by simp; omega)).mono ?_
    rintro e w' ⟨rfl, rfl⟩
    go_wp2
    go_ret3
    exact ⟨by rw [HE.out]; rfl, Below.refl _ _⟩
  by_cases hmo : most < 0
  · have HE : Hid (rdT xs p most = (⟨#[]⟩, 0, 1)) := by unfold Hid rdT; rw [hl, if_pos (by omega)]
    clear hr hl
    go_enter Tryd.func25, Tryd.ntmps25
    go_wp2_with fail
    refine (outside_any _ _ _ _ _ (by omega) false (by simp; omega)).mono ?_
    rintro e w' ⟨rfl, rfl⟩
    go_wp2
    go_ret3
    exact ⟨by rw [HE.out]; rfl, Below.refl _ _⟩
  have HE0 : rdT xs p most = if (rdU xs p).2.2 ≠ 0 then (⟨#[]⟩, 0, (rdU xs p).2.2)
      else if most < (rdU xs p).1 then (⟨#[]⟩, 0, 13)
      else if (len : Int) - (rdU xs p).2.1 < (rdU xs p).1 then (⟨#[]⟩, 0, 10)
      else match rn (strB ((xs.take ((rdU xs p).2.1 + (rdU xs p).1).toNat).drop (rdU xs p).2.1.toNat)) with
        | none => (⟨#[]⟩, 0, 14)
        | some _ => (strB ((xs.take ((rdU xs p).2.1 + (rdU xs p).1).toNat).drop (rdU xs p).2.1.toNat), (rdU xs p).2.1 + (rdU xs p).1, 0) := by
    unfold rdT; rw [hl, if_neg (by omega)]
  have hok := rdU_ok xs p hr.byt
  have HU : Hid _ := readUint_any ao len cap xs p w hr
  generalize rdU xs p = r at *
  obtain ⟨n, q, er⟩ := r
  simp only at HE0 hok
  rw [hl] at hok
  by_cases he : er = 0
  · subst he
    have hok' := hok rfl
    clear hok
    rw [if_neg (by simp)] at HE0
    obtain ⟨N, rfl⟩ := Int.eq_ofNat_of_zero_le hok'.1
    obtain ⟨Q, rfl⟩ := Int.eq_ofNat_of_zero_le (show 0 ≤ q by omega)
    by_cases h13 : most < N
    · rw [if_pos h13] at HE0
      have HE : Hid _ := HE0
      clear HE0 hr hl
      go_enter Tryd.func25, Tryd.ntmps25
      go_wp2_with fail
      refine (outside_any _ _ _ _ _ (by omega) false (by simp; omega)).mono ?_
      rintro e w' ⟨rfl, rfl⟩
      go_wp2_with fail
      refine Calls.mono HU.out ?_
      rintro e w1 ⟨rfl, hb1⟩
      unfold rdV
      go_wp2
      go_ret3
      exact ⟨by rw [HE.out]; rfl, hb1⟩
    · rw [if_neg h13] at HE0
      by_cases h10 : (len : Int) - Q < N
      · rw [if_pos h10] at HE0
        have HE : Hid _ := HE0
        clear HE0 hr hl
        go_enter Tryd.func25, Tryd.ntmps25
        go_wp2_with fail
        refine (outside_any _ _ _ _ _ (by omega) false (by simp; omega)).mono ?_
        rintro e w' ⟨rfl, rfl⟩
        go_wp2_with fail
        refine Calls.mono HU.out ?_
        rintro e w1 ⟨rfl, hb1⟩
        unfold rdV
        go_wp2
        go_ret3
        exact ⟨by rw [HE.out]; rfl, hb1⟩
      · rw [if_neg h10, show ((Q : Int) + (N : Int)).toNat = Q + N from by omega, Int.toNat_natCast] at HE0
        obtain ⟨a', l', c', hcut, hr'⟩ := cut_mid hr Q (Q + N) (by omega) (by omega)
        have hcut' : ∀ w, (Instr.slice 23 (.slice ao len cap) (some (.int .i64 Q)) (some (.int .i64 ((Q : Int) + (N : Int)))) none).run Tryd.prog w = .ok (.slice a' l' c') w := hcut
        have HR' : Hid _ := hr'
        have hzl : ((xs.take (Q + N)).drop Q).length = N := by rw [List.length_drop, List.length_take]; omega
        generalize (xs.take (Q + N)).drop Q = zs at *
        have hss : (strB zs).size ≤ 9223372036854775807 := by rw [strB_size]; omega
        have HE : Hid _ := HE0
        clear HE0 hr hl hr' hcut
        go_enter Tryd.func25, Tryd.ntmps25
        go_wp2_with fail
        refine (outside_any _ _ _ _ _ (by omega) false (by simp; omega)).mono ?_
        rintro e w' ⟨rfl, rfl⟩
        go_wp2_with fail
        refine Calls.mono HU.out ?_
        rintro e w1 ⟨rfl, hb1⟩
        unfold rdV
        have hconv := str_of (HR'.out.later hb1)
        generalize strB zs = t at *
        go_wp2_with fail
        refine (runes_any t _ (hT.later hb1) hss).mono ?_
        rintro e w2 ⟨rfl, hb2⟩
        have HE1 := HE.out
        clear HE
        cases hrn : rn t with
        | none =>
          rw [hrn] at HE1
          have HE : Hid _ := HE1
          clear HE1
          unfold rnV
          go_wp2
          go_ret3
          exact ⟨by rw [HE.out]; rfl, below_trans hb1 hb2⟩
        | some k =>
          rw [hrn] at HE1
          have HE : Hid _ := HE1
          clear HE1
          unfold rnV
          go_wp2
          go_ret3
          exact ⟨by rw [HE.out]; rfl, below_trans hb1 hb2⟩
  · rw [if_pos he] at HE0
    have HE : Hid _ := HE0
    have hne : (er != 0) = true := by simp [he]
    clear HE0 hr hl hok
    go_enter Tryd.func25, Tryd.ntmps25
    go_wp2_with fail
    refine (outside_any _ _ _ _ _ (by omega) false (by simp; omega)).mono ?_
    rintro e w' ⟨rfl, rfl⟩
    go_wp2_with fail
    refine Calls.mono HU.out ?_
    rintro e w1 ⟨rfl, hb1⟩
    unfold rdV
    clear he
    go_wp2
    go_ret3
    exact ⟨by rw [HE.out]; rfl, hb1⟩
end Go.Proofs.YtfldgjkpkmnkbabDoor
