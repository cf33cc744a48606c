import Derived.Test.YtfldgjkpkmnkbabDoorLaid
namespace Go.Proofs.YtfldgjkpkmnkbabDoor
open Go.RowKit
set_option linter.unusedVariables false


set_option maxRecDepth 100000 in
set_option maxHeartbeats 1000000 in
/-- Intact of what Laid made. -/
theorem intact_any (v : Value) (xs : List Int) (base : Nat) (a1 : Option Addr) (cap1 : Nat) (w : World) (hv : LaidAt w base v xs) (h1 : Rd w a1 xs.length cap1 xs) :
    Calls Tryd.prog 30 #[v, .slice a1 xs.length cap1] w fun e w' => e = .returned (.bool true) ∧ Below w.heap.size w w' := by
  obtain ⟨ao, cap0, he, hr⟩ := hv.rd
  obtain ⟨⟨g, cap, hv, hg, ho⟩, hy, hs⟩ := hv
  rw [hv] at he ⊢
  simp only [Value.slice.injEq, true_and] at he
  obtain ⟨rfl, rfl⟩ := he
  clear hv
  obtain ⟨ao2, cap2, he2, hr2⟩ := ho.rd (laid_byt hy 70)
  simp only [Value.slice.injEq] at he2
  obtain ⟨rfl, hlen, rfl⟩ := he2
  rw [← hlen] at hr2
  generalize hn : xs.length = n at *
  have hc := hr2.le
  have hm := hr2.max
  have hmid : Rd w (some ⟨g, n, none⟩) 3 (cap - n) [201, 202, 203] := by
    have h := hr2.cutAt n (n + 3) (by omega) (by omega)
    rw [if_neg (by omega), Option.map_some, Addr.add_lit, Nat.mul_one, Nat.zero_add, Nat.add_sub_cancel_left] at h
    have e : ((xs ++ [201, 202, 203] ++ List.replicate 70 206).take (n + 3)).drop n = [201, 202, 203] := by
      have h3 : (xs ++ [201, 202, 203]).length = n + 3 := by simp [hn]
      rw [← h3, List.take_left, ← hn, List.drop_left]
    rw [e] at h
    exact h
  have Hmid : Hid _ := hmid
  clear hmid hr2 ho hn hlen
  go_enter Tryd.func30, Tryd.ntmps30
  go_wp2_with fail
  refine (same_any _ _ _ _ _ _ xs xs _ hr h1).mono ?_
  rintro e w1 ⟨rfl, hb1⟩
  have hd : decide (xs = xs) = true := by simp
  rw [hd]
  clear hd
  go_wp2_with fail
  refine (same_any _ _ _ _ _ _ [201, 202, 203] [201, 202, 203] _ (Hmid.out.later (hb1.trans (((Below.refl _ _).alloc (Nat.le_refl _) _).mono hb1.size))) (Rd.fresh _ [201, 202, 203] (by intro x hx; simp at hx; omega) (by simp))).mono ?_
  rintro e w2 ⟨rfl, hb2⟩
  have hd : decide (([201, 202, 203] : List Int) = [201, 202, 203]) = true := by simp
  rw [hd]
  clear hd
  go_wp2
  go_ret
  exact ⟨rfl, below_trans hb1 (below_trans ((Below.refl _ _).alloc (Nat.le_refl _) _) hb2)⟩

theorem intact_at (v : Value) (xs : List Int) (base : Nat) (a1 : Option Addr) (L cap1 : Nat) (w : World) (hv : LaidAt w base v xs) (h1 : Rd w a1 L cap1 xs) :
    Calls Tryd.prog 30 #[v, .slice a1 L cap1] w fun e w' => e = .returned (.bool true) ∧ Below w.heap.size w w' := by
  obtain rfl := h1.length
  exact intact_any v xs base a1 cap1 w hv h1
end Go.Proofs.YtfldgjkpkmnkbabDoor
