import Derived.Test.YtbncdcenckagcaaGreatDA
import Derived.Deep.DeepCutAuto
namespace Go.Proofs.YtbncdcenckagcaaGreat
open Go.RowKit
set_option linter.unusedVariables false

/-- THE SLICE OF FLOATS '.slice ao len cap' READS AS U (their bits), however long. -/
structure RdG (w : World) (ao : Option Addr) (len cap : Nat) (U : Nat → Nat) : Prop where
  le : len ≤ cap
  max : cap ≤ maxLen
  lt : ∀ j, j < len → U j < 18446744073709551616
  cells : len = 0 ∨ ∃ b off, ao = some ⟨b, off, none⟩ ∧ ∀ j, j < len → w.cell? ⟨b, off + j, none⟩ = some (.float .f64 (U j))
theorem RdG.later {w w' : World} {ao : Option Addr} {len cap : Nat} {U : Nat → Nat} (h : RdG w ao len cap U) (hb : Below w.heap.size w w') : RdG w' ao len cap U := by
  refine ⟨h.le, h.max, h.lt, ?_⟩
  rcases h.cells with h0 | ⟨b, off, ha, hc⟩
  · exact .inl h0
  · refine .inr ⟨b, off, ha, fun j hj => ?_⟩
    have hlt := World.block_lt_of_cell? w _ (hc j hj)
    rw [hb.cell (p := ⟨b, off + j, none⟩) hlt]
    exact hc j hj
set_option maxRecDepth 100000 in
set_option maxHeartbeats 4000000 in
theorem dot1_any (d : Int) (B C : Nat) (wa la : Option Addr) (n wc lc : Nat) (U : Nat → Nat) (F : Nat → Nat × Nat × Bool) (w : World) (hB : w.heap[B]? = some (.cells #[.slice wa n wc] 22)) (hC : w.heap[C]? = some (.cells #[.slice la n lc] 23)) (hr : RdG w wa n wc U) (hs : RdS w la n lc F) :
    Calls Tryz.prog 24 #[.int .i64 d, .pointer (some ⟨B, 0, none⟩), .pointer (some ⟨C, 0, none⟩)] w fun e w' => ∃ u b, e = .returned (.tuple #[.float .f64 u, .bool b]) ∧ RndO d (accD d U F n) u b ∧ Below w.heap.size w w' := by
  have HR : Hid (RdG w wa n wc U) := hr
  have HS : Hid (RdS w la n lc F) := hs
  have HC : Hid _ := hC
  have hmx : n ≤ 9223372036854775807 := by have := hr.le; have := hr.max; simp only [maxLen] at *; omega
  have hBl := (Array.getElem?_eq_some_iff.1 hB).1
  have b0 : w.cell? ⟨B, 0, none⟩ = some (.slice wa n wc) := by rw [cell_of_row _ B _ _ _ _ hB]; rfl
  have HB0 : Hid _ := b0
  clear hr hs hC hB b0
  go_enter Tryz.func24, Tryz.ntmps24
  go_wp2_with fail
  refine (new_any _).mono ?_
  rintro e w1 ⟨rfl, h1, h2, h3⟩
  have H1 : Hid _ := h1
  have H2 : Hid _ := h2
  have b1 := (h2.cell (p := ⟨B, 0, none⟩) hBl).trans HB0.out
  clear h1 h2 h3
  go_wp2_with fail
  go_loopg [13] n (fun g iv wr => ∃ k : Nat, k + g = n ∧ iv = .int .i64 k ∧ Hid (AccO wr w.heap.size (accD d U F k)) ∧ Hid (Below w.heap.size w wr) ∧ Hid (w.heap.size < wr.heap.size))
  case atStart => exact ⟨0, by omega, rfl, H1, H2, H1.out.block⟩
  case round =>
    clear H1 H2 b1
    obtain ⟨k, hk, rfl, K1, K2, KZ⟩ := hrel
    by_cases hlt : k < n
    · have hd : decide ((k : Int) < (n : Int)) = true := decide_eq_true (by omega)
      obtain ⟨g, rfl⟩ : ∃ g, gk = g + 1 := ⟨gk - 1, by omega⟩
      have hr := HR.out.later K2.out
      have hs := HS.out.later K2.out
      have c0 : wr.cell? ⟨C, 0, none⟩ = some (.slice la n lc) := by
        have h5 : wr.heap[C]? = _ := (K2.out.block C (Array.getElem?_eq_some_iff.1 HC.out).1).trans HC.out
        rw [cell_of_row _ C _ _ _ _ h5]; rfl
      rcases hr.cells with h0 | ⟨b, off, rfl, hc⟩
      · omega
      rcases hs.cells with h0 | ⟨b', off', rfl, hc'⟩
      · omega
      have g0 := hc k hlt
      obtain ⟨s0, s1, s2⟩ := hc' k hlt
      have hul := HR.out.lt k hlt
      obtain ⟨hlo, hhi⟩ := HS.out.lt k hlt
      have HSN : Hid (accD d U F (k + 1) = prodO (accD d U F k) (U k) (pickD d (ltz (U k)) (F k)) 0) := rfl
      obtain ⟨u, hu⟩ : ∃ u, U k = u := ⟨_, rfl⟩
      rw [hu] at g0 hul HSN
      obtain ⟨s, hs'⟩ : ∃ s, F k = s := ⟨_, rfl⟩
      rw [hs'] at s0 s1 s2 hlo hhi HSN
      obtain ⟨slo, shi, sbd⟩ := s
      simp only at s0 s1 s2 hlo hhi
      clear hr hs hc hc' hu hs'
      obtain ⟨sd, HSD⟩ : ∃ sd, Hid ((if d = 2 then slo else shi) = sd) := ⟨_, rfl⟩
      obtain ⟨od, HOD⟩ : ∃ od, Hid ((if d = 2 then shi else slo) = od) := ⟨_, rfl⟩
      go_upto_if 25 with (first
        | (go_at_call 26; refine (side_any d slo shi sbd _).mono ?_; rintro e w3 ⟨he, g3⟩; rw [HSD.out] at he; subst he; have K3 : Hid (AccO w3 w.heap.size (accD d U F k)) := K1.out.below g3 KZ.out; have KB3 : Hid (Below w.heap.size w w3) := K2.out.trans (g3.mono K2.out.size); have KZ3 : Hid (w.heap.size < w3.heap.size) := Nat.lt_of_lt_of_le KZ.out g3.size; have d0 := (g3.cell (p := ⟨C, 0, none⟩) (World.block_lt_of_cell? _ _ c0)).trans c0; have d1 := (g3.cell (p := ⟨b', off' + k * 3, none⟩) (World.block_lt_of_cell? _ _ s0)).trans s0; have d2 := (g3.cell (p := ⟨b', off' + k * 3 + 1, none⟩) (World.block_lt_of_cell? _ _ s1)).trans s1; have d3 := (g3.cell (p := ⟨b', off' + k * 3 + 2, none⟩) (World.block_lt_of_cell? _ _ s2)).trans s2; clear g3 c0 s0 s1 s2 K1 K2 KZ))
      go_cut [9] (fun sx wx => sx = .float .f64 (pickD d (ltz u) (slo, shi, sbd)) ∧ Hid (AccO wx w.heap.size (accD d U F k)) ∧ Hid (Below w.heap.size w wx) ∧ Hid (w.heap.size < wx.heap.size))
      case first =>
        by_cases hl : ltz u = true
        · have hl2 : (FloatKind.f64.format.order u 0 == some .lt) = true := hl
          have hpk : Hid (pickD d (ltz u) (slo, shi, sbd) = od) := by unfold Hid pickD; rw [hl, ← HOD.out]; rfl
          rw [hl2]
          go_wp2_with (first
            | (go_at_call 27; refine (otherSide_any d slo shi sbd _).mono ?_; rintro e w4 ⟨he, g4⟩; rw [HOD.out] at he; subst he; have K4 : Hid (AccO w4 w.heap.size (accD d U F k)) := K3.out.below g4 KZ3.out; have KB4 : Hid (Below w.heap.size w w4) := KB3.out.trans (g4.mono KB3.out.size); have KZ4 : Hid (w.heap.size < w4.heap.size) := Nat.lt_of_lt_of_le KZ3.out g4.size; clear g4))
          go_meet
          exact ⟨by rw [hpk.out], K4, KB4, KZ4⟩
        · have hl3 : ltz u = false := by simpa using hl
          have hl2 : (FloatKind.f64.format.order u 0 == some .lt) = false := hl3
          have hpk : Hid (pickD d (ltz u) (slo, shi, sbd) = sd) := by unfold Hid pickD; rw [hl3, ← HSD.out]; rfl
          rw [hl2]
          go_wp2_with fail
          go_meet
          exact ⟨by rw [hpk.out], K3, KB3, KZ3⟩
      case rest =>
        obtain ⟨rfl, K4, KB4, KZ4⟩ := hcut
        have hpl : pickD d (ltz u) (slo, shi, sbd) < 18446744073709551616 := pick_lt hlo hhi
        generalize pickD d (ltz u) (slo, shi, sbd) = pk at hpl HSN ⊢
        go_wp2_with (first
          | (go_at_call 28; refine (accProd_any w.heap.size _ u pk 0 hul hpl _ K4.out).mono ?_; rintro e w5 ⟨rfl, a1, a2⟩; have K5 : Hid (AccO w5 w.heap.size (accD d U F (k + 1))) := (by unfold Hid; rw [HSN.out]; exact a1); have KB5 : Hid (Below w.heap.size w w5) := KB4.out.trans a2.below; clear a1 a2))
        go_roundg g
        case measure => omega
        case rel => exact ⟨k + 1, by omega, by go_num, K5, KB5, K5.out.block⟩
    · have hd : decide ((k : Int) < (n : Int)) = false := decide_eq_false (by omega)
      have hkn : Hid (k = n) := (by omega : k = n)
      have K1' : Hid (AccO wr w.heap.size (accD d U F n)) := by rw [← hkn.out]; exact K1
      go_wp2_with (first
        | (go_at_call 29; refine (accRound_any d w.heap.size _ _ K1'.out).mono ?_; rintro e w3 ⟨u, b, rfl, r1, r2⟩; have R1 : Hid (RndO d (accD d U F n) u b) := r1; have R2 : Hid (Below w.heap.size w w3) := K2.out.trans (r2.mono K2.out.size); clear r1 r2))
      go_ret2
      exact ⟨u, b, rfl, R1.out, R2.out⟩
end Go.Proofs.YtbncdcenckagcaaGreat
