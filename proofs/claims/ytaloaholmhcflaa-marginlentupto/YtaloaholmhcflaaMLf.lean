import Derived.Deep.QuietTactic
import Derived.BigQuiet
import Derived.Test.YtaloaholmhcflaaMLe
namespace Go.Proofs.Ytaloaholmhcflaa
open Go.RowKit Go.Shelf
set_option linter.unusedVariables false
set_option linter.unusedSimpArgs false
set_option maxRecDepth 100000 in
set_option maxHeartbeats 4000000 in
theorem stand_any (K n : Nat) (g c h d : Nat → Nat) (lo go : Option Addr) (lc gc : Nat) (w : World) (hK : K ≤ 2000) (hn : n ≤ 2000) (hS : SvE w 50 22 fmF fxF 9 n K g c h d (.slice lo K lc) (.slice go K gc)) :
    Calls Try.prog 28 #[.slice lo K lc, .slice go K gc] w fun e w' => e = .returned (.bool true) ∧ Below w.heap.size w w' := by
  have S : Hid (SvE w 50 22 fmF fxF 9 n K g c h d (.slice lo K lc) (.slice go K gc) ∧ Below w.heap.size w w) := ⟨hS, Below.refl _ _⟩
  clear hS
  go_enter Try.func28, Try.ntmps28
  go_wp2_with fail
  go_loopg [5] K (fun gg iv wx => ∃ i : Nat, iv = .int .i64 i ∧ i + gg = K ∧ Hid (SvE wx 50 22 fmF fxF 9 n K g c h d (.slice lo K lc) (.slice go K gc) ∧ Below w.heap.size w wx))
  case atStart => exact ⟨0, rfl, by omega, S⟩
  case round =>
    clear S
    obtain ⟨i, rfl, hj, S⟩ := hrel
    by_cases hiK : i < K
    · have e1 : decide ((i : Int) < (K : Int)) = true := decide_eq_true (by omega)
      obtain ⟨qq, rfl⟩ : ∃ q, gk = q + 1 := ⟨gk - 1, by omega⟩
      have HIG : Hid (i + (qq + 1) = K) := hj
      have hiK' : (i : Int) < (K : Int) := by omega
      obtain ⟨q, rfl⟩ : ∃ q, lo = some ⟨q, 0, none⟩ := by obtain ⟨b, hb⟩ := S.out.1.l; exact own_someV hb (by omega)
      obtain ⟨p, rfl⟩ : ∃ q, go = some ⟨q, 0, none⟩ := by obtain ⟨b, hb⟩ := S.out.1.v; exact own_someV hb (by omega)
      clear hj
      go_wp2_with fail
      go_loopg [6] n (fun gg iv wx => ∃ j : Nat, iv = .int .i64 j ∧ j + gg = n ∧ Hid (SvE wx 50 22 fmF fxF 9 n K g c h d (.slice (some ⟨q, 0, none⟩) K lc) (.slice (some ⟨p, 0, none⟩) K gc) ∧ Below w.heap.size w wx))
      case atStart => exact ⟨0, rfl, by omega, S⟩
      case round =>
        clear S
        obtain ⟨j, rfl, hj, S⟩ := hrel
        have CL : wr.cell? ⟨q, i, none⟩ = some (.slice (some ⟨g i, 0, none⟩) n (c i)) := by
          obtain ⟨b, hb⟩ := S.out.1.l
          have h9 := World.ownsRow.cellAt hb i (by rw [Nat.mul_one]; exact hiK)
          rw [slL_at g c n K i hiK] at h9
          exact h9
        by_cases hjn : j < n
        · have e2 : decide ((j : Int) < (n : Int)) = true := decide_eq_true (by omega)
          obtain ⟨qr, rfl⟩ : ∃ q, gk = q + 1 := ⟨gk - 1, by omega⟩
          have HJG : Hid (j + (qr + 1) = n) := hj
          have hjn' : (j : Int) < (n : Int) := by omega
          have hi3 : i < 3000 := by omega
          have hj3 : j < 3000 := by omega
          have v1 := wv_i hi3
          have v2 := wv_ij hi3 hj3
          have u2 := wu_ij hi3 hj3
          have CM : wr.cell? ⟨g i, j, none⟩ = some (.float .f64 (1000 * i + j)) := S.out.1.r i hiK j hjn
          have f4 : (((1000 * i + j : Nat) : Int) != (1000 * (i : Int) + (j : Int))) = false := by simp
          clear hj
          go_wp2_with (first | (go_at_call 33; refine (bits_any _ _).mono ?_; rintro e w' ⟨rfl, rfl⟩))
          clear CL CM v1 v2 f4 u2
          go_roundg qr
          case measure => omega
          case rel => exact ⟨j + 1, by go_num, by have := HJG.out; omega, S⟩
        · have e2 : decide ((j : Int) < (n : Int)) = false := decide_eq_false (by omega)
          have e3 : decide (j < n) = false := decide_eq_false hjn
          clear hj
          go_wp2_with fail
          clear CL
          go_loopg [7] 9 (fun gg iv wx => ∃ j : Nat, iv = .int .i64 j ∧ j + gg = 9 ∧ Hid (SvE wx 50 22 fmF fxF 9 n K g c h d (.slice (some ⟨q, 0, none⟩) K lc) (.slice (some ⟨p, 0, none⟩) K gc) ∧ Below w.heap.size w wx))
          case atStart => exact ⟨0, rfl, by omega, S⟩
          case round =>
            clear S
            obtain ⟨j, rfl, hj, S⟩ := hrel
            by_cases hj20 : j < 9
            · have e2 : decide ((j : Int) < 9) = true := decide_eq_true (by omega)
              obtain ⟨qr, rfl⟩ : ∃ q, gk = q + 1 := ⟨gk - 1, by omega⟩
              have HJG : Hid (j + (qr + 1) = 9) := hj
              have CL : wr.cell? ⟨q, i, none⟩ = some (.slice (some ⟨g i, 0, none⟩) n (c i)) := by
                obtain ⟨b, hb⟩ := S.out.1.l
                have h9 := World.ownsRow.cellAt hb i (by rw [Nat.mul_one]; exact hiK)
                rw [slL_at g c n K i hiK] at h9
                exact h9
              have CP : wr.cell? ⟨p, i, none⟩ = some (.slice (some ⟨h i, 0, none⟩) (n + 9) (d i)) := by
                obtain ⟨b, hb⟩ := S.out.1.v
                have h9 := World.ownsRow.cellAt hb i (by rw [Nat.mul_one]; exact hiK)
                rw [slL_at h d (n + 9) K i hiK] at h9
                exact h9
              have CM : wr.cell? ⟨h i, n + j, none⟩ = some (.float .f64 (1000 * i + j + 500000000)) := S.out.1.w i hiK j hj20
              have f4 : (((1000 * i + j + 500000000 : Nat) : Int) != (1000 * (i : Int) + (j : Int) + 500000000)) = false := by simp
              have f5 : (n : Int) + (j : Int) < ((n + 9 : Nat) : Int) := by omega
              have f6 : (0 : Int) ≤ (n : Int) + (j : Int) := by omega
              have f7 : (j : Int) < 9 := by omega
              have f8 : ((n : Int) + (j : Int)).toNat = n + j := by omega
              have hn3 : n < 3000 := by omega
              have hi3 : i < 3000 := by omega
              have hj3 : j < 3000 := by omega
              have v1 := wv_i hi3
              have v2 := wv_ij hi3 hj3
              have u2 := wu_ij hi3 hj3
              have v3 := wv_ijx hi3 hj3
              have u3 := wu_ijx hi3 hj3
              have v5 := wv_nj hn3 hj3
              clear hj
              go_upto_region 12 with fail
              refine wp_region_noPanic ?_
              refine wp_region_held_drew (S := fun V => Below wr.heap.size wr V) (by kernel_rfl) ((Below.refl _ wr).drew) (fun _ => ?_)
              have SQ : Below wr.heap.size wr wr.drew := (Below.refl _ wr).drew
              refine takeH 41 (i := 0) (v := ?_) rfl rfl (by kernel_rfl) (by kernel_rfl) (by kernel_rfl) (fun _ _ _ h => h) (Or.inl ⟨by kernel_rfl, ?_⟩) SQ ?_
              rotate_left
              · intro w' hSw; go_simp; try with_reducible rfl
              try simp only [Act.put, List.setIfInBounds_toArray, List.set_cons_zero, List.set_cons_succ]
              refine takeH 42 (i := 1) (v := ?_) rfl rfl (by kernel_rfl) (by kernel_rfl) (by kernel_rfl) (fun _ _ _ h => h) (Or.inl ⟨by kernel_rfl, ?_⟩) SQ ?_
              rotate_left
              · intro w' hSw; go_simp; try with_reducible rfl
              try simp only [Act.put, List.setIfInBounds_toArray, List.set_cons_zero, List.set_cons_succ]
              refine takeH 43 (i := 2) (v := ?_) rfl rfl (by kernel_rfl) (by kernel_rfl) (by kernel_rfl) (fun _ _ _ h => h) (Or.inl ⟨by kernel_rfl, ?_⟩) SQ ?_
              rotate_left
              · intro w' hSw; go_simp; try with_reducible rfl
              try simp only [Act.put, List.setIfInBounds_toArray, List.set_cons_zero, List.set_cons_succ]
              refine takeH 44 (i := 3) (v := ?_) rfl rfl (by kernel_rfl) (by kernel_rfl) (by kernel_rfl) (fun _ _ _ h => h) (Or.inl ⟨by kernel_rfl, ?_⟩) SQ ?_
              rotate_left
              · intro w' hSw; have s1 := (hSw.cell (World.block_lt_of_cell? _ _ CP)).trans CP; go_simp; try with_reducible rfl
              try simp only [Act.put, List.setIfInBounds_toArray, List.set_cons_zero, List.set_cons_succ]
              refine takeH 45 (i := 4) (v := ?_) rfl rfl (by kernel_rfl) (by kernel_rfl) (by kernel_rfl) (fun _ _ _ h => h) (Or.inl ⟨by kernel_rfl, ?_⟩) SQ ?_
              rotate_left
              · intro w' hSw; go_simp; try with_reducible rfl
              try simp only [Act.put, List.setIfInBounds_toArray, List.set_cons_zero, List.set_cons_succ]
              refine takeH 46 (i := 5) (v := ?_) rfl rfl (by kernel_rfl) (by kernel_rfl) (by kernel_rfl) (fun _ _ _ h => h) (Or.inl ⟨by kernel_rfl, ?_⟩) SQ ?_
              rotate_left
              · intro w' hSw; go_simp; try with_reducible rfl
              try simp only [Act.put, List.setIfInBounds_toArray, List.set_cons_zero, List.set_cons_succ]
              refine takeH 47 (i := 6) (v := ?_) rfl rfl (by kernel_rfl) (by kernel_rfl) (by kernel_rfl) (fun _ _ _ h => h) (Or.inl ⟨by kernel_rfl, ?_⟩) SQ ?_
              rotate_left
              · intro w' hSw; go_simp; try with_reducible rfl
              try simp only [Act.put, List.setIfInBounds_toArray, List.set_cons_zero, List.set_cons_succ]
              refine takeH 48 (i := 7) (v := ?_) rfl rfl (by kernel_rfl) (by kernel_rfl) (by kernel_rfl) (fun _ _ _ h => h) (Or.inl ⟨by kernel_rfl, ?_⟩) SQ ?_
              rotate_left
              · intro w' hSw; have s1 := (hSw.cell (World.block_lt_of_cell? _ _ CL)).trans CL; go_simp; try with_reducible rfl
              try simp only [Act.put, List.setIfInBounds_toArray, List.set_cons_zero, List.set_cons_succ]
              refine takeH 49 (i := 8) (v := ?_) rfl rfl (by kernel_rfl) (by kernel_rfl) (by kernel_rfl) (fun _ _ _ h => h) (Or.inl ⟨by kernel_rfl, ?_⟩) SQ ?_
              rotate_left
              · intro w' hSw; go_simp; try with_reducible rfl
              try simp only [Act.put, List.setIfInBounds_toArray, List.set_cons_zero, List.set_cons_succ]
              refine takeH 50 (i := 9) (v := ?_) rfl rfl (by kernel_rfl) (by kernel_rfl) (by kernel_rfl) (fun _ _ _ h => h) (Or.inl ⟨by kernel_rfl, ?_⟩) SQ ?_
              rotate_left
              · intro w' hSw; go_simp; try with_reducible rfl
              try simp only [Act.put, List.setIfInBounds_toArray, List.set_cons_zero, List.set_cons_succ]
              refine takeH 51 (i := 10) (v := ?_) rfl rfl (by kernel_rfl) (by kernel_rfl) (by kernel_rfl) (fun _ _ _ h => h) (Or.inl ⟨by kernel_rfl, ?_⟩) SQ ?_
              rotate_left
              · intro w' hSw; go_simp; try with_reducible rfl
              try simp only [Act.put, List.setIfInBounds_toArray, List.set_cons_zero, List.set_cons_succ]
              refine takeH 52 (i := 11) (v := ?_) rfl rfl (by kernel_rfl) (by kernel_rfl) (by kernel_rfl) (fun _ _ _ h => h) (Or.inl ⟨by kernel_rfl, ?_⟩) SQ ?_
              rotate_left
              · intro w' hSw; go_simp; try with_reducible rfl
              try simp only [Act.put, List.setIfInBounds_toArray, List.set_cons_zero, List.set_cons_succ]
              refine takeH 53 (i := 12) (v := ?_) rfl rfl (by kernel_rfl) (by kernel_rfl) (by kernel_rfl) (fun _ _ _ h => h) (Or.inl ⟨by kernel_rfl, ?_⟩) SQ ?_
              rotate_left
              · intro w' hSw; have s1 := (hSw.cell (World.block_lt_of_cell? _ _ CM)).trans CM; go_simp; try with_reducible rfl
              try simp only [Act.put, List.setIfInBounds_toArray, List.set_cons_zero, List.set_cons_succ]
              refine takeH 55 (i := 14) (v := ?_) rfl rfl (by kernel_rfl) (by kernel_rfl) (by kernel_rfl) (fun _ _ _ h => h) (Or.inl ⟨by kernel_rfl, ?_⟩) SQ ?_
              rotate_left
              · intro w' hSw; go_simp; try with_reducible rfl
              try simp only [Act.put, List.setIfInBounds_toArray, List.set_cons_zero, List.set_cons_succ]
              refine takeH 56 (i := 15) (v := ?_) rfl rfl (by kernel_rfl) (by kernel_rfl) (by kernel_rfl) (fun _ _ _ h => h) (Or.inl ⟨by kernel_rfl, ?_⟩) SQ ?_
              rotate_left
              · intro w' hSw; go_simp; try with_reducible rfl
              try simp only [Act.put, List.setIfInBounds_toArray, List.set_cons_zero, List.set_cons_succ]
              refine takeH 57 (i := 16) (v := ?_) rfl rfl (by kernel_rfl) (by kernel_rfl) (by kernel_rfl) (fun _ _ _ h => h) (Or.inl ⟨by kernel_rfl, ?_⟩) SQ ?_
              rotate_left
              · intro w' hSw; go_simp; try with_reducible rfl
              try simp only [Act.put, List.setIfInBounds_toArray, List.set_cons_zero, List.set_cons_succ]
              refine takeH 58 (i := 17) (v := ?_) rfl rfl (by kernel_rfl) (by kernel_rfl) (by kernel_rfl) (fun _ _ _ h => h) (Or.inl ⟨by kernel_rfl, ?_⟩) SQ ?_
              rotate_left
              · intro w' hSw; go_simp; try with_reducible rfl
              try simp only [Act.put, List.setIfInBounds_toArray, List.set_cons_zero, List.set_cons_succ]
              refine takeH 59 (i := 18) (v := ?_) rfl rfl (by kernel_rfl) (by kernel_rfl) (by kernel_rfl) (fun _ _ _ h => h) (Or.inl ⟨by kernel_rfl, ?_⟩) SQ ?_
              rotate_left
              · intro w' hSw; go_simp; try with_reducible rfl
              try simp only [Act.put, List.setIfInBounds_toArray, List.set_cons_zero, List.set_cons_succ]
              refine takeH 60 (i := 19) (v := ?_) rfl rfl (by kernel_rfl) (by kernel_rfl) (by kernel_rfl) (fun _ _ _ h => h) (Or.inl ⟨by kernel_rfl, ?_⟩) SQ ?_
              rotate_left
              · intro w' hSw; go_simp; try with_reducible rfl
              try simp only [Act.put, List.setIfInBounds_toArray, List.set_cons_zero, List.set_cons_succ]
              refine wpAnyH_ready (rs := [13]) (by kernel_rfl) (by simp) ?_
              refine consH _ rfl (hopCd 54 rfl (by kernel_rfl) rfl (by kernel_rfl) (Calls.mono (bits_any (1000 * i + j + 500000000) _) ?_)) AllReadyH.nil
              rintro e V1 ⟨rfl, hV1⟩
              rw [hV1]
              clear hV1
              refine ⟨_, rfl, SQ, ?_⟩
              try simp only [Act.put, List.setIfInBounds_toArray, List.set_cons_zero, List.set_cons_succ]
              refine takeH 61 (i := 20) (v := ?_) rfl rfl (by kernel_rfl) (by kernel_rfl) (by kernel_rfl) (fun _ _ _ h => h) (Or.inl ⟨by kernel_rfl, ?_⟩) SQ ?_
              rotate_left
              · intro w' hSw; go_simp; try with_reducible rfl
              try simp only [Act.put, List.setIfInBounds_toArray, List.set_cons_zero, List.set_cons_succ]
              refine wpAnyH_done (by kernel_rfl) ?_ _
              refine NoPanic.normal ?_
              try simp only [Act.put, List.setIfInBounds_toArray, List.set_cons_zero, List.set_cons_succ]
              have S9 : Hid (SvE wr.drew 50 22 fmF fxF 9 n K g c h d (.slice (some ⟨q, 0, none⟩) K lc) (.slice (some ⟨p, 0, none⟩) K gc) ∧ Below w.heap.size w wr.drew) := ⟨S.out.1.later SQ, to_call S.out.2 SQ⟩
              clear S SQ CL CM CP v1 v2 v3 v5 u2 u3 f5 f6 f7 f8
              go_wp2_with fail
              go_roundg qr
              case measure => omega
              case rel => exact ⟨j + 1, by go_num, by have := HJG.out; omega, S9⟩
            · have e2 : decide ((j : Int) < 9) = false := decide_eq_false (by omega)
              have e3 : decide (j < 9) = false := decide_eq_false hj20
              clear hj
              go_wp2_with fail
              go_roundg qq
              case measure => omega
              case rel => exact ⟨i + 1, by go_num, by have := HIG.out; omega, S⟩
    · have e1 : decide ((i : Int) < (K : Int)) = false := decide_eq_false (by omega)
      have e2 : decide (i < K) = false := decide_eq_false hiK
      have PZ : Hid (Below w.heap.size w wr) := S.out.2
      clear hj hiK S
      go_wp2_with fail
      go_ret
      exact ⟨rfl, PZ.out⟩
end Go.Proofs.Ytaloaholmhcflaa
