import Derived.Test.YtpinpcefgbhdmaaDoorBkB
import Derived.BigRegion
import Derived.BigQuiet
namespace Go.Proofs.YtpinpcefgbhdmaaDoor
open Go.RowKit
set_option linter.unusedVariables false

theorem owns_cell {w : World} {E : TypeId} {base n : Nat} {v : Value} {xs : List Value} (h : w.ownsRow base E 1 v n xs) {j : Nat} (hj : j < n) : ∃ g cap, v = .slice (some ⟨g, 0, none⟩) n cap ∧ w.cell? ⟨g, j, none⟩ = xs[j]? := by
  rcases h.2 with ⟨h1, h2⟩ | ⟨g, cap, cur, hv, -⟩
  · omega
  · subst hv
    exact ⟨g, cap, rfl, World.ownsRow.cellAt h j (by omega)⟩
theorem owns_form {w : World} {E : TypeId} {base size n : Nat} {v : Value} {xs : List Value} (h : w.ownsRow base E size v n xs) : ∃ la lc, v = .slice la n lc := by
  rcases h.2 with ⟨h1, h2⟩ | ⟨g, cap, cur, hv, -⟩
  · exact ⟨none, 0, by rw [h1, h2]⟩
  · exact ⟨_, cap, hv⟩
/-- A book: each of its lists is full of its mark. -/
structure BkOk (w : World) (base B : Nat) (Lv Mv : Value) (vs : List Value) (ms : List Int) : Prop where
  blk : w.heap[B]? = some (.cells #[Lv, Mv] 44)
  L : OwnV w base Lv vs
  M : Own w base Mv ms
  len : ms.length = vs.length
  full : ∀ i, i < vs.length → ∃ v n m, vs[i]? = some v ∧ ms[i]? = some ((m : Nat) : Int) ∧ MrB w base v n m ∧ n ≤ 100000
theorem BkOk.later {w w' : World} {base B : Nat} {Lv Mv : Value} {vs : List Value} {ms : List Int} (h : BkOk w base B Lv Mv vs ms) (hb : Below w.heap.size w w') : BkOk w' base B Lv Mv vs ms := by
  refine ⟨(hb.block B (Array.getElem?_eq_some_iff.1 h.blk).1).trans h.blk, owns_keep h.L fun k hk => hb.block k (World.ownsRow.lt h.L k hk).2, owns_keep h.M fun k hk => hb.block k (World.ownsRow.lt h.M k hk).2, h.len, fun i hi => ?_⟩
  obtain ⟨v, n, m, h1, h2, h3, h4⟩ := h.full i hi
  exact ⟨v, n, m, h1, h2, owns_keep h3 fun k hk => hb.block k (World.ownsRow.lt h3 k hk).2, h4⟩
set_option maxRecDepth 100000 in
set_option maxHeartbeats 4000000 in
theorem whole_any (base B : Nat) (Lv Mv : Value) (vs : List Value) (ms : List Int) (w : World) (h : BkOk w base B Lv Mv vs ms) (hvl : vs.length ≤ 1000) :
    Calls Tryd.prog 17 #[.pointer (some ⟨B, 0, none⟩)] w fun e w' => e = .returned (.bool true) ∧ Below w.heap.size w w' := by
  obtain ⟨La, Lc, hLv⟩ := owns_form h.L
  obtain ⟨Ma, Mc, hMv⟩ := owns_form h.M
  have HK : Hid _ := h
  have HLv : Hid (Lv = .slice La vs.length Lc) := hLv
  have HMv : Hid (Mv = .slice Ma ms.length Mc) := hMv
  clear h hLv hMv
  go_enter Tryd.func17, Tryd.ntmps17
  go_wp2_with fail
  go_loopg [3] vs.length (fun g iv wr => ∃ (i : Nat), i + g = vs.length ∧ iv = .int .i64 i ∧ Hid (Below w.heap.size w wr))
  case atStart => exact ⟨0, by omega, rfl, Below.refl _ _⟩
  case round =>
    obtain ⟨i, hi, rfl, KB⟩ := hrel
    have HKr : Hid (BkOk wr base B Lv Mv vs ms) := HK.out.later KB.out
    have c0 : wr.cell? ⟨B, 0, none⟩ = some (.slice La vs.length Lc) := by rw [cell_of_row _ B _ _ _ _ HKr.out.blk, ← HLv.out]; rfl
    by_cases hlt : i < vs.length
    · have hd1 : decide ((i : Int) < (vs.length : Int)) = true := decide_eq_true (by omega)
      obtain ⟨g, rfl⟩ : ∃ g, gk = g + 1 := ⟨gk - 1, by omega⟩
      obtain ⟨v, n, m, hv, hm, hf, hn⟩ := HKr.out.full i hlt
      obtain ⟨gL, cL, e1, c1⟩ := owns_cell HKr.out.L hlt
      obtain ⟨gM, cM, e2, c2⟩ := owns_cell HKr.out.M (by rw [HKr.out.len]; exact hlt)
      obtain ⟨va, vc, rfl⟩ := owns_form hf
      rw [hv] at c1
      rw [List.getElem?_map, hm, Option.map_some] at c2
      rw [HLv.out] at e1
      rw [HMv.out] at e2
      simp only [Value.slice.injEq] at e1 e2
      obtain ⟨rfl, -, rfl⟩ := e1
      obtain ⟨rfl, -, rfl⟩ := e2
      have HF : Hid (MrB wr base (.slice va n vc) n m) := hf
      have hme : Hid (ms.length = vs.length) := HKr.out.len
      obtain ⟨W1, hW1⟩ : ∃ W1, Hid (W1 = wr) := ⟨_, rfl⟩
      have c3 : wr.cell? ⟨B, 1, none⟩ = some (.slice (some ⟨gM, 0, none⟩) ms.length Mc) := by rw [cell_of_row _ B _ _ _ _ HKr.out.blk, ← HMv.out]; rfl
      have C0 : Hid _ := c0
      have C1 : Hid _ := c1
      have C2 : Hid _ := c2
      have C3 : Hid _ := c3
      clear hf hv hm
      go_wp2_with fail
      clear c0 c1 c2 c3
      go_loopg [4] n (fun g kv wx => ∃ (k : Nat), k + g = n ∧ kv = .int .i64 k ∧ Hid (Below wr.heap.size wr wx))
      case atStart => exact ⟨0, by omega, rfl, Below.refl _ _⟩
      case round =>
        obtain ⟨k, hk, rfl, IB⟩ := hrel
        have hcell : ∀ {a : Addr} {v : Value}, W1.cell? a = some v → wr.cell? a = some v := fun {a v} h => by
          rw [hW1.out] at h
          exact (IB.out.cell (World.block_lt_of_cell? _ _ h)).trans h
        have c0 := hcell (hW1.out ▸ C0.out)
        have c1 := hcell (hW1.out ▸ C1.out)
        have c2 := hcell (hW1.out ▸ C2.out)
        have c3 := hcell (hW1.out ▸ C3.out)
        have hlm : (i : Int) < (ms.length : Int) := by have := hme.out; omega
        by_cases hlt2 : k < n
        · have hd2 : decide ((k : Int) < (n : Int)) = true := decide_eq_true (by omega)
          obtain ⟨g', rfl⟩ : ∃ g', gk = g' + 1 := ⟨gk - 1, by omega⟩
          obtain ⟨gV, cV, e3, c4'⟩ := owns_cell HF.out hlt2
          simp only [Value.slice.injEq] at e3
          obtain ⟨rfl, -, rfl⟩ := e3
          rw [List.getElem?_replicate_of_lt hlt2, ← hW1.out] at c4'
          have c4 := hcell c4'
          clear c4' hcell
          go_upto_region 7 with fail
          go_region
          go_wp2_with fail
          go_roundg g'
          case measure => omega
          case rel => exact ⟨k + 1, by omega, by go_num, IB.out.drew⟩
        · have hd2 : decide ((k : Int) < (n : Int)) = false := decide_eq_false (by omega)
          clear hcell
          go_wp2_with fail
          go_roundg g
          case measure => omega
          case rel => exact ⟨i + 1, by omega, by go_num, KB.out.trans (IB.out.mono KB.out.size)⟩
    · have hd1 : decide ((i : Int) < (vs.length : Int)) = false := decide_eq_false (by omega)
      go_wp2_with fail
      go_ret
      exact ⟨rfl, KB.out⟩
end Go.Proofs.YtpinpcefgbhdmaaDoor
