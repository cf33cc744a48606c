import Derived.Test.YtogdfdhdmfkmaaaGreatGJa
import Derived.Test.YtogdfdhdmfkmaaaGreatMY
import Derived.Laws.MakeOwn
namespace Go.Proofs.YtogdfdhdmfkmaaaGreat
open Go.RowKit
set_option linter.unusedVariables false
set_option linter.unusedSimpArgs false

theorem cell_heapJ {w w' : World} {b : Nat} (h : w'.heap[b]? = w.heap[b]?) (o : Nat) : w'.cell? ⟨b, o, none⟩ = w.cell? ⟨b, o, none⟩ := by unfold World.cell?; simp only [h]
end Go.Proofs.YtogdfdhdmfkmaaaGreat


namespace Go.Proofs.YtogdfdhdmfkmaaaGreat
open Go.RowKit Go.Shelf
set_option linter.unusedVariables false
set_option linter.unusedSimpArgs false
attribute [local go_sem] Oper.semAt_some

theorem columns_any (v : Array Value) (hv : v.size = 6) (w : World) : Calls Tryz.prog 54 #[.agg v] w fun e w' => e = .returned (.func (.func 71) #[] #[.pointer (some ⟨w.heap.size, 0, none⟩)]) ∧ w' = w.alloc (.cells v 26) := callsIn_wide.1 (columns_in Fence.wide 3 trivial rfl v hv w)
theorem res_tmp2J (f : Func) (i j : Nat) (hf : f.results = #[ResultVar.tmp i, ResultVar.tmp j]) (tmps : Array Value) (W : World) (a b : Value) (h1 : tmps[i]? = some a) (h2 : tmps[j]? = some b) : (results f tmps).run Tryz.prog W = .ok (.tuple #[a, b]) W := by
  simp [results, hf, h1, h2]
theorem heap_keptJ {W W' : World} {row : Option Nat} {b : Nat} {c : Array Value} {t : TypeId} (h : W.heap[b]? = some (.cells c t)) (hg : W.grownBy W' row) (hr : ∀ r, row = some r → ∃ o, W.heap[r]? = some o ∧ o.isCells = false) : W'.heap[b]? = some (.cells c t) := by
  rw [hg.block b (blk_lt h) ?_]
  · exact h
  · intro e
    obtain ⟨o, ho, hc⟩ := hr b e.symm
    rw [h] at ho
    cases ho
    cases hc
theorem AccO.obj {w : World} {B : Nat} {o : Option Int} (h : AccO w B o) : ∃ x, w.heap[B]? = some x ∧ x.isCells = true := by
  have hc := h.cell
  unfold World.cell? at hc
  cases hx : w.heap[B]? with
  | none => rw [hx] at hc; cases hc
  | some x =>
    refine ⟨x, rfl, ?_⟩
    rw [hx] at hc
    cases x <;> first | rfl | (simp at hc)
theorem AccO.keptJ {W W' : World} {row : Option Nat} {B : Nat} {o : Option Int} (h : AccO W B o) (hg : W.grownBy W' row) (hr : ∀ r, row = some r → ∃ o, W.heap[r]? = some o ∧ o.isCells = false) : AccO W' B o := by
  refine h.heap (hg.block B h.block ?_)
  intro e
  obtain ⟨o, ho, hc⟩ := hr B e.symm
  obtain ⟨x, hx, hx'⟩ := h.obj
  rw [hx] at ho
  cases ho
  rw [hx'] at hc
  cases hc
theorem frung_ltJ {u : Nat} (h : u < 18446744073709551616) : frung u < 18446744073709551616 := by unfold frung; omega
end Go.Proofs.YtogdfdhdmfkmaaaGreat


namespace Go.Proofs.YtogdfdhdmfkmaaaGreat
open Go.RowKit
set_option linter.unusedVariables false
set_option linter.unusedSimpArgs false

theorem info3J {P : Program} {t : TypeId} {z : Value} {s b : Nat} (h : (P.info? t).map (fun i => (i.zero, i.size, i.bytes)) = some (some z, s, b)) : ∃ i, P.info? t = some i ∧ i.zero = some z ∧ i.size = s ∧ i.bytes = b := by
  cases hi : P.info? t with
  | none => simp [hi] at h
  | some i =>
    simp [hi] at h
    exact ⟨i, rfl, h.1, h.2.1, h.2.2⟩
theorem Tryz.infoPJ : (Tryz.prog.info? 87).map (fun i => (i.zero, i.size, i.bytes)) = some (some (.pointer none), 1, 8) := by kernel_rfl
theorem Tryz.infoFJ : (Tryz.prog.info? 45).map (fun i => (i.zero, i.size, i.bytes)) = some (some (.float .f64 0), 1, 8) := by kernel_rfl
def ptN (n : Nat) : Array Value := madeCells #[.pointer none] n
theorem ptN_at (n j : Nat) (h : j < n) : (ptN n)[j]? = some (.pointer none) := by unfold ptN madeCells; simp [h, Nat.mod_one]
def flN (n : Nat) : Array Value := madeCells #[.float .f64 0] n
theorem flN_at (n j : Nat) (h : j < n) : (flN n)[j]? = some (.float .f64 0) := by unfold flN madeCells; simp [h, Nat.mod_one]
theorem makeP (n : Nat) (hn : n ≤ 1000000) (w : World) :
    (Instr.makeSlice 71 (.int .i64 (n : Int)) (.int .i64 (n : Int))).run Tryz.prog w = .ok (.slice (some ⟨w.heap.size, 0, none⟩) n n) (w.alloc (.cells (ptN n) 87)) := by
  obtain ⟨i0, hi, hz0, hz1, hz2⟩ := info3J Tryz.infoPJ
  have h := run_makeSlice (P := Tryz.prog) w 71 87 i0 (.pointer none) Tryz.underlying71 hi hz0 .i64 .i64 (n : Int) (n : Int) (by omega) (by omega) (by rw [hz1, Int.toNat_natCast]; omega) (by rw [hz2]; omega) (by omega)
  rw [Int.toNat_natCast, hz1, Nat.mul_one] at h
  exact h
theorem makeFJ (n : Nat) (hn : n ≤ 1000000) (w : World) :
    (Instr.makeSlice 22 (.int .i64 (n : Int)) (.int .i64 (n : Int))).run Tryz.prog w = .ok (.slice (some ⟨w.heap.size, 0, none⟩) n n) (w.alloc (.cells (flN n) 45)) := by
  obtain ⟨i0, hi, hz0, hz1, hz2⟩ := info3J Tryz.infoFJ
  have h := run_makeSlice (P := Tryz.prog) w 22 45 i0 (.float .f64 0) Tryz.underlying22 hi hz0 .i64 .i64 (n : Int) (n : Int) (by omega) (by omega) (by rw [hz1, Int.toNat_natCast]; omega) (by rw [hz2]; omega) (by omega)
  rw [Int.toNat_natCast, hz1, Nat.mul_one] at h
  exact h
theorem frozen_heapJ {w w' : World} {b : Nat} (h : w'.heap[b]? = w.heap[b]?) (o : Nat) : w'.frozen? ⟨b, o, none⟩ = w.frozen? ⟨b, o, none⟩ := by unfold World.frozen?; simp only [h]
/-- A row of Accs, each in a block of its own behind the row's. -/
structure AcL (w : World) (g n : Nat) (p : Nat → Nat) (os : Nat → Option Int) : Prop where
  row : ∀ j, j < n → w.cell? ⟨g, j, none⟩ = some (.pointer (some ⟨p j, 0, none⟩))
  acc : ∀ j, j < n → AccO w (p j) (os j)
  gt : ∀ j, j < n → g < p j
  inj : ∀ i j, i < n → j < n → p i = p j → i = j
theorem AcL.heap {w w' : World} {g n : Nat} {p : Nat → Nat} {os : Nat → Option Int} (h : AcL w g n p os) (hk : ∀ k, g ≤ k → k < w.heap.size → w'.heap[k]? = w.heap[k]?) (hg : g < w.heap.size) : AcL w' g n p os :=
  ⟨fun j hj => (cell_heapJ (hk g (Nat.le_refl _) hg) j).trans (h.row j hj), fun j hj => (h.acc j hj).heap (hk _ (Nat.le_of_lt (h.gt j hj)) (h.acc j hj).block), h.gt, h.inj⟩
theorem AcL.later {w w' : World} {g n : Nat} {p : Nat → Nat} {os : Nat → Option Int} (h : AcL w g n p os) (hb : Below w.heap.size w w') (hg : g < w.heap.size) : AcL w' g n p os := h.heap (fun k _ hk => hb.block k hk) hg
theorem AcL.set {w w' : World} {g n i : Nat} {p : Nat → Nat} {os : Nat → Option Int} {o : Option Int} (h : AcL w g n p os) (hg : g < w.heap.size) (hi : i < n) (hc : Chg (p i) w w') (ho : AccO w' (p i) o) : AcL w' g n p (fun j => if j = i then o else os j) := by
  refine ⟨fun j hj => (cell_heapJ (hc.other g hg (Nat.ne_of_lt (h.gt i hi))) j).trans (h.row j hj), fun j hj => ?_, h.gt, h.inj⟩
  by_cases e : j = i
  · subst e; simp only [if_true]; exact ho
  · simp only [if_neg e]
    exact (h.acc j hj).chg hc (fun c => e (h.inj j i hj hi c))
theorem chg_set {w w1 w3 : World} {g n P : Nat} {v : Value} (hg : g < w.heap.size) (hP : P = w.heap.size) (b1 : Below w.heap.size w w1) (c3 : Chg P (w1.setCell ⟨g, n, none⟩ v) w3) (k : Nat) (hk : k < w.heap.size) (hne : k ≠ g) : w3.heap[k]? = w.heap[k]? := by
  have hs : (w1.setCell ⟨g, n, none⟩ v).heap.size = w1.heap.size := by simp
  have h1 := b1.size
  rw [c3.other k (by omega) (by omega), heap_setCell_other _ _ _ _ hne, b1.block k hk]
theorem chg_row {w w1 w3 : World} {g n P : Nat} {v : Value} (hg : g < w.heap.size) (hP : P = w.heap.size) (b1 : Below w.heap.size w w1) (hc : (w1.cell? ⟨g, n, none⟩).isSome = true) (c3 : Chg P (w1.setCell ⟨g, n, none⟩ v) w3) (j : Nat) : w3.cell? ⟨g, j, none⟩ = if j = n then some v else w.cell? ⟨g, j, none⟩ := by
  have hs : (w1.setCell ⟨g, n, none⟩ v).heap.size = w1.heap.size := by simp
  have h1 := b1.size
  rw [cell_heapJ (c3.other g (by omega) (by omega)) j]
  by_cases e : j = n
  · subst e
    rw [if_pos rfl]
    exact World.cell?_setCell_same' _ _ _ hc
  · rw [if_neg e, World.cell?_setCell_other _ _ _ _ (by intro c; cases c; exact e rfl)]
    exact b1.cell (p := ⟨g, j, none⟩) hg
theorem chg_froz {w w1 w3 : World} {g n P : Nat} {v : Value} (hg : g < w.heap.size) (hP : P = w.heap.size) (b1 : Below w.heap.size w w1) (c3 : Chg P (w1.setCell ⟨g, n, none⟩ v) w3) (j : Nat) : w3.frozen? ⟨g, j, none⟩ = w.frozen? ⟨g, j, none⟩ := by
  have hs : (w1.setCell ⟨g, n, none⟩ v).heap.size = w1.heap.size := by simp
  have h1 := b1.size
  rw [frozen_heapJ (c3.other g (by omega) (by omega)) j, World.frozen?_setCell]
  exact frozen_heapJ (b1.block g hg) j
theorem AcL.push {w w1 w3 : World} {g n P : Nat} {p : Nat → Nat} {os : Nat → Option Int} (h : AcL w g n p os) (hg : g < w.heap.size) (hP : P = w.heap.size) (b1 : Below w.heap.size w w1) (hc : (w1.cell? ⟨g, n, none⟩).isSome = true) (c3 : Chg P (w1.setCell ⟨g, n, none⟩ (.pointer (some ⟨P, 0, none⟩))) w3) (a3 : AccO w3 P (os n)) : AcL w3 g (n + 1) (fun j => if j = n then P else p j) os := by
  refine ⟨fun j hj => ?_, fun j hj => ?_, fun j hj => ?_, fun i j hi hj e => ?_⟩
  · rw [chg_row hg hP b1 hc c3 j]
    by_cases e : j = n
    · simp only [if_pos e]
    · simp only [if_neg e]; exact h.row j (by omega)
  · by_cases e : j = n
    · subst e; simp only [if_true]; exact a3
    · simp only [if_neg e]
      have hj' : j < n := by omega
      have hg' := h.gt j hj'
      exact (h.acc j hj').heap (chg_set hg hP b1 c3 _ (h.acc j hj').block (by omega))
  · by_cases e : j = n
    · simp only [if_pos e]; omega
    · simp only [if_neg e]; exact h.gt j (by omega)
  · by_cases e1 : i = n
    · by_cases e2 : j = n
      · omega
      · simp only [if_pos e1, if_neg e2] at e
        have := (h.acc j (by omega)).block
        omega
    · by_cases e2 : j = n
      · simp only [if_neg e1, if_pos e2] at e
        have := (h.acc i (by omega)).block
        omega
      · simp only [if_neg e1, if_neg e2] at e
        exact h.inj i j (by omega) (by omega) e
def accB (us : List Nat) (j : Nat) : Option Int := prodO (some 0) (us[j]?.getD 0) 4607182418800017408 0
set_option maxRecDepth 100000 in
set_option maxHeartbeats 2000000 in
theorem accsOf_any (ao : Option Addr) (len cap : Nat) (us : List Nat) (hl : len ≤ 100000) (w : World) (h : RdF w ao len cap us) :
    Calls Tryz.prog 56 #[.slice ao len cap] w fun e w' => e = .returned (.slice (some ⟨w.heap.size, 0, none⟩) len len) ∧ (∃ p, AcL w' w.heap.size len p (accB us)) ∧ Below w.heap.size w w' ∧ w.heap.size < w'.heap.size := by
  have HR : Hid _ := h
  have HLN : Hid _ := h.length
  clear h
  have hmk := makeP len (by omega)
  go_enter Tryz.func56, Tryz.ntmps56
  go_wp2_with fail
  clear hmk
  go_loopg [11] len (fun g iv wx => ∃ k : Nat, iv = .int .i64 k ∧ k + g = len ∧ Hid (∃ p, AcL wx w.heap.size k p (accB us)) ∧ Hid ((∀ j, j < len → ∃ v, wx.cell? ⟨w.heap.size, j, none⟩ = some (.pointer v)) ∧ (∀ j, wx.frozen? ⟨w.heap.size, j, none⟩ = false)) ∧ Hid (Below w.heap.size w wx) ∧ Hid (w.heap.size < wx.heap.size))
  case atStart =>
    refine ⟨0, rfl, by omega, ⟨fun _ => 0, ⟨fun j hj => by omega, fun j hj => by omega, fun j hj => by omega, fun i j hi => by omega⟩⟩, ⟨fun j hj => ⟨none, cellAtJ (heap_alloc_new w _) j _ (ptN_at len j hj)⟩, fun j => frozen_of_row _ _ j _ _ (heap_alloc_new w _)⟩, (Below.refl _ w).alloc (Nat.le_refl _) _, ?_⟩
    show w.heap.size < (w.alloc _).heap.size
    simp
  case round =>
    obtain ⟨k, rfl, hk, HP, HC, HB, HS⟩ := hrel
    by_cases hlt : k < len
    · have hd : decide ((k : Int) < (len : Int)) = true := decide_eq_true (by omega)
      obtain ⟨g, rfl⟩ : ∃ g, gk = g + 1 := ⟨gk - 1, by omega⟩
      rcases (HR.out.later HB.out).cells with h0 | ⟨ab, aoff, rfl, hca⟩
      · omega
      have ga := hca k hlt
      have hax := HR.out.lt _ (getD_mem (us := us) (j := k) (by rw [HLN.out]; exact hlt))
      have HX : Hid (accB us k = prodO (some 0) (us[k]?.getD 0) 4607182418800017408 0) := rfl
      obtain ⟨x, hx⟩ : ∃ x, us[k]?.getD 0 = x := ⟨_, rfl⟩
      rw [hx] at ga hax HX
      have HIG : Hid (k + (g + 1) = len) := hk
      clear hca hx hk
      obtain ⟨pv, hpv⟩ := HC.out.1 k hlt
      go_wp2_with (first
        | (go_at_call 61; refine (new_any _).mono ?_; rintro e w1 ⟨rfl, a1, b1, s1⟩; have q1 := (b1.cell (p := ⟨w.heap.size, k, none⟩) HS.out).trans hpv; have q2 : w1.frozen? ⟨w.heap.size, k, none⟩ = false := (frozen_heapJ (b1.block _ HS.out) k).trans (HC.out.2 k))
        | (go_at_call 62; refine (accAdd_any wr.heap.size (some 0) x hax _ (a1.heap (heap_setCell_other _ _ _ _ (Nat.ne_of_gt HS.out)))).mono ?_; rintro e w3 ⟨rfl, a3, c3⟩))
      have hcs : (w1.cell? ⟨w.heap.size, k, none⟩).isSome = true := by rw [q1]; rfl
      have HP3 : Hid (∃ p, AcL w3 w.heap.size (k + 1) p (accB us)) := by
        obtain ⟨p, hp⟩ := HP.out
        exact ⟨_, hp.push HS.out rfl b1 hcs c3 (by rw [HX.out]; exact a3)⟩
      have HC3 : Hid ((∀ j, j < len → ∃ v, w3.cell? ⟨w.heap.size, j, none⟩ = some (.pointer v)) ∧ (∀ j, w3.frozen? ⟨w.heap.size, j, none⟩ = false)) := by
        refine ⟨fun j hj => ?_, fun j => (chg_froz HS.out rfl b1 c3 j).trans (HC.out.2 j)⟩
        rw [chg_row HS.out rfl b1 hcs c3 j]
        by_cases e : j = k
        · exact ⟨_, if_pos e⟩
        · rw [if_neg e]; exact HC.out.1 j hj
      have hsS : (w1.setCell ⟨w.heap.size, k, none⟩ (.pointer (some ⟨wr.heap.size, 0, none⟩))).heap.size = w1.heap.size := by simp
      have HB3 : Hid (Below w.heap.size w w3) := (HB.out.trans (b1.mono (Nat.le_of_lt HS.out))).trans (((Below.refl w.heap.size w1).setCell (p := ⟨w.heap.size, k, none⟩) (Nat.le_refl _) _).trans (c3.below.mono (Nat.le_of_lt HS.out)))
      have HS3 : Hid (w.heap.size < w3.heap.size) := by unfold Hid; have h1 := c3.below.size; have h2 := b1.size; have h3 := HS.out; omega
      clear q1 q2 hcs a1 b1 s1 a3 c3 hsS hpv ga hax HX HP HC
      go_roundg g
      case measure => omega
      case rel => exact ⟨k + 1, by go_num, by have := HIG.out; omega, HP3, HC3, HB3, HS3⟩
    · have hd : decide ((k : Int) < (len : Int)) = false := decide_eq_false (by omega)
      have hd' : decide (k < len) = false := decide_eq_false (by omega)
      have hkl : k = len := by omega
      have HP2 : Hid (∃ p, AcL wr w.heap.size len p (accB us)) := hkl ▸ HP.out
      clear hkl
      go_wp2_with fail
      go_ret
      exact ⟨rfl, HP2.out, HB.out, HS.out⟩
end Go.Proofs.YtogdfdhdmfkmaaaGreat

namespace Go.Proofs.YtogdfdhdmfkmaaaGreat
open Go.RowKit
set_option linter.unusedVariables false
set_option linter.unusedSimpArgs false

/-- The first k Accs, with the sizes of their numbers. -/
def addJ (us : List Nat) (os : Nat → Option Int) (k j : Nat) : Option Int := if j < k then prodO (os j) (frung (us[j]?.getD 0)) 4607182418800017408 0 else os j
theorem addJ_succ (us : List Nat) (os : Nat → Option Int) (k j : Nat) : addJ us os (k + 1) j = if j = k then prodO (addJ us os k k) (frung (us[k]?.getD 0)) 4607182418800017408 0 else addJ us os k j := by
  unfold addJ
  by_cases e : j = k
  · subst e; rw [if_pos (by omega), if_pos rfl, if_neg (by omega)]
  · rw [if_neg e]
    by_cases h : j < k
    · rw [if_pos (by omega), if_pos h]
    · rw [if_neg (by omega), if_neg h]
set_option maxRecDepth 100000 in
set_option maxHeartbeats 2000000 in
theorem addSizes_any (gB n gc : Nat) (p : Nat → Nat) (os : Nat → Option Int) (ao : Option Addr) (len cap : Nat) (us : List Nat) (hln : len ≤ n) (w : World) (hG : gB < w.heap.size) (hA : AcL w gB n p os) (h : ∀ W', Below gB w W' → RdF W' ao len cap us) :
    Calls Tryz.prog 57 #[.slice (some ⟨gB, 0, none⟩) n gc, .slice ao len cap] w fun e w' => e = .returned (.tuple #[]) ∧ AcL w' gB n p (addJ us os len) ∧ Below gB w w' ∧ (∀ k, k < w.heap.size → (∀ j, j < n → k ≠ p j) → w'.heap[k]? = w.heap[k]?) := by
  have HR : Hid _ := h
  have h0 := h w (Below.refl _ _)
  have hmx : len ≤ 9223372036854775807 := Nat.le_trans h0.max maxLen_le
  have HLN : Hid _ := h0.length
  have HA0 : Hid (AcL w gB n p (addJ us os 0)) := ⟨hA.row, fun j hj => by unfold addJ; rw [if_neg (by omega)]; exact hA.acc j hj, hA.gt, hA.inj⟩
  have HG0 : Hid _ := hG
  clear h h0 hA hG
  go_enter Tryz.func57, Tryz.ntmps57
  go_wp2_with fail
  go_loopg [8] len (fun g iv wx => ∃ k : Nat, iv = .int .i64 k ∧ k + g = len ∧ Hid (AcL wx gB n p (addJ us os k)) ∧ Hid (Below gB w wx) ∧ Hid (∀ k, k < w.heap.size → (∀ j, j < n → k ≠ p j) → wx.heap[k]? = w.heap[k]?) ∧ Hid (gB < wx.heap.size))
  case atStart => exact ⟨0, rfl, by omega, HA0, Below.refl _ _, fun _ _ _ => rfl, HG0⟩
  case round =>
    clear HA0 HG0
    obtain ⟨k, rfl, hk, HA, HB, HO, HG⟩ := hrel
    by_cases hlt : k < len
    · have hd : decide ((k : Int) < (len : Int)) = true := decide_eq_true (by omega)
      obtain ⟨g, rfl⟩ : ∃ g, gk = g + 1 := ⟨gk - 1, by omega⟩
      have hkn : k < n := by omega
      have hr := HR.out _ HB.out
      rcases hr.cells with h0 | ⟨ab, aoff, rfl, hca⟩
      · omega
      have ga := hca k hlt
      have hax := hr.lt _ (getD_mem (us := us) (j := k) (by rw [HLN.out]; exact hlt))
      obtain ⟨x, hx⟩ : ∃ x, us[k]?.getD 0 = x := ⟨_, rfl⟩
      have HX : Hid (us[k]?.getD 0 = x) := hx
      rw [hx] at ga hax
      have HIG : Hid (k + (g + 1) = len) := hk
      clear hca hx hk hr
      go_upto_region 3 with fail
      have hS : (fun w' => w'.cell? ⟨gB, k, none⟩ = some (.pointer (some ⟨p k, 0, none⟩))) wr.drew := HA.out.row k hkn
      refine wp_region_noPanic ?_
      refine wp_region_held_drew (S := (fun w' => w'.cell? ⟨gB, k, none⟩ = some (.pointer (some ⟨p k, 0, none⟩)))) (by kernel_rfl) hS (fun _ => ?_)
      refine takeH 13 (i := 0) (v := ?_) rfl rfl (by kernel_rfl) (by kernel_rfl) (by kernel_rfl) (fun _ _ _ h => h) (Or.inl ⟨by kernel_rfl, ?_⟩) (by assumption) ?_
      rotate_left
      · intro w' hSw; (try dsimp only at hSw); go_simp; try with_reducible rfl
      try simp only [Act.put, List.setIfInBounds_toArray, List.set_cons_zero, List.set_cons_succ]
      refine takeH 14 (i := 1) (v := ?_) rfl rfl (by kernel_rfl) (by kernel_rfl) (by kernel_rfl) (fun _ _ _ h => h) (Or.inl ⟨by kernel_rfl, ?_⟩) (by assumption) ?_
      rotate_left
      · intro w' hSw; (try dsimp only at hSw); go_simp; try with_reducible rfl
      try simp only [Act.put, List.setIfInBounds_toArray, List.set_cons_zero, List.set_cons_succ]
      refine takeH 15 (i := 2) (v := ?_) rfl rfl (by kernel_rfl) (by kernel_rfl) (by kernel_rfl) (fun _ _ _ h => h) (Or.inl ⟨by kernel_rfl, ?_⟩) (by assumption) ?_
      rotate_left
      · intro w' hSw; (try dsimp only at hSw); go_simp; try with_reducible rfl
      try simp only [Act.put, List.setIfInBounds_toArray, List.set_cons_zero, List.set_cons_succ]
      refine takeH 16 (i := 3) (v := ?_) rfl rfl (by kernel_rfl) (by kernel_rfl) (by kernel_rfl) (fun _ _ _ h => h) (Or.inl ⟨by kernel_rfl, ?_⟩) (by assumption) ?_
      rotate_left
      · intro w' hSw; (try dsimp only at hSw); go_simp; try with_reducible rfl
      try simp only [Act.put, List.setIfInBounds_toArray, List.set_cons_zero, List.set_cons_succ]
      refine takeH 17 (i := 4) (v := ?_) rfl rfl (by kernel_rfl) (by kernel_rfl) (by kernel_rfl) (fun _ _ _ h => h) (Or.inl ⟨by kernel_rfl, ?_⟩) (by assumption) ?_
      rotate_left
      · intro w' hSw; (try dsimp only at hSw); go_simp; try with_reducible rfl
      try simp only [Act.put, List.setIfInBounds_toArray, List.set_cons_zero, List.set_cons_succ]
      refine wpAnyH_ready (rs := [5]) (by kernel_rfl) (by simp) ?_
      refine consH _ rfl (hopCd 18 rfl (by kernel_rfl) rfl (by kernel_rfl) (Calls.mono (abs_any x hax _) ?_)) AllReadyH.nil
      rintro e m ⟨rfl, hm⟩
      subst hm
      refine ⟨_, rfl, hS, ?_⟩
      try simp only [Act.put, List.setIfInBounds_toArray, List.set_cons_zero, List.set_cons_succ]
      refine wpAnyH_ready (rs := [6]) (by kernel_rfl) (by simp) ?_
      refine consH _ rfl (hopCd 19 rfl (by kernel_rfl) rfl (by kernel_rfl) (Calls.mono (accAdd_any (p k) _ (frung x) (frung_ltJ hax) _ (HA.out.acc k hkn).drew) ?_)) AllReadyH.nil
      rintro e w5 ⟨rfl, a5, c5⟩
      have hgt := HA.out.gt k hkn
      have hS5 : (fun w' => w'.cell? ⟨gB, k, none⟩ = some (.pointer (some ⟨p k, 0, none⟩))) w5 := (cell_heapJ (c5.other gB HG.out (by omega)) k).trans (HA.out.row k hkn)
      refine ⟨_, rfl, hS5, ?_⟩
      try simp only [Act.put, List.setIfInBounds_toArray, List.set_cons_zero, List.set_cons_succ]
      refine wpAnyH_done (by kernel_rfl) ?_ _
      refine NoPanic.normal ?_
      try simp only [Act.put, List.setIfInBounds_toArray, List.set_cons_zero, List.set_cons_succ]
      have HA5 : Hid (AcL w5 gB n p (addJ us os (k + 1))) := by
        have h5 := AcL.set (w := wr.drew) (HA.out.heap (fun _ _ _ => rfl) HG.out) HG.out hkn c5 a5
        refine ⟨h5.row, fun j hj => ?_, h5.gt, h5.inj⟩
        have h6 := h5.acc j hj
        rw [addJ_succ, HX.out]
        exact h6
      have HB5 : Hid (Below gB w w5) := HB.out.drew.trans (c5.below.mono (by omega))
      have HO5 : Hid (∀ k, k < w.heap.size → (∀ j, j < n → k ≠ p j) → w5.heap[k]? = w.heap[k]?) := fun i hi hne => (c5.other i (Nat.lt_of_lt_of_le hi HB.out.size) (hne k hkn)).trans (HO.out i hi hne)
      have HG5 : Hid (gB < w5.heap.size) := Nat.lt_of_lt_of_le HG.out c5.below.size
      clear hS hS5 a5 c5 hax HX
      go_wp2_with fail
      go_roundg g
      case measure => omega
      case rel => exact ⟨k + 1, by go_num, by have := HIG.out; omega, HA5, HB5, HO5, HG5⟩
    · have hd : decide ((k : Int) < (len : Int)) = false := decide_eq_false (by omega)
      have hd' : decide (k < len) = false := decide_eq_false (by omega)
      have hkl : k = len := by omega
      have HA2 : Hid (AcL wr gB n p (addJ us os len)) := hkl ▸ HA.out
      clear hkl
      go_wp2_with fail
      go_end0
      exact ⟨rfl, HA2.out, HB.out, HO.out⟩
end Go.Proofs.YtogdfdhdmfkmaaaGreat

namespace Go.Proofs.YtogdfdhdmfkmaaaGreat
open Go.RowKit Go.Shelf
set_option linter.unusedVariables false
set_option linter.unusedSimpArgs false
attribute [local go_sem] Oper.semAt_some

theorem AcL.keptJ {W W' : World} {row : Option Nat} {g n : Nat} {p : Nat → Nat} {os : Nat → Option Int} (h : AcL W g n p os) (hg : W.grownBy W' row) (hr : ∀ r, row = some r → ∃ o, W.heap[r]? = some o ∧ o.isCells = false) : AcL W' g n p os :=
  ⟨fun j hj => cell_kept (h.row j hj) hg hr, fun j hj => (h.acc j hj).keptJ hg hr, h.gt, h.inj⟩
theorem acc_ne {W : World} {P B : Nat} {o : Option Int} {c : Array Value} {t : TypeId} (h : AccO W P o) (hB : W.heap[B]? = some (.cells c t)) (hc : c.size ≤ 76) : B ≠ P := by
  rintro rfl
  have h1 := h.cell
  rw [cell_of_row _ _ _ _ _ _ hB, Array.getElem?_eq_none hc] at h1
  cases h1
/-- How far each coordinate goes, exact. -/
def farC (z : ZD) (len : Nat) (os : Nat → Option Int) (pre : List (_root_.Fin z.dn)) : Nat → Option Int := pre.foldl (fun os k => addJ (z.gs[k.val]?.getD []) os len) os
theorem farC_snoc (z : ZD) (len : Nat) (os : Nat → Option Int) (pre : List (_root_.Fin z.dn)) (x : _root_.Fin z.dn) : farC z len os (pre ++ [x]) = addJ (z.gs[x.val]?.getD []) (farC z len os pre) len := by unfold farC; rw [List.foldl_append]; rfl
def farZ (z : ZD) : Nat → Option Int := farC z z.rn (accB z.rs) (List.finRange z.dn)
set_option maxRecDepth 100000 in
set_option maxHeartbeats 4000000 in
theorem reaches_any (z : ZD) (w : World) (hz : ZR w z) (hrn : z.rn ≤ 100000) (hdg : z.dn ≤ z.gn) (hw : ∀ k, k < z.dn → (z.gs[k]?.getD []).length = z.rn) :
    Calls Tryz.prog 38 #[.agg #[.int .i64 z.N, .slice z.co z.cn z.cc, .slice z.io z.dn z.dc, .slice z.go z.gn z.gc, .slice z.ro z.rn z.rc, .bool z.bad]] w fun e w' => e = .returned (.slice (some ⟨w.heap.size + 1, 0, none⟩) z.rn z.rn) ∧ (∃ p, AcL w' (w.heap.size + 1) z.rn p (farZ z)) ∧ Below w.heap.size w w' ∧ w.heap.size + 1 < w'.heap.size := by
  have HZ : Hid (∀ W', Below w.heap.size w W' → ZR W' z) := fun W' hb => hz.later hb
  obtain ⟨fz, hfz⟩ : ∃ fz, farZ z = fz := ⟨_, rfl⟩
  rw [hfz]
  have HFZ : Hid (farC z z.rn (accB z.rs) (List.finRange z.dn) = fz) := hfz
  have HW : Hid _ := hw
  clear hz hw hfz
  obtain ⟨N, co, cn, cc, io, dn, dc, go, gn, gc, ro, rn, rc, bad, cs, ids, gv, gs, rs⟩ := z
  dsimp only at HZ HFZ HW hrn hdg ⊢
  have X0 : Below w.heap.size w (w.alloc (.cells #[.int .i64 N, .slice co cn cc, .slice io dn dc, .slice go gn gc, .slice ro rn rc, .bool bad] 26)) := (Below.refl _ w).alloc (Nat.le_refl _) _
  have hx0 : (w.alloc (.cells #[.int .i64 N, .slice co cn cc, .slice io dn dc, .slice go gn gc, .slice ro rn rc, .bool bad] 26)).heap.size = w.heap.size + 1 := by simp
  refine (callsIn_wide (n := 3)).1 ?_
  refine callsIn_of_wp_marks Tryz.func38 rfl trivial ?_ rfl
  refine wpIn_wide.2 ?_
  simp only [Tryz.ntmps38, List.size_toArray, List.length_cons, List.length_nil, Nat.reduceAdd, Nat.reduceSub, Array.replicate_succ, Array.replicate_zero, List.push_toArray, List.append_toArray, List.nil_append, List.cons_append]
  go_upto_region 2 with (first | (go_at_call 56; refine Calls.mono (accsOf_any ro rn rc rs hrn _ (HZ.out _ X0).r) ?_; rintro e w1 ⟨rfl, a1, b1, s1⟩))
  obtain ⟨p, hp⟩ := a1
  rw [hx0] at hp s1
  have Z0 : (w1.alloc (.cells #[.slice (some ⟨w.heap.size + 1, 0, none⟩) rn rn] 71)).heap[w.heap.size]? = some (.cells #[.int .i64 N, .slice co cn cc, .slice io dn dc, .slice go gn gc, .slice ro rn rc, .bool bad] 26) := alloc_kept (kept b1 (heap_alloc_new w _)) _
  have Z1 : (w1.alloc (.cells #[.slice (some ⟨w.heap.size + 1, 0, none⟩) rn rn] 71)).heap[w1.heap.size]? = some (.cells #[.slice (some ⟨w.heap.size + 1, 0, none⟩) rn rn] 71) := heap_alloc_new w1 _
  have Z2 : Below w.heap.size w (w1.alloc (.cells #[.slice (some ⟨w.heap.size + 1, 0, none⟩) rn rn] 71)) := (to_call X0 b1).alloc (to_call X0 b1).size _
  have Z3 : AcL (w1.alloc (.cells #[.slice (some ⟨w.heap.size + 1, 0, none⟩) rn rn] 71)) (w.heap.size + 1) rn p (accB rs) := hp.later ((Below.refl _ w1).alloc (Nat.le_refl _) _) s1
  obtain ⟨X5, hX5⟩ : ∃ X5, w1.alloc (.cells #[.slice (some ⟨w.heap.size + 1, 0, none⟩) rn rn] 71) = X5 := ⟨_, rfl⟩
  rw [hX5] at Z0 Z1 Z2 Z3 ⊢
  clear hX5 hp b1 X0 hx0
  go_wp2_with (first
    | (refine wpList_load_row (by rfl) 26 _ (by rfl) w.heap.size _ (by rfl) Z0 _ Tryz.underlying26 rfl 6 Tryz.infoZ (by rfl) ?_)
    | (go_at_call 54; refine Calls.mono (columns_any _ rfl _) ?_; rintro e w' ⟨rfl, hw⟩; rw [hw]; clear hw))
  have hab := blk_lt Z1
  have V1 : (X5.alloc (.cells #[.int .i64 N, .slice co cn cc, .slice io dn dc, .slice go gn gc, .slice ro rn rc, .bool bad] 26)).heap[w1.heap.size]? = _ := alloc_kept Z1 _
  have V2 : Below w.heap.size w (X5.alloc (.cells #[.int .i64 N, .slice co cn cc, .slice io dn dc, .slice go gn gc, .slice ro rn rc, .bool bad] 26)) := Z2.alloc Z2.size _
  have V3 : AcL (X5.alloc (.cells #[.int .i64 N, .slice co cn cc, .slice io dn dc, .slice go gn gc, .slice ro rn rc, .bool bad] 26)) (w.heap.size + 1) rn p (accB rs) := Z3.later ((Below.refl _ X5).alloc (Nat.le_refl _) _) (by omega)
  have V5 : (X5.alloc (.cells #[.int .i64 N, .slice co cn cc, .slice io dn dc, .slice go gn gc, .slice ro rn rc, .bool bad] 26)).heap[X5.heap.size]? = _ := heap_alloc_new X5 _
  obtain ⟨X, hX⟩ : ∃ X, X5.alloc (.cells #[.int .i64 N, .slice co cn cc, .slice io dn dc, .slice go gn gc, .slice ro rn rc, .bool bad] 26) = X := ⟨_, rfl⟩
  rw [hX] at V1 V2 V3 V5 ⊢
  clear hX Z0 Z1 Z2 Z3
  have hxs := blk_lt V5
  refine (wpIn_wide (n := 3)).1 ?_
  refine wpIn_rangeFunc_ownF rfl (by decide) (gf := 71) (lb := #[.pointer (some ⟨X5.heap.size, 0, none⟩)]) rfl trivial (enters_of Tryz.func71 (by kernel_rfl) rfl)
    (cols_stops Fence.wide 2 trivial rfl (by decide) X5.heap.size ⟨N, co, cn, cc, io, dn, dc, go, gn, gc, ro, rn, rc, bad, cs, ids, gv, gs, rs⟩ hdg w X V2 (HZ.out w (Below.refl _ _)) V5) KpZ.trans (kpZ_b V2.size hxs) (Below.refl _ _) (fun _ => rfl)
    (fun pre W => (W.heap[w1.heap.size]? = some (.cells #[.slice (some ⟨w.heap.size + 1, 0, none⟩) rn rn] 71) ∧ W.heap[X5.heap.size]? = some (.cells #[.int .i64 N, .slice co cn cc, .slice io dn dc, .slice go gn gc, .slice ro rn rc, .bool bad] 26) ∧ AcL W (w.heap.size + 1) rn p (farC ⟨N, co, cn, cc, io, dn, dc, go, gn, gc, ro, rn, rc, bad, cs, ids, gv, gs, rs⟩ rn (accB rs) pre)) ∧ Below w.heap.size w W)
    (fun _ _ _ => False)
    (OwnFrom.and (Own.from (fun s A B row hs hg hr => ⟨heap_keptJ hs.1 hg hr, heap_keptJ hs.2.1 hg hr, hs.2.2.keptJ hg hr⟩) _) (ownFrom_below (Nat.le_refl _) V2.size))
    (fun _ _ _ _ _ hs _ _ => hs)
    ⟨⟨V1, V5, V3⟩, V2⟩
    ?a1 ?assign ?body ?done ?stop
  case assign =>
    intro l x W K hK
    dsimp only [encZ]
    gi_wp2
    exact hK
  case body =>
    rintro l pre x W ⟨⟨h1, h2, h3⟩, hB⟩ hlen
    have hg : ∀ W', Below (w.heap.size + 1) W W' → RdF W' (gv x.val).1 (gv x.val).2.1 (gv x.val).2.2 (gs[x.val]?.getD []) := fun W' hb => (HZ.out W' (hB.trans (hb.mono (by omega)))).g.each x.val (Nat.lt_of_lt_of_le x.isLt hdg)
    have hgl := HW.out x.val x.isLt
    have hln := (hg W (Below.refl _ _)).length
    have HJ : Hid (farC ⟨N, co, cn, cc, io, dn, dc, go, gn, gc, ro, rn, rc, bad, cs, ids, gv, gs, rs⟩ rn (accB rs) (pre ++ [x]) = addJ (gs[x.val]?.getD []) (farC ⟨N, co, cn, cc, io, dn, dc, go, gn, gc, ro, rn, rc, bad, cs, ids, gv, gs, rs⟩ rn (accB rs) pre) rn) := farC_snoc _ _ _ _ _
    have hGW : w.heap.size + 1 < W.heap.size := by have := blk_lt h1; omega
    have HC : Hid _ := addSizes_any (w.heap.size + 1) rn rn p _ _ _ _ _ (by omega) W hGW h3 hg
    rw [← hln, hgl] at HC
    have cs' := cellAtJ h1 0 _ rfl
    have HH : Hid _ := And.intro h1 (And.intro h2 h3)
    rw [← hln, hgl]
    clear h1 h2 h3 hg hgl
    gi_wp2_with (first
      | (refine (⟨trivial, ?_⟩ : (Fence.inRound Fence.wide l).fn 57 ∧ _); gi_at_call 57; refine (CallsIn.inRound l (callsIn_wide.2 HC.out)).mono ?_; rintro e w7 ⟨rfl, a7, b7, o7⟩))
    have hne : ∀ (k : Nat) (c : Array Value) (t : TypeId), W.heap[k]? = some (Obj.cells c t) → c.size ≤ 76 → w7.heap[k]? = some (Obj.cells c t) := fun k c t hk hc => (o7 k (blk_lt hk) (fun j hj => acc_ne (HH.out.2.2.acc j hj) hk hc)).trans hk
    have hko : KeepsOthers W w7 := ⟨b7.size, fun k o hk hc => (o7 k (blk_lt hk) (fun j hj e => by subst e; obtain ⟨y, hy, hy'⟩ := (HH.out.2.2.acc j hj).obj; rw [hk] at hy; cases hy; rw [hc] at hy'; cases hy')).trans hk⟩
    have hb7 : Below w.heap.size W w7 := b7.mono (by omega)
    exact ⟨hko, ⟨hb7, (hne _ _ _ HH.out.2.1 (by simp)).trans HH.out.2.1.symm⟩, ⟨hne _ _ _ HH.out.1 (by simp), hne _ _ _ HH.out.2.1 (by simp), by rw [HJ.out]; exact a7⟩, hB.trans hb7⟩
  case done =>
    rintro D ys W hD rfl ⟨⟨h1, h2, h3⟩, hB⟩ hK
    rw [HFZ.out] at h3
    have cs' := cellAtJ h1 0 _ rfl
    have hsz : w.heap.size + 1 < W.heap.size := by have := blk_lt h1; omega
    have hDw : w.heap.size ≤ D := Nat.le_trans V2.size hD
    have HH : Hid _ := h3
    clear h1 h2 h3
    go_wp2_with fail
    refine ⟨by simp, .inl ⟨_, _, rfl, run_takeDeferred hK, ?_⟩⟩
    have hgr := grownBy_putObj' W D (.deferred none)
    have hrr : ∀ r, some D = some r → ∃ o, W.heap[r]? = some o ∧ o.isCells = false := fun r e => by cases e; exact ⟨_, hK, rfl⟩
    exact ⟨_, results_tmp rfl _ _ _, rfl, ⟨p, HH.out.keptJ hgr hrr⟩, hB.trans (belowK_b (w := w) (Nat.le_refl _) W D _ _ hDw hK rfl rfl), Nat.lt_of_lt_of_le hsz hgr.size⟩
  case stop =>
    rintro D c pre W _ _ h _
    exact h.elim
end Go.Proofs.YtogdfdhdmfkmaaaGreat
