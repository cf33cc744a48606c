import Derived.Test.YtkbafeghlfajhaaWG
namespace Go.Proofs.Ytkbafeghlfajhaa
open Go.RowKit
set_option linter.unusedVariables false

def holdZ (z : Int) : Option Int := if -((2 ^ 4800 : Nat) : Int) < z ∧ z < ((2 ^ 4800 : Nat) : Int) then some z else none
/-- An Acc in block B: its real (times 2^2240), or bad. -/
structure AccO (w : World) (B : Nat) (o : Option Int) : Prop where
  ex : ∃ f, Wds w B f ∧ ∀ z, o = some z → Tc f z ∧ -((2 ^ 4800 : Nat) : Int) < z ∧ z < ((2 ^ 4800 : Nat) : Int)
  cell : w.cell? ⟨B, 76, none⟩ = some (.bool o.isNone)
  froz : w.frozen? ⟨B, 76, none⟩ = false
  top : ∀ j, 77 ≤ j → w.cell? ⟨B, j, none⟩ = none
/-- Of old memory only block B has changed. -/
structure Chg (B : Nat) (w w' : World) : Prop where
  below : Below B w w'
  other : ∀ b, b < w.heap.size → b ≠ B → w'.heap[b]? = w.heap[b]?
theorem Mut.chg {B : Nat} {w w' : World} (h : Mut B w w') : Chg B w w' := ⟨h.below, h.other⟩
theorem Chg.refl (B : Nat) (w : World) : Chg B w w := ⟨Below.refl _ _, fun _ _ _ => rfl⟩
theorem Chg.trans {B : Nat} {a b c : World} (h : Chg B a b) (k : Chg B b c) : Chg B a c :=
  ⟨h.below.trans k.below, fun i hi hne => (k.other i (Nat.lt_of_lt_of_le hi h.below.size) hne).trans (h.other i hi hne)⟩
theorem Chg.of_below {B : Nat} {a b : World} (h : Below a.heap.size a b) (hB : B ≤ a.heap.size) : Chg B a b := ⟨h.mono hB, fun i hi _ => h.block i hi⟩
theorem Chg.drew {B : Nat} {a b : World} (h : Chg B a b) : Chg B a b.drew := ⟨h.below.drew, h.other⟩
theorem cell_of_heap {w w' : World} {B : Nat} (h : w'.heap[B]? = w.heap[B]?) (j : Nat) : w'.cell? ⟨B, j, none⟩ = w.cell? ⟨B, j, none⟩ ∧ w'.frozen? ⟨B, j, none⟩ = w.frozen? ⟨B, j, none⟩ := by
  constructor
  · unfold World.cell?; simp only [h]
  · unfold World.frozen?; simp only [h]
theorem Wds.heap {w w' : World} {B : Nat} {f : Nat → Nat} (hw : Wds w B f) (h : w'.heap[B]? = w.heap[B]?) : Wds w' B f :=
  ⟨fun j hj => (cell_of_heap h j).1.trans (hw.cells j hj), fun j hj => (cell_of_heap h j).2.trans (hw.frozen j hj), hw.lt⟩
theorem AccO.heap {w w' : World} {B : Nat} {o : Option Int} (ha : AccO w B o) (h : w'.heap[B]? = w.heap[B]?) : AccO w' B o := by
  obtain ⟨f, h1, h2⟩ := ha.ex
  exact ⟨⟨f, h1.heap h, h2⟩, (cell_of_heap h 76).1.trans ha.cell, (cell_of_heap h 76).2.trans ha.froz, fun j hj => (cell_of_heap h j).1.trans (ha.top j hj)⟩
theorem AccO.block {w : World} {B : Nat} {o : Option Int} (h : AccO w B o) : B < w.heap.size := World.block_lt_of_cell? w _ h.cell
theorem AccO.below {w w' : World} {B N : Nat} {o : Option Int} (ha : AccO w B o) (hb : Below N w w') (hB : B < N) : AccO w' B o := ha.heap (hb.block B hB)
theorem AccO.chg {w w' : World} {B C : Nat} {o : Option Int} (ha : AccO w C o) (hb : Chg B w w') (hB : C ≠ B) : AccO w' C o := ha.heap (hb.other C ha.block hB)
theorem AccO.drew {w : World} {B : Nat} {o : Option Int} (ha : AccO w B o) : AccO w.drew B o := ha.heap rfl
/-- The 77 cells of a bad Acc, of a new one. -/
theorem Chg.setCells {B : Nat} {a b : World} (h : Chg B a b) (vs : List Value) (o : Nat) : Chg B a (b.setCells B o vs) :=
  ⟨Below.setCells (Nat.le_refl _) vs o _ h.below, fun i hi hne => (heap_setCells_other B vs o b i hne).trans (h.other i hi hne)⟩
def acv (f : Nat → Nat) (b : Bool) : List Value := wda f ++ [.bool b]
theorem acv_len (f : Nat → Nat) (b : Bool) : (acv f b).length = 77 := by unfold acv; simp [wda_len]
theorem acv_one (f : Nat → Nat) (b : Bool) : ∀ v ∈ acv f b, v.oneCell' = true := by
  intro v hv
  unfold acv at hv
  rcases List.mem_append.1 hv with h | h
  · exact wda_one f v h
  · simp at h; subst h; rfl
theorem acv_at {f : Nat → Nat} {b : Bool} {j : Nat} {v : Value} (h : (acv f b)[j]? = some v) : (j < 76 ∧ v = .int .u64 (f j : Nat)) ∨ (j = 76 ∧ v = .bool b) := by
  unfold acv at h
  by_cases hj : j < 76
  · rw [List.getElem?_append_left (by rw [wda_len]; exact hj)] at h
    exact .inl (wda_at h)
  · rw [List.getElem?_append_right (by rw [wda_len]; omega), wda_len] at h
    right
    have : j - 76 = 0 := by
      rw [List.getElem?_eq_some_iff] at h
      obtain ⟨h1, _⟩ := h
      simpa using h1
    rw [this] at h
    simp at h
    exact ⟨by omega, h.symm⟩
theorem acv_get (f : Nat → Nat) (b : Bool) {j : Nat} (hj : j < 76) : (acv f b)[j]? = some (.int .u64 (f j : Nat)) := by
  unfold acv; rw [List.getElem?_append_left (by rw [wda_len]; exact hj)]; exact wda_get f hj
theorem acv_top (f : Nat → Nat) (b : Bool) : (acv f b)[76]? = some (.bool b) := by
  unfold acv; rw [List.getElem?_append_right (by rw [wda_len]; omega), wda_len]; rfl
theorem range_acv {w : World} {B : Nat} {f : Nat → Nat} {b : Bool} (h : Wds w B f) (hc : w.cell? ⟨B, 76, none⟩ = some (.bool b)) : w.rangeAt B 0 (acv f b) := fun j v hv => by
  rw [Nat.zero_add]
  rcases acv_at hv with ⟨h1, rfl⟩ | ⟨rfl, rfl⟩
  · exact h.cells j h1
  · exact hc
theorem AccO.of_range {w : World} {B : Nat} {f : Nat → Nat} {o : Option Int} (h : w.rangeAt B 0 (acv f o.isNone)) (hfr : ∀ j, j < 77 → w.frozen? ⟨B, j, none⟩ = false) (hlt : ∀ j, j < 76 → f j < 18446744073709551616)
    (hz : ∀ z, o = some z → Tc f z ∧ -((2 ^ 4800 : Nat) : Int) < z ∧ z < ((2 ^ 4800 : Nat) : Int)) (htop : ∀ j, 77 ≤ j → w.cell? ⟨B, j, none⟩ = none) : AccO w B o :=
  ⟨⟨f, ⟨fun j hj => by have := h j _ (acv_get f o.isNone hj); rwa [Nat.zero_add] at this, fun j hj => hfr j (by omega), hlt⟩, hz⟩, by have := h 76 _ (acv_top f o.isNone); rwa [Nat.zero_add] at this, hfr 76 (by omega), htop⟩
theorem size_acc : (Try.prog.info? 64).map (·.size) = some 77 := by kernel_rfl
theorem Tc.zero : Tc (fun _ => 0) 0 := ⟨fun _ _ => by omega, by omega, by have := Nat.two_pow_pos 4863; omega, .inl (by rw [wv_const_zero]; rfl)⟩
theorem pow4800 : (0 : Int) < ((2 ^ 4800 : Nat) : Int) := by have := Nat.two_pow_pos 4800; omega
theorem zero_acv : Try.zeroCells64 = (acv (fun _ => 0) false).toArray := by rfl
theorem spoil_cells : Try.zeroCells64.toList.set 76 (.bool true) = acv (fun _ => 0) true := by rfl
theorem spoil_cells' : Try.zeroCells64.setIfInBounds 76 (.bool true) = (acv (fun _ => 0) true).toArray := by rfl
theorem store_acv {w : World} {B : Nat} {f : Nat → Nat} {b : Bool} (h : Wds w B f) (hc : w.cell? ⟨B, 76, none⟩ = some (.bool b)) (hf : w.frozen? ⟨B, 76, none⟩ = false) (g : Nat → Nat) (b' : Bool) :
    (storeCells ⟨B, 0, none⟩ (acv g b')).run Try.prog w = .ok () (w.setCells B 0 (acv g b')) := by
  have h1 : ∀ j, j < 77 → (w.cell? ⟨B, j, none⟩).isSome = true ∧ w.frozen? ⟨B, j, none⟩ = false := fun j hj => by
    by_cases e : j < 76
    · rw [h.cells j e]; exact ⟨rfl, h.frozen j e⟩
    · obtain rfl : j = 76 := by omega
      rw [hc]; exact ⟨rfl, hf⟩
  have := run_storeCells_cells (P := Try.prog) B 0 (acv g b') 0 w (fun j hj => by have := (h1 j (by rw [acv_len] at hj; exact hj)).1; simpa using this) (fun j hj => by have := (h1 j (by rw [acv_len] at hj; exact hj)).2; simpa using this) (acv_one g b')
  simpa using this
theorem AccO.stored {w : World} {B : Nat} {f g : Nat → Nat} {b : Bool} {o : Option Int} (h : Wds w B f) (hc : w.cell? ⟨B, 76, none⟩ = some (.bool b)) (hf : w.frozen? ⟨B, 76, none⟩ = false) (hlt : ∀ j, j < 76 → g j < 18446744073709551616)
    (hz : ∀ z, o = some z → Tc g z ∧ -((2 ^ 4800 : Nat) : Int) < z ∧ z < ((2 ^ 4800 : Nat) : Int)) (htop : ∀ j, 77 ≤ j → w.cell? ⟨B, j, none⟩ = none) : AccO (w.setCells B 0 (acv g o.isNone)) B o := by
  have h1 : ∀ j, j < 77 → (w.cell? ⟨B, j, none⟩).isSome = true ∧ w.frozen? ⟨B, j, none⟩ = false := fun j hj => by
    by_cases e : j < 76
    · rw [h.cells j e]; exact ⟨rfl, h.frozen j e⟩
    · obtain rfl : j = 76 := by omega
      rw [hc]; exact ⟨rfl, hf⟩
  exact AccO.of_range (World.rangeAt_setCells_same _ _ _ _ (by rw [acv_len]; intro j hj; rw [Nat.zero_add]; exact h1 j hj)) (fun j hj => by rw [World.frozen?_setCells]; exact (h1 j hj).2) hlt hz (fun j hj => by rw [World.cell?_setCells_out _ _ _ _ _ (fun _ _ => .inr (by rw [acv_len]; show 0 + 77 ≤ j; omega))]; exact htop j hj)
/-- A new block with such cells. -/
theorem acc_new {w : World} {f : Nat → Nat} {o : Option Int} (hlt : ∀ j, j < 76 → f j < 18446744073709551616) (hz : ∀ z, o = some z → Tc f z ∧ -((2 ^ 4800 : Nat) : Int) < z ∧ z < ((2 ^ 4800 : Nat) : Int)) (C : Array Value) (hC : C = (acv f o.isNone).toArray) (t : TypeId) : AccO (w.alloc (.cells C t)) w.heap.size o := by
  subst hC
  refine AccO.of_range (fun j v hv => ?_) (fun j hj => World.frozen?_alloc_new _ _ _ _) hlt hz (fun j hj => by rw [cell_of_row _ _ _ _ _ _ (heap_alloc_new w _), List.getElem?_toArray, List.getElem?_eq_none (by rw [acv_len]; omega)])
  rw [Nat.zero_add, cell_of_row _ _ _ _ _ _ (heap_alloc_new w _), List.getElem?_toArray]
  exact hv
theorem AccO.fresh (w : World) (C : Array Value) (t : TypeId) (hC : C = (acv (fun _ => 0) false).toArray) : AccO (w.alloc (.cells C t)) w.heap.size (some 0) :=
  acc_new (f := fun _ => 0) (o := some 0) (fun _ _ => by omega) (fun z hz => by cases hz; exact ⟨Tc.zero, by have := pow4800; omega, pow4800⟩) C hC t
theorem acc_bad (w : World) (C : Array Value) (t : TypeId) (hC : C = (acv (fun _ => 0) true).toArray) : AccO (w.alloc (.cells C t)) w.heap.size none :=
  acc_new (f := fun _ => 0) (o := none) (fun _ _ => by omega) (fun z hz => by cases hz) C hC t
set_option maxRecDepth 100000 in
theorem new_any (w : World) : Calls Try.prog 6 #[] w fun e w' => e = .returned (.pointer (some ⟨w.heap.size, 0, none⟩)) ∧ AccO w' w.heap.size (some 0) ∧ Below w.heap.size w w' ∧ w'.heap.size = w.heap.size + 1 := by
  go_enter Try.func6, Try.ntmps6
  go_wp2_with fail
  go_ret
  exact ⟨rfl, AccO.fresh w _ _ rfl, (Below.refl _ w).alloc (Nat.le_refl _) _, by simp⟩
set_option maxRecDepth 100000 in
theorem bad_any (B : Nat) (o : Option Int) (w : World) (h : AccO w B o) : Calls Try.prog 15 #[.pointer (some ⟨B, 0, none⟩)] w fun e w' => e = .returned (.bool o.isNone) ∧ w' = w := by
  have g0 := h.cell
  clear h
  cases o
  all_goals
    go_enter Try.func15, Try.ntmps15
    go_wp2_with fail
    go_ret
    exact ⟨rfl, rfl⟩
set_option maxRecDepth 100000 in
theorem bad_nil (w : World) : Calls Try.prog 15 #[.pointer none] w fun e w' => e = .returned (.bool true) ∧ w' = w := by
  go_enter Try.func15, Try.ntmps15
  go_wp2_with fail
  go_ret
  exact ⟨rfl, rfl⟩
set_option maxRecDepth 100000 in
theorem spoil_any (B : Nat) (f : Nat → Nat) (b : Bool) (w : World) (h : Wds w B f) (hc : w.cell? ⟨B, 76, none⟩ = some (.bool b)) (hf : w.frozen? ⟨B, 76, none⟩ = false) (ht : ∀ j, 77 ≤ j → w.cell? ⟨B, j, none⟩ = none) : Calls Try.prog 40 #[.pointer (some ⟨B, 0, none⟩)] w fun e w' => e = .returned (.tuple #[]) ∧ AccO w' B none ∧ Chg B w w' := by
  have HW : Hid _ := h
  have HC : Hid _ := And.intro hc hf
  have HTP : Hid (∀ j, 77 ≤ j → w.cell? ⟨B, j, none⟩ = none) := ht
  clear h hc hf ht
  go_enter Try.func40, Try.ntmps40
  have hst := store_acv HW.out HC.out.1 HC.out.2 (fun _ => 0) true
  rw [← spoil_cells] at hst
  have HS : Hid (AccO (w.setCells B 0 (Try.zeroCells64.toList.set 76 (.bool true))) B none ∧ Chg B w (w.setCells B 0 (Try.zeroCells64.toList.set 76 (.bool true)))) := by
    rw [spoil_cells]
    exact ⟨AccO.stored (o := none) HW.out HC.out.1 HC.out.2 (fun _ _ => by omega) (fun z hz => by cases hz) HTP.out, (Chg.refl B w).setCells _ 0⟩
  generalize w.setCells B 0 (Try.zeroCells64.toList.set 76 (.bool true)) = w2 at hst HS
  go_wp2_with fail
  go_end0
  exact ⟨rfl, HS.out.1, HS.out.2⟩
theorem AccO.words {w : World} {B : Nat} {o : Option Int} (h : AccO w B o) : ∃ f b, Wds w B f ∧ w.cell? ⟨B, 76, none⟩ = some (.bool b) ∧ w.frozen? ⟨B, 76, none⟩ = false ∧ ∀ j, 77 ≤ j → w.cell? ⟨B, j, none⟩ = none := by
  obtain ⟨f, h1, h2⟩ := h.ex
  exact ⟨f, _, h1, h.cell, h.froz, h.top⟩
set_option maxRecDepth 100000 in
/-- Settle: what is too great is bad. -/
theorem settle_any (B : Nat) (f : Nat → Nat) (z : Int) (w : World) (h : Wds w B f) (hz : Tc f z) (hc : w.cell? ⟨B, 76, none⟩ = some (.bool false)) (hf : w.frozen? ⟨B, 76, none⟩ = false) (ht : ∀ j, 77 ≤ j → w.cell? ⟨B, j, none⟩ = none) : Calls Try.prog 42 #[.pointer (some ⟨B, 0, none⟩)] w fun e w' => e = .returned (.tuple #[]) ∧ AccO w' B (holdZ z) ∧ Chg B w w' := by
  have HW : Hid _ := h
  have HC : Hid _ := And.intro hc hf
  have HZ : Hid _ := hz
  have HTP : Hid (∀ j, 77 ≤ j → w.cell? ⟨B, j, none⟩ = none) := ht
  clear h hc hf hz ht
  by_cases hh : -((2 ^ 4800 : Nat) : Int) < z ∧ z < ((2 ^ 4800 : Nat) : Int)
  · have HH : Hid (holdZ z = some z) := if_pos hh
    have HA : Hid (AccO w B (some z)) := ⟨⟨f, HW.out, fun y hy => by cases hy; exact ⟨HZ.out, hh⟩⟩, HC.out.1, HC.out.2, HTP.out⟩
    have HX : Hid _ := hh
    clear hh
    go_enter Try.func42, Try.ntmps42
    go_wp2_with fail
    refine (held_any B f z _ HW.out HZ.out true ⟨fun _ => HX.out, fun _ => rfl⟩).mono ?_
    rintro e w1 ⟨rfl, rfl⟩
    go_wp2_with fail
    go_end0
    exact ⟨rfl, by rw [HH.out]; exact HA.out, Chg.refl _ _⟩
  · have HH : Hid (holdZ z = none) := if_neg hh
    have HX : Hid _ := hh
    clear hh
    go_enter Try.func42, Try.ntmps42
    go_wp2_with fail
    refine (held_any B f z _ HW.out HZ.out false ⟨fun c => by simp at c, fun c => absurd c HX.out⟩).mono ?_
    rintro e w1 ⟨rfl, rfl⟩
    go_wp2_with fail
    refine (spoil_any B f false _ HW.out HC.out.1 HC.out.2 HTP.out).mono ?_
    rintro e w2 ⟨rfl, h1, h2⟩
    have H1 : Hid _ := And.intro h1 h2
    clear h1 h2
    go_wp2_with fail
    go_end0
    exact ⟨rfl, by rw [HH.out]; exact H1.out.1, H1.out.2⟩
end Go.Proofs.Ytkbafeghlfajhaa
