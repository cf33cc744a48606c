import Derived.Test.YtkbafeghlfajhaaWF
namespace Go.Proofs.Ytkbafeghlfajhaa
open Go.RowKit
set_option linter.unusedVariables false

/-- The words as a value. -/
def wda (f : Nat → Nat) : List Value := (List.range 76).map (fun j => .int .u64 (f j : Nat))
theorem wda_len (f : Nat → Nat) : (wda f).length = 76 := by unfold wda; simp
theorem wda_at {f : Nat → Nat} {j : Nat} {v : Value} (h : (wda f)[j]? = some v) : j < 76 ∧ v = .int .u64 (f j : Nat) := by
  unfold wda at h
  rw [List.getElem?_map, Option.map_eq_some_iff] at h
  obtain ⟨a, h1, h2⟩ := h
  rw [List.getElem?_eq_some_iff] at h1
  obtain ⟨h1, h3⟩ := h1
  rw [List.getElem_range] at h3
  subst h3
  exact ⟨by simpa using h1, h2.symm⟩
theorem wda_get (f : Nat → Nat) {j : Nat} (h : j < 76) : (wda f)[j]? = some (.int .u64 (f j : Nat)) := by
  unfold wda; simp [h]
theorem wda_one (f : Nat → Nat) : ∀ v ∈ wda f, v.oneCell' = true := by
  intro v hv
  unfold wda at hv
  obtain ⟨j, _, rfl⟩ := List.mem_map.1 hv
  rfl
theorem Wds.range {w : World} {B : Nat} {f : Nat → Nat} (h : Wds w B f) : w.rangeAt B 0 (wda f) := fun j v hv => by
  obtain ⟨h1, rfl⟩ := wda_at hv
  rw [Nat.zero_add]; exact h.cells j h1
theorem Wds.there {w : World} {B : Nat} {f : Nat → Nat} (h : Wds w B f) : w.there B 0 76 := fun j hj => by
  rw [Nat.zero_add, h.cells j hj]; exact ⟨rfl, h.frozen j hj⟩
theorem Wds.of_range {w : World} {B : Nat} {f : Nat → Nat} (h : w.rangeAt B 0 (wda f)) (hfr : ∀ j, j < 76 → w.frozen? ⟨B, j, none⟩ = false) (hlt : ∀ j, j < 76 → f j < 18446744073709551616) : Wds w B f :=
  ⟨fun j hj => by have := h j _ (wda_get f hj); rwa [Nat.zero_add] at this, hfr, hlt⟩
theorem zero_wda : Try.zeroCells62 = (wda (fun _ => 0)).toArray := by rfl
theorem Wds.new (w : World) : Wds (w.alloc (.cells Try.zeroCells62 62)) w.heap.size (fun _ => 0) := by
  refine ⟨fun j hj => ?_, fun j hj => World.frozen?_alloc_new _ _ _ _, fun j hj => by omega⟩
  rw [cell_of_row _ _ _ _ _ _ (heap_alloc_new w _), zero_wda, List.getElem?_toArray]
  exact wda_get _ hj
theorem Wds.below {w w' : World} {B N : Nat} {f : Nat → Nat} (h : Wds w B f) (hb : Below N w w') (hB : B < N) : Wds w' B f :=
  ⟨fun j hj => by rw [hb.cell (p := ⟨B, j, none⟩) hB]; exact h.cells j hj, fun j hj => by rw [hb.frozen (p := ⟨B, j, none⟩) hB]; exact h.frozen j hj, h.lt⟩
theorem Wds.block {w : World} {B : Nat} {f : Nat → Nat} (h : Wds w B f) : B < w.heap.size := World.block_lt_of_cell? w _ (h.cells 0 (by omega))
theorem Wds.alloc {w : World} {B : Nat} {f : Nat → Nat} (h : Wds w B f) (o : Obj) : Wds (w.alloc o) B f := h.below ((Below.refl _ w).alloc (Nat.le_refl _) o) h.block
theorem heap_setCells_other (b : Nat) : ∀ (vs : List Value) (o : Nat) (w : World) (k : Nat), k ≠ b → (w.setCells b o vs).heap[k]? = w.heap[k]?
  | [], _, _, _, _ => rfl
  | v :: r, o, w, k, h => by rw [World.setCells, heap_setCells_other b r (o + 1) _ k h, heap_setCell_other _ _ _ _ h]
theorem Below.setCells {N : Nat} {a : World} {b : Nat} (hb : N ≤ b) : ∀ (vs : List Value) (o : Nat) (w : World), Below N a w → Below N a (w.setCells b o vs)
  | [], _, _, h => h
  | v :: r, o, w, h => by rw [World.setCells]; exact Below.setCells hb r (o + 1) _ (h.setCell (p := ⟨b, o, none⟩) hb v)
theorem Wds.stored {w : World} {B : Nat} {f g : Nat → Nat} (h : Wds w B f) (hg : ∀ j, j < 76 → g j < 18446744073709551616) : Wds (w.setCells B 0 (wda g)) B g :=
  Wds.of_range (World.rangeAt_setCells_same _ _ _ _ (by rw [wda_len]; exact h.there)) (fun j hj => by rw [World.frozen?_setCells]; exact h.frozen j hj) hg
theorem size_words : (Try.prog.info? 62).map (·.size) = some 76 := by kernel_rfl
theorem size_wda (f : Nat → Nat) : (Try.prog.info? 62).map (·.size) = some (wda f).length := by rw [wda_len]; exact size_words
theorem size_wda' (f : Nat → Nat) : (Try.prog.info? 62).map (·.size) = some (wda f).toArray.size := by rw [List.size_toArray, wda_len]; exact size_words
theorem store_words {w : World} {B : Nat} {f : Nat → Nat} (h : Wds w B f) (g : Nat → Nat) : (storeCells ⟨B, 0, none⟩ (wda g)).run Try.prog w = .ok () (w.setCells B 0 (wda g)) := by
  have := run_storeCells_cells (P := Try.prog) B 0 (wda g) 0 w (fun j hj => by have := h.there j (by rw [wda_len] at hj; exact hj); simpa using this.1) (fun j hj => by have := h.there j (by rw [wda_len] at hj; exact hj); simpa using this.2) (wda_one g)
  simpa using this
/-- Join, by what the words stand for. -/
theorem join_tc (B C : Nat) (f g : Nat → Nat) (x y : Int) (neg : Bool) (w : World) (hf : Wds w B f) (hg : Wds w C g) (tf : Tc f x) (tg : Tc g y) (r : Int) (hr : r = x + (if neg then -y else y)) (h1 : -((2 ^ 4863 : Nat) : Int) ≤ r) (h2 : r < ((2 ^ 4863 : Nat) : Int)) :
    Calls Try.prog 41 #[.pointer (some ⟨B, 0, none⟩), .pointer (some ⟨C, 0, none⟩), .bool neg] w fun e w' => e = .returned (.tuple #[]) ∧ ∃ h, Wds w' B h ∧ Mut B w w' ∧ Tc h r := by
  refine (join_any B C f g neg w hf hg).mono ?_
  rintro e w' ⟨rfl, h, c, k1, k2, k3⟩
  refine ⟨rfl, h, k1, k2, ?_⟩
  rw [show 64 * 76 = 4864 by omega] at k3
  refine Tc.sum (y := if neg then -y else y) tf ?_ k1.lt k3 hr h1 h2
  have e := tg.eq
  cases neg
  · simp only [flp, Bool.false_eq_true, if_false, Bool.toNat_false]
    have : (fun j => g j) = g := rfl
    rw [this]
    omega
  · simp only [flp, if_true, Bool.toNat_true]
    have hfl := wv_flip hg.lt
    rw [show 64 * 76 = 4864 by omega] at hfl
    have hlo := tg.lo
    have hhi := tg.hi
    have hl := wv_lt hg.lt
    rw [show 64 * 76 = 4864 by omega] at hl
    generalize wv (fun j => 18446744073709551615 - g j) 76 = G' at *
    generalize wv g 76 = G at *
    rw [pow_half] at *
    generalize 2 ^ 4863 = L at *
    omega
theorem load_words {w : World} {B : Nat} {f : Nat → Nat} (h : Wds w B f) : (loadVar 62 ⟨B, 0, none⟩).run Try.prog w = .ok (.agg (wda f).toArray) w := run_loadVar_mid w B 0 _ _ _ h.range Try.underlying62 rfl (size_wda f)
theorem res_words (f : Func) (i : Nat) (hf : f.results = #[ResultVar.cell i 62]) (tmps : Array Value) (W : World) (B : Nat) (g : Nat → Nat) (hp : tmps[i]? = some (.pointer (some ⟨B, 0, none⟩))) (h : Wds W B g) :
    (results f tmps).run Try.prog W = .ok (.agg (wda g).toArray) W := by
  have hl := load_words h
  simp [results, hf, hp, hl, asAddr]
theorem res_words2 (f : Func) (i j : Nat) (hf : f.results = #[ResultVar.cell i 62, ResultVar.tmp j]) (tmps : Array Value) (W : World) (B : Nat) (g : Nat → Nat) (u : Value) (hp : tmps[i]? = some (.pointer (some ⟨B, 0, none⟩))) (hq : tmps[j]? = some u) (h : Wds W B g) :
    (results f tmps).run Try.prog W = .ok (.tuple #[.agg (wda g).toArray, u]) W := by
  have hl := load_words h
  simp [results, hf, hp, hq, hl, asAddr]
set_option maxRecDepth 100000 in
set_option maxHeartbeats 1000000 in
theorem turnedW_any (B : Nat) (f : Nat → Nat) (z : Int) (w : World) (hf : Wds w B f) (hz : Tc f z) (hlo : -((2 ^ 4863 : Nat) : Int) < z) :
    Calls Try.prog 61 #[.pointer (some ⟨B, 0, none⟩)] w fun e w' => ∃ h, e = .returned (.agg (wda h).toArray) ∧ Tc h (-z) ∧ Below w.heap.size w w' := by
  have HF : Hid _ := hf
  have HZ : Hid _ := hz
  have tz : Tc (fun _ => 0) 0 := ⟨fun _ _ => by omega, by omega, by have := Nat.two_pow_pos 4863; omega, .inl (by rw [wv_const_zero]; rfl)⟩
  have HT : Hid _ := tz
  have HB : Hid (-((2 ^ 4863 : Nat) : Int) ≤ -z ∧ -z < ((2 ^ 4863 : Nat) : Int)) := by unfold Hid; have := hz.hi; omega
  clear hf hz tz hlo
  go_enter Try.func61, Try.ntmps61
  go_wp2_with fail
  have HW0 : Hid _ := (HF.out.alloc (.cells Try.zeroCells62 62)).alloc (.cells Try.zeroCells62 62)
  have HR : Hid _ := (Wds.new w).alloc (.cells Try.zeroCells62 62)
  have HV := Wds.new (w.alloc (.cells Try.zeroCells62 62))
  rw [show (w.alloc (.cells Try.zeroCells62 62)).heap.size = w.heap.size + 1 by simp] at HV
  refine (join_tc (w.heap.size + 1) B _ f 0 z true _ HV HW0.out HT.out HZ.out (-z) (by simp) HB.out.1 HB.out.2).mono ?_
  rintro e w1 ⟨rfl, h, k1, k2, k3⟩
  have K1 : Hid _ := k1
  have HR1 : Hid (Wds w1 w.heap.size (fun _ => 0)) := HR.out.below k2.below (by omega)
  have HBL : Hid (Below w.heap.size w w1) := (((Below.refl _ w).alloc (Nat.le_refl _) _).alloc (by simp) _).trans (k2.below.mono (by omega))
  have K3 : Hid _ := k3
  clear k1 k2 k3 HV HR HW0
  have hst := store_words HR1.out h
  have W2 : Hid _ := HR1.out.stored (g := h) K1.out.lt
  have B2 : Hid _ := Below.setCells (Nat.le_refl _) (wda h) 0 _ HBL.out
  go_wp2_with (first | (refine wpList_load_mid (by rfl) _ _ (by rfl) (w.heap.size + 1) 0 (by rfl) (wda h) _ K1.out.range Try.underlying62 rfl (size_wda h) ?_))
  refine bodyPost_ret (v := .agg (wda h).toArray) (res_words _ 2 (by kernel_rfl) _ _ w.heap.size h (by rfl) W2.out) rfl ⟨h, rfl, K3.out, B2.out⟩
/-- The words' whole number, where the sign is none. -/
theorem Tc.nonneg {f : Nat → Nat} {z : Int} (h : Tc f z) (hz : 0 ≤ z) : (wv f 76 : Int) = z := by
  have e := h.eq
  have h1 := h.hi
  have h3 := wv_lt h.lt
  rw [show 64 * 76 = 4864 by omega] at h3
  generalize 2 ^ 4864 = L at *
  omega
set_option maxRecDepth 100000 in
set_option maxHeartbeats 1000000 in
theorem size_words_any (B : Nat) (f : Nat → Nat) (z : Int) (w : World) (hf : Wds w B f) (hz : Tc f z) (hlo : -((2 ^ 4863 : Nat) : Int) < z) :
    Calls Try.prog 45 #[.pointer (some ⟨B, 0, none⟩)] w fun e w' => ∃ h, e = .returned (.tuple #[.agg (wda h).toArray, .bool (decide (z < 0))]) ∧ (∀ j, j < 76 → h j < 18446744073709551616) ∧ wv h 76 = z.natAbs ∧ Tc h (z.natAbs : Int) ∧ Below w.heap.size w w' := by
  have HF : Hid _ := hf
  have HZ : Hid _ := hz
  have HLO : Hid _ := hlo
  clear hf hz hlo
  go_enter Try.func45, Try.ntmps45
  go_wp2_with fail
  have HV := HF.out.alloc (.cells Try.zeroCells62 62)
  have HN := Wds.new w
  refine (signW_any B f z _ HV HZ.out).mono ?_
  rintro e w1 ⟨rfl, rfl⟩
  have HV' : Hid _ := HV
  have HBL : Hid (Below w.heap.size w (w.alloc (.cells Try.zeroCells62 62))) := (Below.refl _ w).alloc (Nat.le_refl _) _
  have HN' : Hid _ := HN
  clear HV HN
  by_cases h0 : z < 0
  · have hs : sgi z = -1 := by unfold sgi; rw [if_pos h0]
    have HD : Hid (decide (z < 0) = true) := decide_eq_true h0
    have HA : Hid ((z.natAbs : Int) = -z) := by unfold Hid; omega
    clear h0
    go_wp2_with fail
    refine (turnedW_any B f z _ HV'.out HZ.out HLO.out).mono ?_
    rintro e w1 ⟨h, rfl, ht, hb⟩
    have K : Hid _ := ht
    have hb' := hb
    have hsz : (w.alloc (Obj.cells Try.zeroCells62 62)).heap.size = w.heap.size + 1 := by simp
    rw [hsz] at hb'
    have HR1 : Hid _ := HN'.out.below hb' (by omega)
    have hst := store_words HR1.out h
    have W2 : Hid _ := HR1.out.stored (g := h) ht.lt
    have B2 : Hid _ := Below.setCells (Nat.le_refl _) (wda h) 0 _ (HBL.out.trans (hb'.mono (by omega)))
    clear ht hb hb' hsz
    go_wp2_with fail
    refine bodyPost_ret (v := .tuple #[.agg (wda h).toArray, .bool true]) (res_words2 _ 2 3 (by kernel_rfl) _ _ w.heap.size h _ (by rfl) (by rfl) W2.out) rfl ⟨h, by rw [HD.out], K.out.lt, ?_, by rw [HA.out]; exact K.out, B2.out⟩
    have := K.out.nonneg (by have := HA.out; omega)
    have := HA.out
    omega
  · have hs : decide (sgi z < 0) = false := decide_eq_false (by unfold sgi; split <;> (try split) <;> omega)
    have HD : Hid (decide (z < 0) = false) := decide_eq_false h0
    have HA : Hid ((z.natAbs : Int) = z) := by unfold Hid; omega
    have hst := store_words HN'.out f
    have W2 : Hid _ := HN'.out.stored (g := f) HF.out.lt
    have B2 : Hid _ := Below.setCells (Nat.le_refl _) (wda f) 0 _ HBL.out
    clear h0
    go_wp2_with (first | (refine wpList_load_mid (by rfl) _ _ (by rfl) B 0 (by rfl) (wda f) _ HV'.out.range Try.underlying62 rfl (size_wda f) ?_))
    refine bodyPost_ret (v := .tuple #[.agg (wda f).toArray, .bool false]) (res_words2 _ 2 3 (by kernel_rfl) _ _ w.heap.size f _ (by rfl) (by rfl) W2.out) rfl ⟨f, by rw [HD.out], HF.out.lt, ?_, by rw [HA.out]; exact HZ.out, B2.out⟩
    have := HZ.out.nonneg (by have := HA.out; omega)
    have := HA.out
    omega
end Go.Proofs.Ytkbafeghlfajhaa
