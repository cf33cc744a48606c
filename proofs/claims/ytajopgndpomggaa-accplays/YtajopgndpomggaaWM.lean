import Derived.Test.YtajopgndpomggaaWL
namespace Go.Proofs.Ytajopgndpomggaa
open Go.RowKit
set_option linter.unusedVariables false

theorem rdF_new (w : World) (us : List Nat) (C : Array Value) (t : TypeId) (n : Nat) (hn : us.length = n) (hm : n ≤ 1000000) (hC : C = (us.map (Value.float .f64)).toArray) (hu : ∀ u ∈ us, u < 18446744073709551616) : RdF (w.alloc (.cells C t)) (some ⟨w.heap.size, 0, none⟩) n n us := by
  subst hC
  refine ⟨hn, hm, hu, .inr ⟨_, _, rfl, fun j hj => ?_⟩⟩
  rw [Nat.zero_add, cell_of_row _ _ _ _ _ _ (heap_alloc_new w _), List.getElem?_toArray, List.getElem?_map, List.getElem?_eq_getElem (by omega)]
  rfl
def begunZ : Int := 3 * ((2 ^ 2237 : Nat) : Int)
def begunS : Int := 9007199254740994 * ((2 ^ 2240 : Nat) : Int)
theorem begun_prod : prodO (some 0) 4613937818241073152 4598175219545276416 (-1) = some begunZ := by decide +kernel
theorem begun_sum : sumO (some 0) [4845873199050653696, 4607182418800017408, 4607182418800017408] = some begunS := by decide +kernel
theorem begun_sgn : sgi begunZ = 1 := by decide +kernel
theorem begun_z {a : Nat} (ha : a = 1166) : begunZ = fval 4600427019358961664 * ((2 ^ a : Nat) : Int) := by subst ha; decide +kernel
theorem begun_s {a : Nat} (ha : a = 1166) : begunS = fval 4845873199050653697 * ((2 ^ a : Nat) : Int) := by subst ha; decide +kernel
/-- A number's own real is told as the number. -/
theorem rndO_exact {d : Int} {x : Nat} {z : Int} {u : Nat} {b : Bool} (hx : x < 18446744073709551616) (hf : Fin x) (hd : d = 0 ∨ d = 1 ∨ d = 2) (hz : ∀ a, a = 1166 → z = fval x * ((2 ^ a : Nat) : Int)) (h : RndO d (some z) u b) : u = plainM x ∧ b = true := by
  obtain ⟨a, ha⟩ : ∃ a : Nat, a = 1166 := ⟨_, rfl⟩
  have h1 := h a ha
  rw [hz a ha] at h1
  have := canon_rnd hx hf (Nat.two_pow_pos a) hd h1
  exact ⟨congrArg Prod.fst this, congrArg Prod.snd this⟩
theorem begun_round {u : Nat} {b : Bool} (h : RndO 0 (some begunZ) u b) : u = 4600427019358961664 ∧ b = true := by
  have := rndO_exact (x := 4600427019358961664) (by decide) (by decide) (.inl rfl) (fun a ha => begun_z ha) h
  exact ⟨this.1.trans (by decide), this.2⟩
theorem begun_round2 {u : Nat} {b : Bool} (h : RndO 0 (some begunS) u b) : u = 4845873199050653697 ∧ b = true := by
  have := rndO_exact (x := 4845873199050653697) (by decide) (by decide) (.inl rfl) (fun a ha => begun_s ha) h
  exact ⟨this.1.trans (by decide), this.2⟩
set_option maxRecDepth 100000 in
set_option maxHeartbeats 1000000 in
theorem begun_any (w : World) : Calls Try.prog 5 #[] w fun e w' => e = .returned (.bool true) ∧ Below w.heap.size w w' := by
  have o1 : (FloatKind.f64.format.order 4600427019358961664 4600427019358961664 == some .eq) = true := by decide
  have o2 : (FloatKind.f64.format.order 4845873199050653697 4845873199050653697 == some .eq) = true := by decide
  go_enter Try.func5, Try.ntmps5
  go_wp2_with fail
  refine (new_any _).mono ?_
  rintro e w1 ⟨rfl, h1, h2, h3⟩
  have H1 : Hid _ := h1
  have H2 : Hid _ := h2
  clear h1 h2 h3
  go_wp2_with fail
  refine (accProd_any w.heap.size (some 0) 4613937818241073152 4598175219545276416 (-1) (by omega) (by omega) _ H1.out).mono ?_
  rintro e w2 ⟨rfl, h1, h2⟩
  rw [begun_prod] at h1
  have H3 : Hid _ := h1
  have H4 : Hid (Below w.heap.size w w2) := H2.out.trans h2.below
  clear h1 h2 H1 H2
  go_wp2_with fail
  refine (accRound_any 0 w.heap.size _ _ H3.out).mono ?_
  rintro e w3 ⟨u, b, rfl, h1, h2⟩
  obtain ⟨rfl, rfl⟩ := begun_round h1
  have H5 : Hid (AccO w3 w.heap.size (some begunZ)) := H3.out.below h2 H3.out.block
  have H6 : Hid (Below w.heap.size w w3) := H4.out.trans (h2.mono H4.out.size)
  clear h1 h2 H3 H4
  go_wp2_with fail
  have hrd := rdF_new w3 [4845873199050653696, 4607182418800017408, 4607182418800017408] #[Value.float FloatKind.f64 4845873199050653696, Value.float FloatKind.f64 4607182418800017408, Value.float FloatKind.f64 4607182418800017408] 45 3 rfl (by omega) rfl (by decide)
  have H7 : Hid (Below w.heap.size w (w3.alloc (.cells #[Value.float FloatKind.f64 4845873199050653696, Value.float FloatKind.f64 4607182418800017408, Value.float FloatKind.f64 4607182418800017408] 45))) := H6.out.alloc H6.out.size _
  have H8 : Hid _ := H5.out.below ((Below.refl _ w3).alloc (Nat.le_refl _) (.cells #[Value.float FloatKind.f64 4845873199050653696, Value.float FloatKind.f64 4607182418800017408, Value.float FloatKind.f64 4607182418800017408] 45)) H5.out.block
  refine (sum_any 0 _ 3 3 _ _ hrd).mono ?_
  rintro e w4 ⟨u, b, rfl, h1, h2⟩
  rw [begun_sum] at h1
  obtain ⟨rfl, rfl⟩ := begun_round2 h1
  have H9 : Hid (AccO w4 w.heap.size (some begunZ)) := H8.out.below h2 H8.out.block
  have H10 : Hid (Below w.heap.size w w4) := H7.out.trans (h2.mono H7.out.size)
  have hsg : signO (some begunZ) = 1 := begun_sgn
  clear h1 h2 hrd H5 H6 H7 H8
  go_wp2_with fail
  refine (accSign_any w.heap.size _ _ H9.out).mono ?_
  rintro e w5 ⟨rfl, rfl⟩
  go_wp2_with fail
  go_ret
  exact ⟨rfl, H10.out⟩
/-- The sum of the products of two lists, as an Acc. -/
def dotO (o : Option Int) (us vs : List Nat) : Option Int := (us.zip vs).foldl (fun o p => prodO o p.1 p.2 0) o
theorem dotO_snoc (o : Option Int) (us vs : List Nat) {k : Nat} (h : k < us.length) (h' : k < vs.length) : dotO o (us.take (k + 1)) (vs.take (k + 1)) = prodO (dotO o (us.take k) (vs.take k)) (us[k]?.getD 0) (vs[k]?.getD 0) 0 := by
  unfold dotO
  rw [take_snocD h, take_snocD h', List.zip_append (by simp; omega), List.foldl_append]; rfl
def dotP (len blen : Nat) (us vs : List Nat) : Option Int := if len = blen then dotO (some 0) us vs else none
end Go.Proofs.Ytajopgndpomggaa
