import Derived.Test.YtbeaggmiefpgoaaWL
namespace Go.Proofs.Ytbeaggmiefpgoaa
open Go.RowKit
set_option linter.unusedVariables false

theorem rdF_new (w : World) (us : List Nat) (C : Array Value) (t : TypeId) (n : Nat) (hn : us.length = n) (hm : n ≤ 1000000) (hC : C = (us.map (Value.float .f64)).toArray) (hu : ∀ u ∈ us, u < 18446744073709551616) : RdF (w.alloc (.cells C t)) (some ⟨w.heap.size, 0, none⟩) n n us := by
  subst hC
  refine ⟨hn, hm, hu, .inr ⟨_, _, rfl, fun j hj => ?_⟩⟩
  rw [Nat.zero_add, cell_of_row _ _ _ _ _ _ (heap_alloc_new w _), List.getElem?_toArray, List.getElem?_map, List.getElem?_eq_getElem (by omega)]
  rfl
def begunZ : Int := 3 * ((2 ^ 2237 : Nat) : Int)
def begunS : Int := 9007199254740994 * ((2 ^ 2240 : Nat) : Int)
theorem begun_prod : prodO (some 0) 4613937818241073152 4598175219545276416 (-1) = some begunZ := by decide +kernel
theorem begun_sum : sumO (some 0) [4845873199050653696, 4607182418800017408, 4607182418800017408] = some begunS := by decide +kernel
theorem begun_sgn : sgi begunZ = 1 := by decide +kernel
theorem begun_z {a : Nat} (ha : a = 1166) : begunZ = fval 4600427019358961664 * ((2 ^ a : Nat) : Int) := by subst ha; decide +kernel
theorem begun_s {a : Nat} (ha : a = 1166) : begunS = fval 4845873199050653697 * ((2 ^ a : Nat) : Int) := by subst ha; decide +kernel
/-- A number's own real is told as the number. -/
theorem rndO_exact {d : Int} {x : Nat} {z : Int} {u : Nat} {b : Bool} (hx : x < 18446744073709551616) (hf : Fin x) (hd : d = 0 ∨ d = 1 ∨ d = 2) (hz : ∀ a, a = 1166 → z = fval x * ((2 ^ a : Nat) : Int)) (h : RndO d (some z) u b) : u = plainM x ∧ b = true := by
  obtain ⟨a, ha⟩ : ∃ a : Nat, a = 1166 := ⟨_, rfl⟩
  have h1 := h a ha
  rw [hz a ha] at h1
  have := canon_rnd hx hf (Nat.two_pow_pos a) hd h1
  exact ⟨congrArg Prod.fst this, congrArg Prod.snd this⟩
theorem begun_round {u : Nat} {b : Bool} (h : RndO 0 (some begunZ) u b) : u = 4600427019358961664 ∧ b = true := by
  have := rndO_exact (x := 4600427019358961664) (by decide) (by decide) (.inl rfl) (fun a ha => begun_z ha) h
  exact ⟨this.1.trans (by decide), this.2⟩
theorem begun_round2 {u : Nat} {b : Bool} (h : RndO 0 (some begunS) u b) : u = 4845873199050653697 ∧ b = true := by
  have := rndO_exact (x := 4845873199050653697) (by decide) (by decide) (.inl rfl) (fun a ha => begun_s ha) h
  exact ⟨this.1.trans (by decide), this.2⟩
set_option maxRecDepth 100000 in
set_option maxHeartbeats 1000000 in
theorem begun_any (w : World) : Calls Try.prog 9 #[] w fun e w' => e = .returned (.bool true) ∧ Below w.heap.size w w' := by
  have o1 : (FloatKind.f64.format.order 4600427019358961664 4600427019358961664 == some .eq) = true := by decide
  have o2 : (FloatKind.f64.format.order 4845873199050653697 4845873199050653697 == some .eq) = true := by decide
  go_enter Try.func9, Try.ntmps9
  go_wp2_with fail
  refine (new_any _).mono ?_
  rintro e w1 ⟨rfl, h1, h2, h3⟩
  have H1 : Hid _ := h1
  have H2 : Hid _ := h2
  clear h1 h2 h3
  go_wp2_with fail
  refine (accProd_any w.heap.size (some 0) 4613937818241073152 4598175219545276416 (-1) (by omega) (by omega) _ H1.out).mono ?_
  rintro e w2 ⟨rfl, h1, h2⟩
  rw [begun_prod] at h1
  have H3 : Hid _ := h1
  have H4 : Hid (Below w.heap.size w w2) := H2.out.trans h2.below
  clear h1 h2 H1 H2
  go_wp2_with fail
  refine (accRound_any 0 w.heap.size _ _ H3.out).mono ?_
  rintro e w3 ⟨u, b, rfl, h1, h2⟩
  obtain ⟨rfl, rfl⟩ := begun_round h1
  have H5 : Hid (AccO w3 w.heap.size (some begunZ)) := H3.out.below h2 H3.out.block
  have H6 : Hid (Below w.heap.size w w3) := H4.out.trans (h2.mono H4.out.size)
  clear h1 h2 H3 H4
  go_wp2_with fail
  have hrd := rdF_new w3 [4845873199050653696, 4607182418800017408, 4607182418800017408] #[Value.float FloatKind.f64 4845873199050653696, Value.float FloatKind.f64 4607182418800017408, Value.float FloatKind.f64 4607182418800017408] 44 3 rfl (by omega) rfl (by decide)
  have H7 : Hid (Below w.heap.size w (w3.alloc (.cells #[Value.float FloatKind.f64 4845873199050653696, Value.float FloatKind.f64 4607182418800017408, Value.float FloatKind.f64 4607182418800017408] 44))) := H6.out.alloc H6.out.size _
  have H8 : Hid _ := H5.out.below ((Below.refl _ w3).alloc (Nat.le_refl _) (.cells #[Value.float FloatKind.f64 4845873199050653696, Value.float FloatKind.f64 4607182418800017408, Value.float FloatKind.f64 4607182418800017408] 44)) H5.out.block
  refine (sum_any 0 _ 3 3 _ _ hrd).mono ?_
  rintro e w4 ⟨u, b, rfl, h1, h2⟩
  rw [begun_sum] at h1
  obtain ⟨rfl, rfl⟩ := begun_round2 h1
  have H9 : Hid (AccO w4 w.heap.size (some begunZ)) := H8.out.below h2 H8.out.block
  have H10 : Hid (Below w.heap.size w w4) := H7.out.trans (h2.mono H7.out.size)
  have hsg : signO (some begunZ) = 1 := begun_sgn
  clear h1 h2 hrd H5 H6 H7 H8
  go_wp2_with fail
  refine (accSign_any w.heap.size _ _ H9.out).mono ?_
  rintro e w5 ⟨rfl, rfl⟩
  go_wp2_with fail
  go_ret
  exact ⟨rfl, H10.out⟩
/-- The sum of the products of two lists, as an Acc. -/
def dotO (o : Option Int) (us vs : List Nat) : Option Int := (us.zip vs).foldl (fun o p => prodO o p.1 p.2 0) o
theorem dotO_snoc (o : Option Int) (us vs : List Nat) {k : Nat} (h : k < us.length) (h' : k < vs.length) : dotO o (us.take (k + 1)) (vs.take (k + 1)) = prodO (dotO o (us.take k) (vs.take k)) (us[k]?.getD 0) (vs[k]?.getD 0) 0 := by
  unfold dotO
  rw [take_snocD h, take_snocD h', List.zip_append (by simp; omega), List.foldl_append]; rfl
def dotP (len blen : Nat) (us vs : List Nat) : Option Int := if len = blen then dotO (some 0) us vs else none
set_option maxRecDepth 100000 in
set_option maxHeartbeats 1000000 in
theorem dot_any (d : Int) (ao bo : Option Addr) (len cap blen bcap : Nat) (us vs : List Nat) (w : World) (h : RdF w ao len cap us) (h' : RdF w bo blen bcap vs) :
    Calls Try.prog 16 #[.int .i64 d, .slice ao len cap, .slice bo blen bcap] w fun e w' => ∃ u b, e = .returned (.tuple #[.float .f64 u, .bool b]) ∧ RndO d (dotP len blen us vs) u b ∧ Below w.heap.size w w' := by
  have HR : Hid _ := h
  have HQ : Hid _ := h'
  have hmx := h.max
  clear h h'
  by_cases hne : len = blen
  · subst hne
    have HI : Hid (∀ u b, RndO d (dotO (some 0) us vs) u b → RndO d (dotP len len us vs) u b) := fun u b h => by unfold dotP; rw [if_pos rfl]; exact h
    go_enter Try.func16, Try.ntmps16
    go_wp2_with fail
    refine (new_any _).mono ?_
    rintro e w1 ⟨rfl, h1, h2, h3⟩
    have H1 : Hid _ := h1
    have H2 : Hid _ := h2
    clear h1 h2 h3
    go_wp2_with fail
    go_loopw [18] (fun iv wr => ∃ k : Nat, k ≤ len ∧ iv = .int .i64 k ∧ Hid (AccO wr w.heap.size (dotO (some 0) (us.take k) (vs.take k))) ∧ Hid (Below w.heap.size w wr)) (fun iv _ => len - (intOf iv).toNat)
    case atStart => exact ⟨0, by omega, rfl, H1, H2⟩
    case round =>
      obtain ⟨k, hk, rfl, K1, K2⟩ := hrel
      by_cases hlt : k < len
      · have hd : decide ((k : Int) < (len : Int)) = true := decide_eq_true (by omega)
        have hr := HR.out.later K2.out
        have hq := HQ.out.later K2.out
        rcases hr.cells with h0 | ⟨b, off, rfl, hc⟩
        · omega
        · rcases hq.cells with h0 | ⟨b', off', rfl, hc'⟩
          · omega
          · have g0 := hc k hlt
            have g1 := hc' k hlt
            have hb0 := World.block_lt_of_cell? wr _ g0
            have hul := HR.out.lt _ (getD_mem (us := us) (j := k) (by rw [HR.out.length]; exact hlt))
            have hvl := HQ.out.lt _ (getD_mem (us := vs) (j := k) (by rw [HQ.out.length]; exact hlt))
            have HSN : Hid _ := dotO_snoc (some 0) us vs (k := k) (by rw [HR.out.length]; exact hlt) (by rw [HQ.out.length]; exact hlt)
            have HC0 : Hid _ := HR.out.cells
            obtain ⟨u, hu⟩ : ∃ u, us[k]?.getD 0 = u := ⟨_, rfl⟩
            obtain ⟨v, hv⟩ : ∃ v, vs[k]?.getD 0 = v := ⟨_, rfl⟩
            rw [hu, hv] at HSN
            rw [hu] at g0 hul
            rw [hv] at g1 hvl
            have i0 : (0 : Int) ≤ (k : Int) := by omega
            have i1 : (k : Int) < (len : Int) := by omega
            have HG : Hid (∀ w3, Chg w.heap.size wr w3 → w3.cell? ⟨b, off + k, none⟩ = some (.float .f64 u) ∧ w3.cell? ⟨b', off' + k, none⟩ = some (.float .f64 v)) := by
              intro w3 hc3
              have b1 : b < w.heap.size := by
                rcases HR.out.cells with h0 | ⟨b2, off2, e2, hc2⟩
                · omega
                · cases e2; exact World.block_lt_of_cell? w _ (hc2 k hlt)
              have b2 : b' < w.heap.size := by
                rcases HQ.out.cells with h0 | ⟨b2, off2, e2, hc2⟩
                · omega
                · cases e2; exact World.block_lt_of_cell? w _ (hc2 k hlt)
              exact ⟨by rw [hc3.below.cell (p := ⟨b, off + k, none⟩) b1]; exact g0, by rw [hc3.below.cell (p := ⟨b', off' + k, none⟩) b2]; exact g1⟩
            clear hr hq hc hc' hu hv HC0 hb0
            go_wp2_with fail
            go_region_held3 (fun w' => w'.cell? ⟨b, off + k, none⟩ = some (.float .f64 u) ∧ w'.cell? ⟨b', off' + k, none⟩ = some (.float .f64 v)) (go_keep) ((go_at_call 41; refine (accProd_any w.heap.size _ u v 0 hul hvl _ K1.out.drew).mono ?_; rintro e w3 ⟨rfl, a1, a2⟩; obtain ⟨q1, q2⟩ := HG.out w3 ((Chg.refl _ _).drew.trans a2)))
            have K1' : Hid (AccO w3 w.heap.size (dotO (some 0) (us.take (k + 1)) (vs.take (k + 1)))) := by unfold Hid; rw [HSN.out]; exact a1
            have K2' : Hid (Below w.heap.size w w3) := K2.out.trans ((Chg.refl _ _).drew.trans a2).below
            clear a1 a2 g0 g1 q1 q2
            go_wp2_with fail
            go_roundw
            case rel => exact ⟨k + 1, by omega, by go_num, K1', K2'⟩
            case measure => simp [intOf]; omega
      · have hkl : k = len := by omega
        have hd : decide ((k : Int) < (len : Int)) = false := decide_eq_false (by omega)
        have K1' : Hid (AccO wr w.heap.size (dotO (some 0) us vs)) := by
          have := K1.out
          rw [hkl] at this
          have e1 : us.take len = us := by rw [← HR.out.length, List.take_length]
          have e2 : vs.take len = vs := by rw [← HQ.out.length, List.take_length]
          rw [e1, e2] at this
          exact this
        clear hkl
        go_wp2_with fail
        refine (accRound_any d w.heap.size _ _ K1'.out).mono ?_
        rintro e w3 ⟨u, b, rfl, r1, r2⟩
        have R1 : Hid _ := r1
        have R2 : Hid (Below w.heap.size w w3) := K2.out.trans (r2.mono K2.out.size)
        clear r1 r2
        go_wp2_with fail
        go_ret2
        exact ⟨u, b, rfl, HI.out u b R1.out, R2.out⟩
  · have hnb : ((len : Int) != (blen : Int)) = true := by simp; omega
    have HI : Hid (RndO d (dotP len blen us vs) 0 false) := by unfold Hid dotP; rw [if_neg hne]; exact ⟨rfl, rfl⟩
    clear hne
    go_enter Try.func16, Try.ntmps16
    go_wp2_with fail
    go_ret2
    exact ⟨0, false, rfl, HI.out, Below.refl _ _⟩
end Go.Proofs.Ytbeaggmiefpgoaa
