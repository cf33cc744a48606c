import Derived.Test.YtfepcpkfbnpbjaaGreatJXq
namespace Go.Proofs.YtfepcpkfbnpbjaaGreat
open Go.RowKit Go.Shelf
set_option linter.unusedVariables false
set_option linter.unusedSimpArgs false

/-- A list of the document's reals: those of the numbers zs, in units of 2^-s. -/
structure RowZ (w : World) (base : Nat) (v : Value) (s : Nat) (T : Int) (zs : List Int) : Prop where
  own : ∃ xs, w.ownsRow base 50 3 v zs.length xs ∧ ∀ j, j < zs.length → ∃ n o l c e, xs[j * 3]? = some (.bool n) ∧ xs[j * 3 + 1]? = some (.slice o l c) ∧ xs[j * 3 + 2]? = some (.int .i64 e) ∧ NumC w (.agg #[.bool n, .slice o l c, .int .i64 e]) s T (zs[j]?.getD 0)
  cl : ∀ g, v.ownBlock = some g → Cl noU w g
theorem RowZ.nil (w : World) (base s : Nat) (T : Int) : RowZ w base (.slice none 0 0) s T [] := ⟨⟨[], World.ownsRow_nil _ _ _ _, fun j hj => absurd hj (Nat.not_lt_zero _)⟩, fun g hg => by cases hg⟩
theorem RowZ.later {w w' : World} {base s : Nat} {T : Int} {v : Value} {zs : List Int} (h : RowZ w base v s T zs) (hb : Below w.heap.size w w') : RowZ w' base v s T zs := by
  obtain ⟨xs, h1, h2⟩ := h.own
  exact ⟨⟨xs, owns_keep h1 fun k hk => hb.block k (World.ownsRow.lt h1 k hk).2, fun j hj => by obtain ⟨n, o, l, c, e, a1, a2, a3, a4⟩ := h2 j hj; exact ⟨n, o, l, c, e, a1, a2, a3, a4.later hb⟩⟩, fun g hg => (h.cl g hg).later hb⟩
/-- One more real. -/
theorem RowZ.push {w w' : World} {base s : Nat} {T z : Int} {v v' : Value} {zs : List Int} {n : Bool} {o : Option Addr} {l c : Nat} {e : Int} {xs : List Value} (hx : w.ownsRow base 50 3 v zs.length xs) (h2 : ∀ j, j < zs.length → ∃ n o l c e, xs[j * 3]? = some (.bool n) ∧ xs[j * 3 + 1]? = some (.slice o l c) ∧ xs[j * 3 + 2]? = some (.int .i64 e) ∧ NumC w (.agg #[.bool n, .slice o l c, .int .i64 e]) s T (zs[j]?.getD 0))
    (hcl : ∀ g, v.ownBlock = some g → Cl noU w g) (hn : NumC w (.agg #[.bool n, .slice o l c, .int .i64 e]) s T z) (ho : w'.ownsRow base 50 3 v' (zs.length + 1) (xs ++ [.bool n, .slice o l c, .int .i64 e])) (hg : Grw w w' v.ownBlock v'.ownBlock) (hcl' : ∀ g, v'.ownBlock = some g → Cl noU w' g) : RowZ w' base v' s T (zs ++ [z]) := by
  have keep : ∀ (y : Value) (z : Int), NumC w y s T z → NumC w' y s T z := fun y z hy => hy.grw hg hcl
  have hl : xs.length = zs.length * 3 := hx.1
  refine ⟨⟨_, by simpa using ho, fun j hj => ?_⟩, hcl'⟩
  by_cases ej : j < zs.length
  · obtain ⟨n1, o1, l1, c1, e1, a1, a2, a3, a4⟩ := h2 j ej
    refine ⟨n1, o1, l1, c1, e1, ?_, ?_, ?_, ?_⟩
    · rw [List.getElem?_append_left (by omega)]; exact a1
    · rw [List.getElem?_append_left (by omega)]; exact a2
    · rw [List.getElem?_append_left (by omega)]; exact a3
    · rw [List.getElem?_append_left ej]; exact keep _ _ a4
  · have e2 : j = zs.length := by simp at hj; omega
    subst e2
    refine ⟨n, o, l, c, e, ?_, ?_, ?_, ?_⟩
    · rw [List.getElem?_append_right (by omega), hl, Nat.sub_self]; rfl
    · rw [List.getElem?_append_right (by omega), hl, show zs.length * 3 + 1 - zs.length * 3 = 1 by omega]; rfl
    · rw [List.getElem?_append_right (by omega), hl, show zs.length * 3 + 2 - zs.length * 3 = 2 by omega]; rfl
    · rw [List.getElem?_append_right (Nat.le_refl _), Nat.sub_self]; exact keep _ _ hn
theorem RowZ.range {w : World} {base s : Nat} {T : Int} {v : Value} {zs : List Int} (h : RowZ w base v s T zs) {k : Nat} (hk : k < zs.length) : ∃ b cap n o l c e, v = .slice (some ⟨b, 0, none⟩) zs.length cap ∧ w.rangeAt b (k * 3) [.bool n, .slice o l c, .int .i64 e] ∧ NumC w (.agg #[.bool n, .slice o l c, .int .i64 e]) s T (zs[k]?.getD 0) := by
  obtain ⟨xs, h1, h2⟩ := h.own
  obtain ⟨n, o, l, c, e, a1, a2, a3, a4⟩ := h2 k hk
  have h1' := h1
  rcases h1.2 with ⟨_, h0⟩ | ⟨g, cap, cur, rfl, _⟩
  · omega
  · refine ⟨g, cap, n, o, l, c, e, rfl, range3 ?_ ?_ ?_, a4⟩
    · rw [World.ownsRow.cellAt h1' (k * 3) (by omega)]; exact a1
    · rw [World.ownsRow.cellAt h1' (k * 3 + 1) (by omega)]; exact a2
    · rw [World.ownsRow.cellAt h1' (k * 3 + 2) (by omega)]; exact a3
theorem RowZ.form {w : World} {base s : Nat} {T : Int} {v : Value} {zs : List Int} (h : RowZ w base v s T zs) : ∃ ao cap, v = .slice ao zs.length cap := by
  obtain ⟨xs, h1, h2⟩ := h.own
  rcases h1.2 with ⟨rfl, h0⟩ | ⟨g, cap, cur, rfl, _⟩
  · exact ⟨none, 0, by rw [h0]⟩
  · exact ⟨_, cap, rfl⟩
theorem NumC.moreJ {w : World} {v : Value} {s : Nat} {T z : Int} (h : NumC w v s T z) (k : Nat) : NumC w v (s + k) T (z * ((2 ^ k : Nat) : Int)) := by
  obtain ⟨neg, m, e, h1, h2, h3, h4, h5⟩ := h
  exact ⟨neg, m, e, h1, by omega, h3, by rw [zv_more k neg m h2, h4], h5⟩
set_option maxRecDepth 100000 in
set_option maxHeartbeats 3000000 in
/-- The law's parts: n values from -1 to 1. -/
theorem partsJ_any (lo : Option Addr) (ll lc : Nat) (is : List Int) (f n : Nat) (b : Int) (E : Nat) (hE : E = 1074) (w : World) (h : RdIs w lo ll lc is) (hll : ll ≤ 1050000) (hf : f ≤ 1050000) (hn : n ≤ 1050000) (hb : -9223372036854775808 ≤ b ∧ b < 9223372036854775808) :
    Calls Tryz.prog 11 #[.slice lo ll lc, .int .i64 (f : Int), .int .i64 (n : Int), .int .i64 b] w fun e w' => ∃ v zs, e = .returned v ∧ RowZ w' w.heap.size v E 1024 zs ∧ zs.length = n ∧ (∀ z ∈ zs, z.natAbs ≤ 2 ^ E) ∧ Below w.heap.size w w' := by
  have HPT : Hid (∀ W' (k : Nat), Below w.heap.size w W' → k ≤ 4000000 → _) := fun W' k hb' hk => part_any lo ll lc is k b E hE W' (h.later hb') hll hk hb
  clear h hE
  go_enter Tryz.func11, Tryz.ntmps11
  go_wp2_with fail
  go_loopg [9, 10] n (fun g v iv wx => ∃ (k : Nat) (zs : List Int), iv = .int .i64 k ∧ k + g = n ∧ zs.length = k ∧ Hid (RowZ wx w.heap.size v E 1024 zs) ∧ Hid (∀ z ∈ zs, z.natAbs ≤ 2 ^ E) ∧ Hid (Below w.heap.size w wx))
  case atStart => exact ⟨0, [], rfl, by omega, rfl, RowZ.nil _ _ _ _, (fun z hz => by cases hz), Below.refl _ _⟩
  case round =>
    obtain ⟨k, zs, rfl, hk, hzl, HO, HA, HB⟩ := hrel
    have hsr := HB.out.size
    by_cases hlt : k < n
    · have hd : decide ((k : Int) < (n : Int)) = true := decide_eq_true (by omega)
      obtain ⟨g, rfl⟩ : ∃ g, gk = g + 1 := ⟨gk - 1, by omega⟩
      have HIG : Hid _ := hk
      have HZL : Hid _ := hzl
      clear hk hzl
      have HP2 : Hid _ := HPT.out wr (f + k) HB.out (by omega)
      have hfk : ((f + k : Nat) : Int) = (f : Int) + (k : Int) := Int.natCast_add f k
      rw [hfk] at HP2
      clear hfk
      go_upto_region 5 with fail
      go_wp2_with (first
        | (go_at_call 39; refine Calls.mono HP2.out ?_; rintro e w1 ⟨v1, z1, rfl, hz1, ha1, b1⟩; obtain ⟨n1, o1, l1, c1, e1, hv1⟩ := hz1.form; subst hv1; have N1 : Hid (NumC w1 _ E 1024 z1) := hz1; have HA1 : Hid _ := ha1; have B1 : Hid (Below wr.heap.size wr w1) := b1; have s1 := b1.size; clear hz1 ha1 b1; obtain ⟨xs, hxo, hxj⟩ := (HO.out.later B1.out).own; have HXJ : Hid _ := hxj; rw [HZL.out] at hxo; have HX2 : Hid _ := hxo; clear hxo hxj; have HC2 : Hid (∀ g, u9.ownBlock = some g → Cl noU (w1.alloc (.cells #[.bool n1, .slice o1 l1 c1, .int .i64 e1] 50)) g) := fun g hg => ((HO.out.cl g hg).later B1.out).later ((Below.refl _ w1).alloc (Nat.le_refl _) _))
        | (at_builtin; refine append_clJ noU Tryz.underlying27 Tryz.infoNumJ rfl (by decide) (by decide) zero_noU _ (by rfl) _ _ (by rfl) w.heap.size _ k xs (by rfl) (World.ownsRow.alloc HX2.out _) HC2.out ⟨w1.heap.size, 0, none⟩ 1 1 [.bool n1, .slice o1 l1 c1, .int .i64 e1] (by rfl) (by decide) rfl (news_threeJ (heap_alloc_new w1 _)) (three_one n1 o1 l1 c1 e1) (three_noU n1 o1 l1 c1 e1) (by omega) (by simp only [alloc_size]; omega) ?_; intro v5 w5 o5 g5 cl5))
      have A1 : Below w1.heap.size w1 (w1.alloc (.cells #[.bool n1, .slice o1 l1 c1, .int .i64 e1] 50)) := (Below.refl _ w1).alloc (Nat.le_refl _) _
      have R5 : Hid (RowZ w5 w.heap.size v5 E 1024 (zs ++ [z1])) := by
        refine RowZ.push (xs := xs) (by rw [HZL.out]; exact World.ownsRow.alloc HX2.out _) (fun j hj => ?_) HC2.out (NumC.later (show NumC _ _ _ _ _ from N1.out) A1) (by rw [HZL.out]; exact o5) g5 cl5
        obtain ⟨n2, o2, l2, c2, e2, a1, a2, a3, a4⟩ := HXJ.out j hj
        exact ⟨n2, o2, l2, c2, e2, a1, a2, a3, a4.later A1⟩
      have B5 : Hid (Below w.heap.size w w5) := (to_call (to_call HB.out B1.out) A1).trans (g5.below (fun k hk => (World.ownsRow.lt HX2.out k hk).1) (by simp only [alloc_size]; omega))
      have HA5 : Hid (∀ z ∈ zs ++ [z1], z.natAbs ≤ 2 ^ E) := by
        intro z hz
        rcases List.mem_append.1 hz with h | h
        · exact HA.out z h
        · rw [List.mem_singleton.1 h]; exact HA1.out
      clear o5 g5 cl5 A1 HC2 HX2 HXJ
      go_wp2_with fail
      go_roundg g
      case measure => omega
      case rel => exact ⟨k + 1, zs ++ [z1], by go_num, by have := HIG.out; omega, by rw [List.length_append, HZL.out]; rfl, R5, HA5, B5⟩
    · have hd : decide ((k : Int) < (n : Int)) = false := decide_eq_false (by omega)
      have hkn : k = n := by omega
      have HZN : Hid (zs.length = n) := by rw [← hkn]; exact hzl
      clear hk hzl hkn
      go_wp2_with fail
      go_ret
      exact ⟨_, zs, rfl, HO.out, HZN.out, HA.out, HB.out⟩
end Go.Proofs.YtfepcpkfbnpbjaaGreat
