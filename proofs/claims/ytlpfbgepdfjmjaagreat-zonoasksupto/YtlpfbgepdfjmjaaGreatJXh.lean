import Derived.Test.YtlpfbgepdfjmjaaGreatJXg
import Derived.Test.YtlpfbgepdfjmjaaGreatJYk
import Derived.Test.YtlpfbgepdfjmjaaGreatPur
namespace Go.Proofs.YtlpfbgepdfjmjaaGreat
open Go.RowKit Go.Shelf
set_option linter.unusedVariables false
set_option linter.unusedSimpArgs false

/-- What the program tells of a coordinate is the span of the reals that the document says. -/
theorem AroR.spR {z : ZD} {i : Nat} {r : Nat × Nat × Bool} (h : FnZ z) (hi : i < z.rn) (hpos : 0 ≤ fval (z.rs[i]?.getD 0)) (hb : AroR (z.cs[i]?.getD 0) (farZ z i) r) : SpR (fval (z.cs[i]?.getD 0) - reA z i) (fval (z.cs[i]?.getD 0) + reA z i) 1 r := by
  obtain ⟨a, ha⟩ : ∃ a : Nat, a = 1166 := ⟨_, rfl⟩
  obtain ⟨F, hF⟩ : ∃ F : Nat, F = 2098 := ⟨_, rfl⟩
  obtain ⟨E, hE⟩ : ∃ E : Nat, E = 2140 := ⟨_, rfl⟩
  have hg := great_bound hF hE
  have hsm := sum_bound h i hF
  have h1 := fval_ltJ (h.r i) hF
  have h2 := fval_ltJ (h.c i) hF
  rw [← fval_absJ] at h1 h2
  have hrep : 0 ≤ reA z i := by unfold reA; omega
  have hrel : (reA z i).natAbs ≤ 1050001 * 2 ^ F := by unfold reA; generalize 2 ^ F = X at *; omega
  obtain ⟨lo, low, hi', high, k1, k2, k3⟩ := hb
  rw [farZ_is ha h hi, one1_is ha (h.c i)] at k1 k2
  rw [joinO_back ha hE (by generalize 2 ^ F = X at *; generalize 2 ^ E = Y at *; omega)] at k1
  rw [joinO_step ha hE (by generalize 2 ^ F = X at *; generalize 2 ^ E = Y at *; omega)] at k2
  have k1 := RndO.some_iff ha k1
  have k2 := RndO.some_iff ha k2
  have hD := Nat.two_pow_pos a
  have c1 := rz_canon k1
  have c2 := rz_canon k2
  have hle : (fval (z.cs[i]?.getD 0) - reA z i) * ((2 ^ a : Nat) : Int) ≤ (fval (z.cs[i]?.getD 0) + reA z i) * ((2 ^ a : Nat) : Int) := Int.mul_le_mul_of_nonneg_right (by omega) (Int.natCast_nonneg _)
  have ord := rz_order hD k1 k2 hle
  refine ⟨(lo, low), (hi', high), RndZ.of_ratio k1 (by omega) (by rw [Int.natCast_one, Int.mul_one]), RndZ.of_ratio k2 (by omega) (by rw [Int.natCast_one, Int.mul_one]), ?_⟩
  rw [k3]
  unfold spOf
  cases hl : low with
  | false => simp
  | true =>
    cases hh : high with
    | false => simp
    | true =>
      have hgood : Good lo hi' false := ⟨rfl, c1.1, c2.1, ord hl hh⟩
      simp only [Bool.and_self, if_true, and_self]
      unfold makeS
      rw [if_pos hgood, canon_plainM c1.2.2, canon_plainM c2.2.2]
/-- What the program's Support tells is the document's. -/
theorem SupR.doc {z u : ZD} {ds : List Nat} {s r : Nat} {ok is : Bool} (h : SupR z ds s ok) (k : SupD u ds r is) (hw : (!z.bad && wholeB z) = true) (hf : WhF z) (gz : z.gs.length = z.dn) (m : SmZ u z) : r = s ∧ is = ok := by
  have e := m.N
  have hg : (!u.bad && wholeB u) = true := by rw [good_eq m.bad (checkB_eq u z m.N m.bad m.cs m.rs m.ids m.gs m.cn m.dn m.gn m.rn)]; exact hw
  rcases h.is with ⟨h1, h2⟩ | ⟨h1, rfl, rfl⟩
  · rcases k.is with ⟨_, _, k3⟩ | ⟨k1, _, _⟩
    · obtain ⟨n1, n2⟩ := numN_fin h1
      have hl : ds.length = z.rn := by rw [hf.N] at n1; omega
      obtain ⟨a, ha⟩ : ∃ a : Nat, a = 92 := ⟨_, rfl⟩
      obtain ⟨b, hb⟩ : ∃ b : Nat, b = 1166 := ⟨_, rfl⟩
      obtain ⟨c, hc⟩ : ∃ c : Nat, c = 1074 := ⟨_, rfl⟩
      rw [supO_gen ha hf.fin gz (fin_getD n2) hl hf.rl hf.n2] at h2
      have q1 := RndO.some_iff hb h2
      have q2 := k3 c hc
      rw [m.cs, m.rs, m.gs, m.rn] at q2
      have q3 := RndZ.rescale q2 (2 ^ a) (Nat.two_pow_pos a)
      rw [← Nat.pow_add, show c + a = b by omega] at q3
      have q4 := RndZ.uniq q3 q1
      simp only [Prod.mk.injEq] at q4
      exact q4
    · rcases k1 with k1 | k1
      · rw [hg] at k1; cases k1
      · rw [e, h1] at k1; cases k1
  · rcases k.is with ⟨_, k2, _⟩ | ⟨_, rfl, rfl⟩
    · rw [e, h1] at k2; cases k2
    · exact ⟨rfl, rfl⟩
set_option maxRecDepth 100000 in
set_option maxHeartbeats 2000000 in
theorem sameSpans_any (ga n base : Nat) (v : Value) (w : World) (R R' : Nat → Nat × Nat × Bool → Prop) (ha : SpL w ga n n R) (hb : OwnSp w base v n R') (hs : ∀ j, j < n → ∀ r r', R j r → R' j r' → r = r') (hn : 1 ≤ n ∧ n ≤ 256) :
    Calls Tryz.prog 11 #[.slice (some ⟨ga, 0, none⟩) n n, v] w fun e w' => e = .returned (.bool true) ∧ Below w.heap.size w w' := by
  obtain ⟨xs, ho, hx⟩ := hb.ex
  obtain ⟨ao, cap, rfl, hm, hc⟩ : ∃ ao cap, v = .slice ao n cap ∧ n ≤ maxLen ∧ ∃ g, ao = some ⟨g, 0, none⟩ ∧ ∀ j, j < n * 3 → w.cell? ⟨g, j, none⟩ = xs[j]? := by
    have hs := ho
    rcases ho.2 with ⟨_, h0⟩ | ⟨g, cap, cur, rfl, _, _, h1, h2, _⟩
    · omega
    · exact ⟨_, cap, rfl, Nat.le_trans h1 h2, g, rfl, fun j hj => World.ownsRow.cellAt hs j (by omega)⟩
  obtain ⟨gb, rfl, hcell⟩ := hc
  obtain ⟨arr, ha1, ha2, ha3⟩ := ha.ex
  have HC : Hid (∀ k, k < n → ∃ lo hi bd, w.rangeAt ga (k * 3) #[.float .f64 lo, .float .f64 hi, .bool bd].toList ∧ w.rangeAt gb (k * 3) #[.int .u64 (lo : Int), .int .u64 (hi : Int), .bool bd].toList) := fun k hk => by
    obtain ⟨r, r0, r1, r2, r3⟩ := ha3 k hk
    obtain ⟨r', q0, q1, q2, q3⟩ := hx k hk
    have e := hs k hk r r' r0 q0
    subst e
    exact ⟨r.1, r.2.1, r.2.2, range3 (cellAtJ ha1 _ _ r1) (cellAtJ ha1 _ _ r2) (cellAtJ ha1 _ _ r3), range3 ((hcell _ (by omega)).trans q1) ((hcell _ (by omega)).trans q2) ((hcell _ (by omega)).trans q3)⟩
  have hne : ((n : Int) != (n : Int)) = false := by simp
  clear ha1 ha2 ha3 hcell hx hs ho ha hb hm
  go_enter Tryz.func11, Tryz.ntmps11
  go_wp2_with fail
  go_loopg [5] n (fun q v5 wx => ∃ (k : Nat), v5 = .int .i64 k ∧ k + q = n ∧ Hid (Below w.heap.size w wx))
  case atStart => exact ⟨0, rfl, by omega, Below.refl _ _⟩
  case round =>
    obtain ⟨k, rfl, hk, HQ⟩ := hrel
    by_cases h1 : k < n
    · have hd1 : decide ((k : Int) < (n : Int)) = true := decide_eq_true (by omega)
      obtain ⟨q, rfl⟩ : ∃ q, gk = q + 1 := ⟨gk - 1, by omega⟩
      have HIG : Hid _ := hk
      clear hk
      go_upto_region 6 with fail
      obtain ⟨lo, hi, bd, r1, r2⟩ := HC.out k h1
      have QD : Below w.heap.size w wr.drew := HQ.out.drew
      have SX : (fun V => V.rangeAt ga (k * 3) #[.float .f64 lo, .float .f64 hi, .bool bd].toList ∧ V.rangeAt gb (k * 3) #[.int .u64 (lo : Int), .int .u64 (hi : Int), .bool bd].toList) wr.drew := ⟨range_later r1 QD, range_later r2 QD⟩
      have hk0 : (k : Int) < (n : Int) := by omega
      clear r1 r2 hd1
      refine wp_region_noPanic ?_
      refine wp_region_held_drew (S := (fun V => V.rangeAt ga (k * 3) #[.float .f64 lo, .float .f64 hi, .bool bd].toList ∧ V.rangeAt gb (k * 3) #[.int .u64 (lo : Int), .int .u64 (hi : Int), .bool bd].toList)) (by kernel_rfl) SX (fun _ => ?_)
      refine takeH 17 (i := 0) (v := ?_) rfl rfl (by kernel_rfl) (by kernel_rfl) (by kernel_rfl) (fun _ _ _ h => h) (Or.inl ⟨by kernel_rfl, ?_⟩) SX ?_
      rotate_left
      · intro w' hSw; go_simp; try with_reducible rfl
      try simp only [Act.put, List.setIfInBounds_toArray, List.set_cons_zero, List.set_cons_succ]
      refine takeH 18 (i := 1) (v := ?_) rfl rfl (by kernel_rfl) (by kernel_rfl) (by kernel_rfl) (fun _ _ _ h => h) (Or.inl ⟨by kernel_rfl, ?_⟩) SX ?_
      rotate_left
      · intro w' hSw; go_simp; try with_reducible rfl
      try simp only [Act.put, List.setIfInBounds_toArray, List.set_cons_zero, List.set_cons_succ]
      refine takeH 19 (i := 2) (v := ?_) rfl rfl (by kernel_rfl) (by kernel_rfl) (by kernel_rfl) (fun _ _ _ h => h) (Or.inl ⟨by kernel_rfl, ?_⟩) SX ?_
      rotate_left
      · intro w' hSw; go_simp; try with_reducible rfl
      try simp only [Act.put, List.setIfInBounds_toArray, List.set_cons_zero, List.set_cons_succ]
      refine takeH 20 (i := 3) (v := .agg #[.float .f64 lo, .float .f64 hi, .bool bd]) rfl rfl (by kernel_rfl) (by kernel_rfl) (by kernel_rfl) (fun _ _ _ h => h) (yieldsIf_load_mid (by kernel_rfl) 57 _ rfl ga (k * 3) (by kernel_rfl) #[.float .f64 lo, .float .f64 hi, .bool bd].toList _ (fun _ hS => hS.1) Tryz.underlying57 rfl (by kernel_rfl)) SX ?_
      try simp only [Act.put, List.setIfInBounds_toArray, List.set_cons_zero, List.set_cons_succ]
      refine takeH 21 (i := 4) (v := ?_) rfl rfl (by kernel_rfl) (by kernel_rfl) (by kernel_rfl) (fun _ _ _ h => h) (Or.inl ⟨by kernel_rfl, ?_⟩) SX ?_
      rotate_left
      · intro w' hSw; go_simp; try with_reducible rfl
      try simp only [Act.put, List.setIfInBounds_toArray, List.set_cons_zero, List.set_cons_succ]
      refine takeH 22 (i := 5) (v := ?_) rfl rfl (by kernel_rfl) (by kernel_rfl) (by kernel_rfl) (fun _ _ _ h => h) (Or.inl ⟨by kernel_rfl, ?_⟩) SX ?_
      rotate_left
      · intro w' hSw; go_simp; try with_reducible rfl
      try simp only [Act.put, List.setIfInBounds_toArray, List.set_cons_zero, List.set_cons_succ]
      refine takeH 23 (i := 6) (v := ?_) rfl rfl (by kernel_rfl) (by kernel_rfl) (by kernel_rfl) (fun _ _ _ h => h) (Or.inl ⟨by kernel_rfl, ?_⟩) SX ?_
      rotate_left
      · intro w' hSw; go_simp; try with_reducible rfl
      try simp only [Act.put, List.setIfInBounds_toArray, List.set_cons_zero, List.set_cons_succ]
      refine takeH 24 (i := 7) (v := .agg #[.int .u64 (lo : Int), .int .u64 (hi : Int), .bool bd]) rfl rfl (by kernel_rfl) (by kernel_rfl) (by kernel_rfl) (fun _ _ _ h => h) (yieldsIf_load_mid (by kernel_rfl) 84 _ rfl gb (k * 3) (by kernel_rfl) #[.int .u64 (lo : Int), .int .u64 (hi : Int), .bool bd].toList _ (fun _ hS => hS.2) Tryz.underlying84 rfl (by kernel_rfl)) SX ?_
      try simp only [Act.put, List.setIfInBounds_toArray, List.set_cons_zero, List.set_cons_succ]
      refine wpAnyH_ready (rs := [8]) (by kernel_rfl) (by simp) ?_
      refine consH _ rfl (hopCd 25 rfl (by kernel_rfl) rfl (by kernel_rfl) (Calls.mono (sameRef_any lo hi bd _) ?_)) AllReadyH.nil
      rintro e V1 ⟨rfl, b1⟩
      have SX : (fun V => V.rangeAt ga (k * 3) #[.float .f64 lo, .float .f64 hi, .bool bd].toList ∧ V.rangeAt gb (k * 3) #[.int .u64 (lo : Int), .int .u64 (hi : Int), .bool bd].toList) V1 := ⟨range_later SX.1 b1, range_later SX.2 b1⟩
      have Q1 : Below w.heap.size w V1 := to_call QD b1
      refine ⟨_, rfl, SX, ?_⟩
      try simp only [Act.put, List.setIfInBounds_toArray, List.set_cons_zero, List.set_cons_succ]
      refine takeH 26 (i := 9) (v := ?_) rfl rfl (by kernel_rfl) (by kernel_rfl) (by kernel_rfl) (fun _ _ _ h => h) (Or.inl ⟨by kernel_rfl, ?_⟩) SX ?_
      rotate_left
      · intro w' hSw; go_simp; try with_reducible rfl
      try simp only [Act.put, List.setIfInBounds_toArray, List.set_cons_zero, List.set_cons_succ]
      refine wpAnyH_done (by kernel_rfl) ?_ _
      refine NoPanic.normal ?_
      try simp only [Act.put, List.setIfInBounds_toArray, List.set_cons_zero, List.set_cons_succ]
      go_wp2_with fail
      go_roundg q
      case measure => omega
      case rel => exact ⟨k + 1, by go_num, by have := HIG.out; omega, Q1⟩
    · have hd1 : decide ((k : Int) < (n : Int)) = false := decide_eq_false (by omega)
      have hd2 : decide (k < n) = false := decide_eq_false h1
      go_wp2_with fail
      go_ret
      exact ⟨rfl, HQ.out⟩
set_option maxRecDepth 100000 in
theorem sameSpans_nil (w : World) : Calls Tryz.prog 11 #[.slice none 0 0, .slice none 0 0] w fun e w' => e = .returned (.bool true) ∧ Below w.heap.size w w' := by
  go_enter Tryz.func11, Tryz.ntmps11
  go_wp2_with fail
  go_loopg [5] 0 (fun q v5 wx => v5 = .int .i64 0 ∧ wx = w)
  case atStart => exact ⟨rfl, rfl⟩
  case round =>
    obtain ⟨rfl, rfl⟩ := hrel
    go_wp2_with fail
    go_ret
    exact ⟨rfl, Below.refl _ _⟩
end Go.Proofs.YtlpfbgepdfjmjaaGreat
