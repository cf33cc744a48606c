import Derived.Test.YtgjdmenmegnacaaOB
namespace Go.Proofs.Ytgjdmenmegnacaa
open Go.RowKit
set_option linter.unusedVariables false

theorem Own4.later {w w' : World} {base g n : Nat} {xs : List Nat} (h : Own4 w base g n xs) (hb : Below w.heap.size w w') : Own4 w' base g n xs := by
  refine ⟨h.1, h.2.1, ?_⟩
  rcases h.2.2 with h2 | ⟨g2, cap2, cur, hv, hg, hh, r⟩
  · exact .inl h2
  · exact .inr ⟨g2, cap2, cur, hv, hg, by rw [hb.block g2 (Array.getElem?_eq_some_iff.1 hh).1]; exact hh, r⟩
theorem Own4.lt {w : World} {base g n : Nat} {xs : List Nat} (h : Own4 w base g n xs) : g < w.heap.size := by
  rcases h.2.2 with ⟨h1, _⟩ | ⟨g2, cap2, cur2, hv, hg2, hh, _⟩
  · simp at h1
  · simp only [Value.slice.injEq, Option.some.injEq, Addr.mk.injEq, and_true, true_and] at hv
    obtain ⟨rfl, rfl⟩ := hv
    exact (Array.getElem?_eq_some_iff.1 hh).1
/-- It lies in another block. -/
def NotB (ao : Option Addr) (g : Nat) : Prop := ∀ p, ao = some p → p.block ≠ g
theorem rd4_set {w : World} {g i : Nat} (x : Value) {ao : Option Addr} {len cap : Nat} {xs : List Nat} (h : Rd4 w ao len cap xs) (hn : NotB ao g) : Rd4 (w.setCell ⟨g, i, none⟩ x) ao len cap xs := by
  refine ⟨h.length, h.le, h.max, h.lt, h.nil, ?_⟩
  rcases h.cells with h0 | ⟨b, off, ha, hc⟩
  · exact .inl h0
  · refine .inr ⟨b, off, ha, fun j hj => ?_⟩
    have hne : b ≠ g := hn _ ha
    rw [World.cell?_setCell_other _ _ _ _ (fun e => hne (by have := congrArg Addr.block e; first | exact this | exact this.symm))]
    exact hc j hj
/-- How far a quotient's first bit is off. -/
theorem part_start {A B n : Nat} (hA : A ≠ 0) (hB : B ≠ 0) (hn : bl A = n + bl B) : A < B * 2 ^ (n + 1) := by
  have h1 := (bl_spec hA).2.1
  have h2 := bl_spec hB
  rw [hn] at h1
  obtain ⟨k, hk⟩ : ∃ k, bl B = k + 1 := ⟨bl B - 1, by omega⟩
  rw [hk] at h1 h2
  simp only [Nat.add_sub_cancel] at h2
  have h3 := Nat.mul_le_mul_right (2 ^ (n + 1)) h2.1
  rw [← Nat.pow_add] at h3
  rw [show n + (k + 1) = k + (n + 1) by omega] at h1
  omega
theorem part_small {A B : Nat} (hA : A ≠ 0) (h : bl A < bl B) : A < B := by
  have h1 := (bl_spec hA).2.1
  have hB : B ≠ 0 := by rintro rfl; rw [bl_zero] at h; omega
  have h2 := (bl_spec hB).1
  have h3 : 2 ^ bl A ≤ 2 ^ (bl B - 1) := Nat.pow_le_pow_right (by omega) (by omega)
  omega
theorem part_end {A B a Q : Nat} (h : A = a + B * Q) (hlt : a < B * 2 ^ 0) : A / B = Q ∧ A % B = a := by
  rw [Nat.pow_zero, Nat.mul_one] at hlt
  have hB : 0 < B := by omega
  rw [h]
  exact ⟨by rw [Nat.add_mul_div_left _ _ hB, Nat.div_eq_of_lt hlt, Nat.zero_add], by rw [Nat.add_mul_mod_self_left, Nat.mod_eq_of_lt hlt]⟩
def PartRes (A B : Nat) (w : World) (e' : Ending) (w' : World) : Prop := ∃ v', e' = .returned (.tuple #[v', .bool (nz (A % B))]) ∧ NumV w' v' false (A / B) 0 ∧ Below w.heap.size w w'
def lowE (ex ey : Int) : Int := min ex ey
set_option maxRecDepth 100000 in
set_option maxHeartbeats 2000000 in
theorem part_any (v u : Value) (nx ny : Bool) (mx my : Nat) (ex ey : Int) (w : World) (hx : NumV w v nx mx ex) (hy : NumV w u ny my ey) (hex : -20000 ≤ ex ∧ ex ≤ 20000) (hey : -20000 ≤ ey ∧ ey ≤ 20000) (hbx : bl mx ≤ 40000) (hby : bl my ≤ 40000) (hx0 : mx ≠ 0) (hy0 : my ≠ 0) :
    Calls Try.prog 67 #[v, u] w fun e' w' => PartRes (mx * 2 ^ (ex - lowE ex ey).toNat) (my * 2 ^ (ey - lowE ex ey).toNat) w e' w' := by
  obtain ⟨ao, len, cap, xs, rfl, hr, hnm, hm⟩ := hx
  obtain ⟨bo, blen, bcap, ys, rfl, hr2, hnm2, hm2⟩ := hy
  obtain ⟨p0, p1, p2, pz, pb⟩ := alloc3_facts w (Obj.cells #[Value.bool nx, Value.slice ao len cap, Value.int IntKind.i64 ex] 55) (Obj.cells #[Value.bool ny, Value.slice bo blen bcap, Value.int IntKind.i64 ey] 55) (Obj.cells #[Value.bool false, Value.slice none 0 0, Value.int IntKind.i64 0] 55)
  have P2 : Hid _ := p2
  have PZ : Hid _ := pz
  have PB : Hid _ := pb
  have HR : Hid _ := hr
  have HR2 : Hid _ := hr2
  clear p0 p1 p2 pz pb hr hr2
  obtain ⟨A0, hA0⟩ : ∃ A, mx * 2 ^ (ex - lowE ex ey).toNat = A := ⟨_, rfl⟩
  obtain ⟨B0, hB0⟩ : ∃ B, my * 2 ^ (ey - lowE ex ey).toNat = B := ⟨_, rfl⟩
  rw [hA0, hB0]
  have HA0 : Hid (mx * 2 ^ (ex - lowE ex ey).toNat = A0) := hA0
  have HB0' : Hid (my * 2 ^ (ey - lowE ex ey).toNat = B0) := hB0
  clear hA0 hB0
  go_enter Try.func67, Try.ntmps67
  go_wp2_with fail
  refine (level_any _ _ nx ny mx my ex ey _ ⟨ao, len, cap, xs, rfl, HR.out.later PB.out, hnm, hm⟩ ⟨bo, blen, bcap, ys, rfl, HR2.out.later PB.out, hnm2, hm2⟩ hex hey (by omega) (by omega)).mono ?_
  rintro e2 w2 ⟨a1, l1, c1, xs1, a2, l2, c2, ys1, A, B, e, rfl, r1, r2, n1, n2, d1, d2, hL, hb2⟩
  obtain ⟨bA, bB, zA, nA, zB, nB⟩ := level_bounds hL hex hey hbx hby
  have hAn := nA hx0
  have hBn := nB hx0 hy0
  have hAB : A0 = A ∧ B0 = B := by
    rcases hL with ⟨h, -⟩ | ⟨-, h, -⟩ | ⟨-, -, he, hA, hB⟩
    · exact absurd h hx0
    · exact absurd h hy0
    · rw [← HA0.out, ← HB0'.out, hA, hB, he]; exact ⟨rfl, rfl⟩
  obtain ⟨rfl, rfl⟩ := hAB
  have hl1 : l1 ≤ 10000 := by have := len_bl r1.length r1.lt n1; rw [d1] at this; omega
  have hl2 : l2 ≤ 5000 := by have := len_bl r2.length r2.lt n2; rw [d2] at this; omega
  have lz1 := len_zero r1.length r1.lt n1
  rw [d1] at lz1
  have hl0 : ((l1 : Int) == 0) = false := by rw [beq_eq_false_iff_ne]; omega
  have hlp : 0 < l1 := by omega
  have q2 := (hb2.block (w.heap.size + 1 + 1) (by rw [PZ.out]; omega)).trans P2.out
  have hsz : w.heap.size + 3 ≤ w2.heap.size := by have := hb2.size; rw [PZ.out] at this; exact this
  have HB2 : Hid (Below w.heap.size w w2) := PB.out.trans (hb2.mono (by rw [PZ.out]; omega))
  have R1 : Hid (Rd4 w2 a1 l1 c1 xs1) := r1
  have R2 : Hid (Rd4 w2 a2 l2 c2 ys1) := r2
  have Q2 : Hid _ := q2
  have N1 : Hid (Nm xs1) := n1
  have N2 : Hid (Nm ys1) := n2
  have HNB : Hid (NotB a1 w2.heap.size) := by
    intro p hp
    rcases r1.cells with h | ⟨b, off, h, hc⟩
    · omega
    · rw [h, Option.some.injEq] at hp
      have := World.block_lt_of_cell? w2 _ (hc 0 hlp)
      rw [← hp]; show b ≠ _; show b ≠ w2.heap.size
      have h9 : b < w2.heap.size := this
      omega
  clear r1 r2 hL hb2 q2 n1 n2 lz1 zA nA zB nB P2 PZ PB HR HR2 HA0 HB0' hbx hby hex hey hx0 hy0 hnm hnm2 hm hm2
  go_wp2_with fail
  refine (length_any a1 l1 c1 xs1 _ R1.out N1.out).mono ?_
  rintro e3 w3 ⟨rfl, hw3⟩
  rw [hw3, d1]
  clear hw3
  go_wp2_with fail
  refine (length_any a2 l2 c2 ys1 _ R2.out N2.out).mono ?_
  rintro e3 w3 ⟨rfl, hw3⟩
  rw [hw3, d2]
  clear hw3
  by_cases hneg : bl A0 < bl B0
  · have hsm := part_small hAn hneg
    have hw : wrap64 ((bl A0 : Int) - (bl B0 : Int)) = (bl A0 : Int) - (bl B0 : Int) := by unfold wrap64; omega
    have hlt : (bl A0 : Int) - (bl B0 : Int) < 0 := by omega
    have hdt : decide ((bl A0 : Int) - (bl B0 : Int) < 0) = true := decide_eq_true hlt
    obtain ⟨z0, z1, z2⟩ := three_cells Q2.out
    have fz := fun j => frozen_of_row _ _ j _ _ Q2.out
    have HD : Hid (A0 / B0 = 0 ∧ nz (A0 % B0) = true) := by
      unfold Hid
      rw [Nat.div_eq_of_lt hsm, Nat.mod_eq_of_lt hsm]
      exact ⟨rfl, by unfold nz; rw [bne_iff_ne]; exact hAn⟩
    clear hsm
    generalize (bl A0 : Int) - (bl B0 : Int) = nn at *
    go_wp2_with fail
    refine bodyPost_ret (v := .tuple #[.agg #[.bool false, .slice none 0 0, .int .i64 0], .bool true]) (res_num2 _ 4 5 (by kernel_rfl) _ _ (w.heap.size + 1 + 1) _ _ _ _ (by rfl) (by rfl) (set3_heap _ _ _ Q2.out)) rfl ⟨_, by rw [HD.out.2], ?_, ?_⟩
    · rw [HD.out.1]; exact ⟨none, 0, 0, [], rfl, rd4_none' _, .inl rfl, rfl⟩
    · exact below_set3 _ _ _ HB2.out (by omega)
  · obtain ⟨n, hn⟩ : ∃ n : Nat, bl A0 = n + bl B0 := ⟨bl A0 - bl B0, by omega⟩
    have hsub : (bl A0 : Int) - (bl B0 : Int) = (n : Int) := by omega
    have hdf : decide ((n : Int) < 0) = false := decide_eq_false (by omega)
    have hnb : n ≤ 80000 := by omega
    have HST : Hid (A0 < B0 * 2 ^ (n + 1)) := part_start hAn hBn hn
    obtain ⟨q, hq⟩ : ∃ q : Nat, n / 32 = q := ⟨_, rfl⟩
    have hqi : (n : Int) / 32 = (q : Int) := by omega
    have hqt : (n : Int).tdiv 32 = (q : Int) := by rw [Int.tdiv_eq_ediv_of_nonneg (by omega)]; omega
    obtain ⟨w3, hmk, hO, hB3⟩ := make4 w2 (q + 1) (by omega)
    have hmk' := hmk ((q : Int) + 1) (by omega)
    have HO : Hid (Own4 w3 w2.heap.size w2.heap.size (q + 1) (List.replicate (q + 1) 0)) := hO
    have HB3 : Hid (Below w2.heap.size w2 w3) := hB3
    clear hmk hO hB3 hn hneg
    go_wp2_with fail
    go_loopg [6, 11] (n + 1) (fun gg av iv wx => ∃ (k : Nat) (ac : Option Addr) (la ca : Nat) (us zs : List Nat), k ≤ n + 1 ∧ iv = .int .i64 ((k : Int) - 1) ∧ av = .slice ac la ca ∧ Hid (Rd4 wx ac la ca us) ∧ Hid (Nm us) ∧ la ≤ 10000 ∧ Hid (NotB ac w2.heap.size) ∧ Hid (Own4 wx w2.heap.size w2.heap.size (q + 1) zs) ∧ Hid (Below w2.heap.size w2 wx) ∧ Hid (U4 zs) ∧ Hid (A0 = dig us + B0 * dig zs) ∧ Hid (dig us < B0 * 2 ^ k) ∧ Hid (dig zs % 2 ^ k = 0) ∧ k ≤ gg)
    case atStart =>
      refine ⟨n + 1, a1, l1, c1, xs1, List.replicate (q + 1) 0, by omega, by congr 1; omega, rfl, R1.out.later HB3.out, N1, hl1, HNB, HO, HB3, ?_, ?_, ?_, ?_, by omega⟩
      · intro x hx; rw [List.eq_of_mem_replicate hx]; decide
      · unfold Hid; rw [dig_zeros, d1]; omega
      · unfold Hid; rw [d1]; exact HST.out
      · unfold Hid; rw [dig_zeros]; exact Nat.zero_mod _
    case round =>
      obtain ⟨k, ac, la, ca, us, zs, hk, rfl, rfl, RA, NA', hla, HN, HOz, HBz, HUz, HQ, HLT, HM, hfu⟩ := hrel
      have HBW : Hid (Below w.heap.size w wr) := HB2.out.trans (HBz.out.mono (by omega))
      cases k with
      | zero =>
        have hz : ((0 : Nat) : Int) - 1 = -1 := rfl
        rw [hz]
        obtain ⟨pe1, pe2⟩ := part_end HQ.out HLT.out
        have lza := len_zero RA.out.length RA.out.lt NA'.out
        have HNZ : Hid (nz (A0 % B0) = decide (0 < la)) := by
          unfold Hid; rw [pe2]; unfold nz
          by_cases h : 0 < la
          · rw [decide_eq_true h, bne_iff_ne]; omega
          · rw [decide_eq_false h, bne_eq_false_iff_eq]; omega
        have PE1 : Hid (A0 / B0 = dig zs) := pe1
        have g2 := (HBz.out.block (w.heap.size + 1 + 1) (by omega)).trans Q2.out
        obtain ⟨z0, z1, z2⟩ := three_cells g2
        have fz := fun j => frozen_of_row _ _ j _ _ g2
        have G2 : Hid _ := g2
        clear pe1 pe2 lza g2
        go_wp2_with fail
        refine (trim_any _ _ _ zs _ (Own4.rd HOz.out HUz.out (by omega))).mono ?_
        rintro e9 w9 ⟨at', mt, rfl, hw9, hr', hm', hnm', hdg⟩
        rw [hw9]
        clear hw9
        have RT : Hid _ := hr'
        clear hr'
        go_wp2_with fail
        refine bodyPost_ret (v := .tuple #[.agg #[.bool false, .slice at' mt (q + 1), .int .i64 0], .bool (decide (0 < la))]) (res_num2 _ 4 5 (by kernel_rfl) _ _ (w.heap.size + 1 + 1) _ _ _ _ (by rfl) (by rfl) (set3_heap _ _ _ G2.out)) rfl ⟨_, by rw [HNZ.out], ?_, ?_⟩
        · exact ⟨at', mt, q + 1, _, rfl, rd4_set3 _ _ _ ⟨_, _, _, _, _, G2.out⟩ RT.out, hnm', by rw [hdg, PE1.out]⟩
        · exact below_set3 _ _ _ HBW.out (by omega)
      | succ k =>
        obtain ⟨fu, rfl⟩ : ∃ g, gk = g + 1 := ⟨gk - 1, by omega⟩
        have hz : ((k + 1 : Nat) : Int) - 1 = (k : Int) := by omega
        rw [hz]
        clear hz
        go_wp2_with fail
        refine (left_any a2 l2 c2 ys1 k _ (R2.out.later HBz.out) (by omega) (by omega)).mono ?_
        rintro e4 w4 ⟨ac2, lc, cc2, cs, rfl, rc, nc, dc, hb4, kc⟩
        have RC : Hid (Rd4 w4 ac2 lc cc2 cs) := rc
        have NC : Hid (Nm cs) := nc
        have DC : Hid (dig cs = B0 * 2 ^ k) := by unfold Hid; rw [dc, d2]
        have RA4 : Hid (Rd4 w4 ac la ca us) := RA.out.later hb4
        have HO4 : Hid (Own4 w4 w2.heap.size w2.heap.size (q + 1) zs) := HOz.out.later hb4
        have hzw : w2.heap.size < wr.heap.size := HOz.out.lt
        have HB4 : Hid (Below w2.heap.size w2 w4) := HBz.out.trans (hb4.mono (by omega))
        have hs4 : w2.heap.size < w4.heap.size := Nat.lt_of_lt_of_le hzw hb4.size
        clear rc nc dc hb4
        go_wp2_with fail
        refine (cmp_any ac la ca us ac2 lc cc2 cs _ RA4.out RC.out NA'.out NC.out).mono ?_
        rintro e5 w5 ⟨rfl, hb5⟩
        rw [DC.out]
        have RC5 : Hid (Rd4 w5 ac2 lc cc2 cs) := RC.out.later hb5
        have RA5 : Hid (Rd4 w5 ac la ca us) := RA4.out.later hb5
        have HO5 : Hid (Own4 w5 w2.heap.size w2.heap.size (q + 1) zs) := HO4.out.later hb5
        have HB5 : Hid (Below w2.heap.size w2 w5) := HB4.out.trans (hb5.mono (by omega))
        have hs5 : w2.heap.size < w5.heap.size := Nat.lt_of_lt_of_le hs4 hb5.size
        clear hb5
        obtain ⟨st1, st2⟩ := part_step (A := A0) (Nat.pos_of_ne_zero hBn) HQ.out HLT.out HM.out
        by_cases hge : B0 * 2 ^ k ≤ dig us
        · obtain ⟨s1, s2, s3⟩ := st1 hge
          have hc0 : 0 ≤ cmpN (dig us) (B0 * 2 ^ k) := by unfold cmpN; rw [if_neg (by omega)]; split <;> omega
          have hcd : decide (0 ≤ cmpN (dig us) (B0 * 2 ^ k)) = true := decide_eq_true hc0
          have hll : lc ≤ la := by
            rcases Nat.lt_or_ge la lc with h | h
            · have := shorter_lt RA.out.lt RC.out.lt NC.out (by rw [RA.out.length, RC.out.length]; exact h)
              rw [DC.out] at this; omega
            · exact h
          have S1 : Hid _ := s1
          have S2 : Hid _ := s2
          have S3 : Hid _ := s3
          have HGE : Hid (B0 * 2 ^ k ≤ dig us) := hge
          clear s1 s2 s3 st1 st2 hge
          go_wp2_with fail
          refine (minusF_any ac la ca us ac2 lc cc2 cs _ RA5.out RC5.out hla hll (by rw [DC.out]; exact HGE.out)).mono ?_
          rintro e6 w6 ⟨ad, ld, cd, ds, rfl, rd, nd, dd, hb6, kd, hfr⟩
          have RD : Hid (Rd4 w6 ad ld cd ds) := rd
          have ND : Hid (Nm ds) := nd
          have DD : Hid (dig ds = dig us - B0 * 2 ^ k) := by unfold Hid; rw [dd, DC.out]
          have HN6 : Hid (NotB ad w2.heap.size) := fun p hp => by have h1 := hfr p hp; omega
          have HO6 : Hid (Own4 w6 w2.heap.size w2.heap.size (q + 1) zs) := HO5.out.later hb6
          have HB6 : Hid (Below w2.heap.size w2 w6) := HB5.out.trans (hb6.mono (by omega))
          obtain ⟨qk, hqk⟩ : ∃ z : Nat, k / 32 = z := ⟨_, rfl⟩
          obtain ⟨sk, hsk⟩ : ∃ z : Nat, k % 32 = z := ⟨_, rfl⟩
          have hqk1 : (k : Int) / 32 = (qk : Int) := by omega
          have hqk2 : (k : Int).tdiv 32 = (qk : Int) := by rw [Int.tdiv_eq_ediv_of_nonneg (by omega)]; omega
          have hsk1 : (k : Int) % 32 = (sk : Int) := by omega
          have hsk2 : (k : Int).tmod 32 = (sk : Int) := by rw [Int.tmod_eq_emod_of_nonneg (by omega)]; omega
          have hs32 : sk < 32 := by omega
          have hqkb : qk < q + 1 := by omega
          obtain ⟨pb1, pb2, pb3⟩ := part_bit (zs := zs) (i := k) HUz.out (by rw [HOz.out.1]; omega) HM.out
          rw [hqk, hsk] at pb1 pb2 pb3
          have gz := HO6.out.cell qk hqkb
          have gf := HO6.out.frozen qk
          have HSET : Hid _ := HO6.out.set qk
          have hxu := HUz.out.at qk
          obtain ⟨x, hxe⟩ : ∃ x, zs[qk]?.getD 0 = x := ⟨_, rfl⟩
          rw [hxe] at gz pb1 pb2 pb3 hxu
          obtain ⟨PP, hPP⟩ : ∃ P : Nat, 2 ^ sk = P := ⟨_, rfl⟩
          have hPb : PP < 4294967296 := by
            rw [← hPP, show (4294967296 : Nat) = 2 ^ 32 by decide]; exact Nat.pow_lt_pow_right (by omega) (by omega)
          have hPi : ((2 : Int) ^ sk) = (PP : Int) := by rw [← hPP, Int.natCast_pow]; rfl
          have hPw : IntKind.u32.wrap ((1 : Int) * 2 ^ sk) = (PP : Int) := by rw [Int.one_mul, hPi, IntKind.wrap_u32]; omega
          have hPm : ((2 : Int) ^ sk) % 4294967296 = (PP : Int) := by rw [hPi]; omega
          obtain ⟨V, hV⟩ : ∃ V : Nat, x + PP = V := ⟨_, rfl⟩
          have hor : bits .or .u32 (x : Int) (PP : Int) = (V : Int) := by
            rw [u32_or_nat _ _ hxu hPb]
            congr 1
            obtain ⟨c, hc⟩ := Nat.dvd_of_mod_eq_zero pb1
            have h9 := Nat.two_pow_add_eq_or_of_lt (i := sk + 1) (b := PP) (by rw [← hPP]; exact Nat.pow_lt_pow_right (by omega) (by omega)) c
            rw [hc, ← h9, ← hV, hc]
          rw [hPP, hV] at pb2 pb3
          have PB2 : Hid (dig (zs.set qk V) = dig zs + 2 ^ k) := pb2
          have PB3 : Hid (V < 4294967296) := pb3
          clear pb1 pb2 pb3 hqk hsk hV hPP hxe
          go_wp2_with fail
          go_region
          go_wp2_with fail
          go_roundg fu
          case rel =>
            refine ⟨k, ad, ld, cd, ds, zs.set qk V, by omega, by go_num, rfl, (rd4_set _ RD.out HN6.out).later (Below.refl _ _).drew, ND, by omega, HN6, (HSET.out V).later (Below.refl _ _).drew, (below_set HB6.out (Nat.le_refl _)).drew, HUz.out.set qk V PB3.out, ?_, ?_, ?_, by omega⟩
            · unfold Hid; rw [DD.out, PB2.out]; exact S1.out
            · unfold Hid; rw [DD.out]; exact S2.out
            · unfold Hid; rw [PB2.out]; exact S3.out
          case measure => omega
        · obtain ⟨s1, s2⟩ := st2 hge
          have hc0 : cmpN (dig us) (B0 * 2 ^ k) = -1 := by unfold cmpN; rw [if_pos (by omega)]
          rw [hc0]
          have S1 : Hid _ := s1
          have S2 : Hid _ := s2
          clear s1 s2 st1 st2 hge hc0
          go_wp2_with fail
          go_roundg fu
          case rel =>
            exact ⟨k, ac, la, ca, us, zs, by omega, by go_num, rfl, RA5, NA', hla, HN, HO5, HB5, HUz, HQ, S1, S2, by omega⟩
          case measure => omega
end Go.Proofs.Ytgjdmenmegnacaa
