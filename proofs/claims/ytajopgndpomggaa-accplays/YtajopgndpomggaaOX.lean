import Derived.Test.YtajopgndpomggaaMO
import Derived.Deep.DeepMust
namespace Go.Proofs.Ytajopgndpomggaa
open Go.RowKit
set_option linter.unusedVariables false

/-- The first place of a quotient. -/
theorem quo_placeB {mx my : Nat} {ex ey : Int} (hx : mx ≠ 0) (hy : my ≠ 0) (s : Nat) (hs : -(s : Int) + 5000 ≤ ex ∧ -(s : Int) + 5000 ≤ ey) (hb : bl mx ≤ 4900 ∧ bl my ≤ 4900) :
    ¬ ltQ mx my ex ey ((bl mx : Int) + ex - bl my - ey - 1) ∧ ltQ mx my ex ey ((bl mx : Int) + ex - bl my - ey + 1) := by
  have b1 := bl_spec hx
  have b2 := bl_spec hy
  obtain ⟨p, hp⟩ : ∃ p, bl mx = p + 1 := ⟨bl mx - 1, by omega⟩
  obtain ⟨q, hq⟩ : ∃ q, bl my = q + 1 := ⟨bl my - 1, by omega⟩
  rw [hp] at b1 hb ⊢
  rw [hq] at b2 hb ⊢
  simp only [Nat.add_sub_cancel] at b1 b2
  rw [ltQ_iff s (by omega) (by omega), ltQ_iff s (by omega) (by omega)]
  constructor
  · intro h
    have h1 : 2 ^ p * 2 ^ (ex + s).toNat ≤ mx * 2 ^ (ex + s).toNat := Nat.mul_le_mul_right _ b1.1
    have h2 : my * 2 ^ (ey + ((p + 1 : Nat) + ex - (q + 1 : Nat) - ey - 1) + s).toNat < 2 ^ (q + 1) * 2 ^ (ey + ((p + 1 : Nat) + ex - (q + 1 : Nat) - ey - 1) + s).toNat := Nat.mul_lt_mul_of_pos_right b2.2.1 (Nat.two_pow_pos _)
    rw [← Nat.pow_add] at h1 h2
    rw [show q + 1 + (ey + (((p + 1 : Nat) : Int) + ex - ((q + 1 : Nat) : Int) - ey - 1) + s).toNat = p + (ex + s).toNat by omega] at h2
    omega
  · have h1 : mx * 2 ^ (ex + s).toNat < 2 ^ (p + 1) * 2 ^ (ex + s).toNat := Nat.mul_lt_mul_of_pos_right b1.2.1 (Nat.two_pow_pos _)
    have h2 : 2 ^ q * 2 ^ (ey + ((p + 1 : Nat) + ex - (q + 1 : Nat) - ey + 1) + s).toNat ≤ my * 2 ^ (ey + ((p + 1 : Nat) + ex - (q + 1 : Nat) - ey + 1) + s).toNat := Nat.mul_le_mul_right _ b2.1
    rw [← Nat.pow_add] at h1 h2
    rw [show q + (ey + (((p + 1 : Nat) : Int) + ex - ((q + 1 : Nat) : Int) - ey + 1) + s).toNat = p + 1 + (ex + s).toNat by omega] at h2
    omega
set_option maxRecDepth 100000 in
set_option maxHeartbeats 2000000 in
theorem overB_any (d : Int) (v u : Value) (nx ny : Bool) (mx my : Nat) (ex ey : Int) (w : World) (hx : NumV w v nx mx ex) (hy : NumV w u ny my ey) (hex : -2300 ≤ ex ∧ ex ≤ 2600) (hey : -2300 ≤ ey ∧ ey ≤ 2600) (hbx : bl mx ≤ 4900) (hby : bl my ≤ 4900) (hd0 : -9223372036854775808 ≤ d) (hd1 : d ≤ 9223372036854775807) :
    Calls Try.prog 64 #[.int .i64 d, v, u] w fun e' w' => OverRes d (nx != ny) mx my (ex - ey + 1074) w e' w' := by
  have HXV : Hid (NumV w v nx mx ex) := hx
  have HYV : Hid (NumV w u ny my ey) := hy
  obtain ⟨ao, len, cap, xs, rfl, hr, hnm, hm⟩ := hx
  obtain ⟨bo, blen, bcap, ys, rfl, hr2, hnm2, hm2⟩ := hy
  have lz1 := len_zero hr.length hr.lt hnm
  have lz2 := len_zero hr2.length hr2.lt hnm2
  rw [hm] at lz1
  rw [hm2] at lz2
  obtain ⟨p0, p1, pz, pb⟩ := alloc2_facts w (Obj.cells #[Value.bool nx, Value.slice ao len cap, Value.int IntKind.i64 ex] 27) (Obj.cells #[Value.bool ny, Value.slice bo blen bcap, Value.int IntKind.i64 ey] 27)
  have P0 : Hid _ := p0
  have P1 : Hid _ := p1
  have PZ : Hid _ := pz
  have PB : Hid _ := pb
  clear hr hr2 hnm hnm2 hm hm2 p0 p1 pz pb
  have hD : 0 < my * 2 ^ (-(ex - ey + 1074)).toNat ∨ my = 0 := by
    rcases Nat.eq_zero_or_pos my with h | h
    · exact .inr h
    · exact .inl (Nat.mul_pos h (Nat.two_pow_pos _))
  by_cases hd : d = 0 ∨ d = 1 ∨ d = 2
  case neg =>
    have HN : Hid (my ≠ 0 → Rnd d (nx != ny) (mx * 2 ^ (ex - ey + 1074).toNat) (my * 2 ^ (-(ex - ey + 1074)).toNat) (0, false)) := fun h => rnd_none d _ _ _ (by omega) hd
    clear lz1 lz2 hD
    by_cases hneg : d < 0
    · clear hd
      go_enter Try.func64, Try.ntmps64
      go_wp2_with fail
      go_ret2
      exact ⟨0, false, rfl, HN.out, fun _ => rfl, (by first | exact PB.out | exact PB.out.drew)⟩
    · have hgt : 2 < d := by omega
      clear hd
      go_enter Try.func64, Try.ntmps64
      go_wp2_with fail
      go_ret2
      exact ⟨0, false, rfl, HN.out, fun _ => rfl, (by first | exact PB.out | exact PB.out.drew)⟩
  case pos =>
    have hda : ¬ (d < 0) := by omega
    have hdc : ¬ (2 < d) := by omega
    have hdb0 : 0 ≤ d := by omega
    have hdb2 : d ≤ 2 := by omega
    by_cases hy0 : my = 0
    · have hl0 : blen = 0 := lz2.2 hy0
      subst hl0
      have HD : Hid (d = 0 ∨ d = 1 ∨ d = 2) := hd
      have HY0 : Hid (my = 0) := hy0
      clear lz1 lz2 hD hd hy0
      go_enter Try.func64, Try.ntmps64
      go_wp2_with fail
      go_ret2
      exact ⟨0, false, rfl, fun h => absurd HY0.out h, fun _ => rfl, (by first | exact PB.out | exact PB.out.drew)⟩
    have hlb : ((blen : Int) == 0) = false := by rw [beq_eq_false_iff_ne]; omega
    by_cases hx0 : mx = 0
    · have hl0 : len = 0 := lz1.2 hx0
      subst hl0
      have HN : Hid (Rnd d (nx != ny) (mx * 2 ^ (ex - ey + 1074).toNat) (my * 2 ^ (-(ex - ey + 1074)).toNat) (0, true)) := by
        unfold Hid; rw [hx0, Nat.zero_mul]; exact rnd_nought d _ _ (by omega) hd
      have HY0 : Hid (my ≠ 0) := hy0
      clear lz1 lz2 hD hd hy0 hx0
      go_enter Try.func64, Try.ntmps64
      go_wp2_with fail
      go_ret2
      exact ⟨0, true, rfl, fun _ => HN.out, fun h => absurd h HY0.out, (by first | exact PB.out | exact PB.out.drew)⟩
    have hla : ((len : Int) == 0) = false := by rw [beq_eq_false_iff_ne]; omega
    have HD : Hid (d = 0 ∨ d = 1 ∨ d = 2) := hd
    have HX0 : Hid (mx ≠ 0) := hx0
    have HY0 : Hid (my ≠ 0) := hy0
    clear lz1 lz2 hD hd
    go_enter Try.func64, Try.ntmps64
    go_wp2_with fail
    refine (size_any _ nx mx ex _ (NumV.later HXV.out PB.out)).mono ?_
    rintro e3 w3 ⟨v3, rfl, hn3, hb3⟩
    have N3 : Hid (NumV w3 v3 false mx ex) := hn3
    obtain ⟨sa, sl, sc, sxs, rfl, -⟩ := hn3
    have XX3 : Hid (VarN w3 w.heap.size nx ao len cap ex mx) := (VarN.mk P0.out (NumV.later HXV.out PB.out)).later hb3
    have YY3 : Hid (VarN w3 (w.heap.size + 1) ny bo blen bcap ey my) := (VarN.mk P1.out (NumV.later HYV.out PB.out)).later hb3
    have HB3 : Hid (Below w.heap.size w w3) := PB.out.trans (hb3.mono (by rw [PZ.out]; omega))
    have AA4 : Hid (VarN (w3.alloc (Obj.cells #[Value.bool false, Value.slice sa sl sc, Value.int IntKind.i64 ex] 27)) w3.heap.size false sa sl sc ex mx) := VarN.new N3.out
    have XX4 : Hid (VarN (w3.alloc (Obj.cells #[Value.bool false, Value.slice sa sl sc, Value.int IntKind.i64 ex] 27)) w.heap.size nx ao len cap ex mx) := XX3.out.alloc _
    have YY4 : Hid (VarN (w3.alloc (Obj.cells #[Value.bool false, Value.slice sa sl sc, Value.int IntKind.i64 ex] 27)) (w.heap.size + 1) ny bo blen bcap ey my) := YY3.out.alloc _
    have HB4 : Hid (Below w.heap.size w (w3.alloc (Obj.cells #[Value.bool false, Value.slice sa sl sc, Value.int IntKind.i64 ex] 27))) := HB3.out.alloc HB3.out.size _
    clear hb3 P0 P1 PZ PB HXV HYV
    obtain ⟨y0, y1, y2⟩ := YY4.out.cells
    go_wp2_with fail
    refine (size_any _ ny my ey _ YY4.out.num).mono ?_
    rintro e5 w5 ⟨v5, rfl, hn5, hb5⟩
    have N5 : Hid (NumV w5 v5 false my ey) := hn5
    obtain ⟨ta, tl, tc, txs, rfl, -⟩ := hn5
    clear y0 y1 y2
    have HB5 : Hid (Below w.heap.size w w5) := HB4.out.trans (hb5.mono HB4.out.size)
    have AA6 : Hid (VarN (w5.alloc (Obj.cells #[Value.bool false, Value.slice ta tl tc, Value.int IntKind.i64 ey] 27)) w3.heap.size false sa sl sc ex mx) := (AA4.out.later hb5).alloc _
    have XX6 : Hid (VarN (w5.alloc (Obj.cells #[Value.bool false, Value.slice ta tl tc, Value.int IntKind.i64 ey] 27)) w.heap.size nx ao len cap ex mx) := (XX4.out.later hb5).alloc _
    have YY6 : Hid (VarN (w5.alloc (Obj.cells #[Value.bool false, Value.slice ta tl tc, Value.int IntKind.i64 ey] 27)) (w.heap.size + 1) ny bo blen bcap ey my) := (YY4.out.later hb5).alloc _
    have BB6 : Hid (VarN (w5.alloc (Obj.cells #[Value.bool false, Value.slice ta tl tc, Value.int IntKind.i64 ey] 27)) w5.heap.size false ta tl tc ey my) := VarN.new N5.out
    have HB6 : Hid (Below w.heap.size w (w5.alloc (Obj.cells #[Value.bool false, Value.slice ta tl tc, Value.int IntKind.i64 ey] 27))) := HB5.out.alloc HB5.out.size _
    clear hb5 N3 N5 XX3 YY3 HB3 AA4 XX4 YY4 HB4 HB5
    obtain ⟨a0, a1, a2⟩ := AA6.out.cells
    obtain ⟨b0, b1, b2⟩ := BB6.out.cells
    obtain ⟨x0, x1, x2⟩ := XX6.out.cells
    obtain ⟨y0, y1, y2⟩ := YY6.out.cells
    go_wp2_with fail
    generalize w5.alloc (Obj.cells #[Value.bool false, Value.slice ta tl tc, Value.int IntKind.i64 ey] 27) = W at *
    have hrf : Below W.heap.size W W.drew := (Below.refl _ _).drew
    have AA7 : Hid (VarN W.drew w3.heap.size false sa sl sc ex mx) := AA6.out.later hrf
    have BB7 : Hid (VarN W.drew w5.heap.size false ta tl tc ey my) := BB6.out.later hrf
    have XX7 : Hid (VarN W.drew w.heap.size nx ao len cap ex mx) := XX6.out.later hrf
    have YY7 : Hid (VarN W.drew (w.heap.size + 1) ny bo blen bcap ey my) := YY6.out.later hrf
    have HB7 : Hid (Below w.heap.size w W.drew) := HB6.out.trans (hrf.mono HB6.out.size)
    obtain ⟨sxs', sR, sN, sD⟩ := AA7.out.rd
    obtain ⟨txs', tR, tN, tD⟩ := BB7.out.rd
    have SR : Hid _ := sR
    have TR : Hid _ := tR
    have SN : Hid _ := sN
    have TN : Hid _ := tN
    have hw1 : IntKind.i64.wrap ((bl mx : Int) + ex) = (bl mx : Int) + ex := by rw [IntKind.wrap_i64]; omega
    have hw2 : IntKind.i64.wrap ((bl mx : Int) + ex - (bl my : Int)) = (bl mx : Int) + ex - (bl my : Int) := by rw [IntKind.wrap_i64]; omega
    obtain ⟨K0, hK0⟩ : ∃ K, (bl mx : Int) + ex - (bl my : Int) - ey = K := ⟨_, rfl⟩
    have hw3 : IntKind.i64.wrap ((bl mx : Int) + ex - (bl my : Int) - ey) = K0 := by rw [hK0, IntKind.wrap_i64]; omega
    have HK0 : Hid ((bl mx : Int) + ex - (bl my : Int) - ey = K0) := hK0
    have hKb : -9900 ≤ K0 ∧ K0 ≤ 9900 := by omega
    have hKc : -7300 ≤ ey + K0 ∧ (bl my : Int) + ey + K0 ≤ 7600 := by omega
    have HPL : Hid (¬ ltQ mx my ex ey (K0 - 1) ∧ ltQ mx my ex ey (K0 + 1)) := by
      unfold Hid; rw [← hK0]; exact quo_placeB HX0.out HY0.out 7400 (by omega) (by omega)
    clear sR tR sN tN hrf hK0
    go_region_held3 (fun w' => w'.cell? ⟨w3.heap.size, 0, none⟩ = some (.bool false) ∧ w'.cell? ⟨w3.heap.size, 1, none⟩ = some (.slice sa sl sc) ∧ w'.cell? ⟨w3.heap.size, 2, none⟩ = some (.int .i64 ex) ∧ w'.cell? ⟨w5.heap.size, 0, none⟩ = some (.bool false) ∧ w'.cell? ⟨w5.heap.size, 1, none⟩ = some (.slice ta tl tc) ∧ w'.cell? ⟨w5.heap.size, 2, none⟩ = some (.int .i64 ey)) (go_keep)
      (first
        | (go_at_call_of 77 (Value.slice sa sl sc); refine (length_any sa sl sc sxs' _ SR.out SN.out).mono ?_; rintro ee ww ⟨rfl, hww⟩; rw [hww, sD]; clear hww)
        | (go_at_call_of 77 (Value.slice ta tl tc); refine (length_any ta tl tc txs' _ TR.out TN.out).mono ?_; rintro ee ww ⟨rfl, hww⟩; rw [hww, tD]; clear hww))
    go_wp2_with fail
    have hrf : Below W.drew.heap.size W.drew W.drew.drew := (Below.refl _ _).drew
    have AA8 : Hid (VarN W.drew.drew w3.heap.size false sa sl sc ex mx) := AA7.out.later hrf
    have BB8 : Hid (VarN W.drew.drew w5.heap.size false ta tl tc ey my) := BB7.out.later hrf
    have XX8 : Hid (VarN W.drew.drew w.heap.size nx ao len cap ex mx) := XX7.out.later hrf
    have YY8 : Hid (VarN W.drew.drew (w.heap.size + 1) ny bo blen bcap ey my) := YY7.out.later hrf
    have HB8 : Hid (Below w.heap.size w W.drew.drew) := HB7.out.trans (hrf.mono HB7.out.size)
    clear hrf
    obtain ⟨s, hs⟩ : ∃ s : Nat, s = 7400 := ⟨_, rfl⟩
    obtain ⟨g, hg⟩ : ∃ g, sgi (((mx * 2 ^ (ex + s).toNat : Nat) : Int) - ((my * 2 ^ (ey + K0 + s).toNat : Nat) : Int)) = g := ⟨_, rfl⟩
    have HG : Hid (sgi (((mx * 2 ^ (ex + s).toNat : Nat) : Int) - ((my * 2 ^ (ey + K0 + s).toNat : Nat) : Int)) = g) := hg
    have HGL : Hid (g < 0 ↔ ltQ mx my ex ey K0) := by
      unfold Hid; rw [ltQ_iff s (by omega) (by omega), ← hg]; unfold sgi
      constructor
      · intro h; split at h <;> (try split at h) <;> omega
      · intro h; rw [if_pos (by omega)]; decide
    clear hg
    go_region_held3 (fun w' => w'.cell? ⟨w3.heap.size, 0, none⟩ = some (.bool false) ∧ w'.cell? ⟨w3.heap.size, 1, none⟩ = some (.slice sa sl sc) ∧ w'.cell? ⟨w3.heap.size, 2, none⟩ = some (.int .i64 ex) ∧ w'.cell? ⟨w5.heap.size, 0, none⟩ = some (.bool false) ∧ w'.cell? ⟨w5.heap.size, 1, none⟩ = some (.slice ta tl tc) ∧ w'.cell? ⟨w5.heap.size, 2, none⟩ = some (.int .i64 ey)) (go_keep)
      (first
        | (go_at_call 44; refine (moved_any _ false my ey K0 (by omega) (by omega) _ BB8.out.num).mono ?_; rintro e9 w9 ⟨v9, rfl, hn9, hb9⟩; rw [if_neg HY0.out] at hn9; have AA9 : Hid (VarN w9 w3.heap.size false sa sl sc ex mx) := AA8.out.later hb9; obtain ⟨aa90, aa91, aa92⟩ := AA9.out.cells; have BB9 : Hid (VarN w9 w5.heap.size false ta tl tc ey my) := BB8.out.later hb9; obtain ⟨bb90, bb91, bb92⟩ := BB9.out.cells; have XX9 : Hid (VarN w9 w.heap.size nx ao len cap ex mx) := XX8.out.later hb9; obtain ⟨xx90, xx91, xx92⟩ := XX9.out.cells; have YY9 : Hid (VarN w9 (w.heap.size + 1) ny bo blen bcap ey my) := YY8.out.later hb9; obtain ⟨yy90, yy91, yy92⟩ := YY9.out.cells; have HB9 : Hid (Below w.heap.size w w9) := HB8.out.trans (hb9.mono HB8.out.size); have N9 : Hid (NumV w9 v9 false my (ey + K0)) := hn9; clear hn9 hb9)
        | (go_at_call 15; refine (cmpZ_any _ _ s 7600 _ _ _ (NumV.zed AA9.out.num s 7600 (by omega) (by omega)) (NumV.zed N9.out s 7600 (by omega) (by omega)) (by omega) (by omega)).mono ?_; rintro ep wp ⟨rfl, hbp⟩; have AAp : Hid (VarN wp w3.heap.size false sa sl sc ex mx) := AA9.out.later hbp; obtain ⟨aap0, aap1, aap2⟩ := AAp.out.cells; have BBp : Hid (VarN wp w5.heap.size false ta tl tc ey my) := BB9.out.later hbp; obtain ⟨bbp0, bbp1, bbp2⟩ := BBp.out.cells; have XXp : Hid (VarN wp w.heap.size nx ao len cap ex mx) := XX9.out.later hbp; obtain ⟨xxp0, xxp1, xxp2⟩ := XXp.out.cells; have YYp : Hid (VarN wp (w.heap.size + 1) ny bo blen bcap ey my) := YY9.out.later hbp; obtain ⟨yyp0, yyp1, yyp2⟩ := YYp.out.cells; have HBp : Hid (Below w.heap.size w wp) := HB9.out.trans (hbp.mono HB9.out.size); rw [HG.out]; clear hbp))
    obtain ⟨kk, hkk⟩ : ∃ kk, (if g < 0 then K0 - 1 else K0) = kk := ⟨_, rfl⟩
    have HKL : Hid (¬ ltQ mx my ex ey kk ∧ ltQ mx my ex ey (kk + 1)) := by
      unfold Hid; rw [← hkk]
      by_cases h : g < 0
      · rw [if_pos h]; exact ⟨HPL.out.1, by rw [show K0 - 1 + 1 = K0 by omega]; exact HGL.out.1 h⟩
      · rw [if_neg h]; exact ⟨fun c => h (HGL.out.2 c), HPL.out.2⟩
    have hkb : -9901 ≤ kk ∧ kk ≤ 9900 := by rw [← hkk]; split <;> omega
    clear HPL HGL HG AA6 AA7 AA8 AA9 BB6 BB7 BB8 BB9 XX6 XX7 XX8 XX9 YY6 YY7 YY8 YY9 HB6 HB7 HB8 HB9 N9 SR TR SN TN sD tD
    clear aa90 aa91 aa92 bb90 bb91 bb92 xx90 xx91 xx92 yy90 yy91 yy92
    have hE1 : -1074 ≤ max (kk - 52) (-1074) ∧ max (kk - 52) (-1074) ≤ 9900 := by omega
    obtain ⟨E, hE⟩ : ∃ E, max (kk - 52) (-1074) = E := ⟨_, rfl⟩
    have hEf : (if -1074 ≤ kk - 52 then kk - 52 else -1074) = E := by rw [← hE]; omega
    have HE : Hid (max (kk - 52) (-1074) = E) := hE
    have hEb : -1074 ≤ E ∧ E ≤ 9900 := by omega
    clear hE hE1
    have hM := over_math d HD.out (nx != ny) HX0.out HY0.out HKL.out.1 HKL.out.2 s (by omega) (by omega) (by omega)
    simp only [HE.out] at hM
    have HMATH : Hid _ := hM
    clear hM
    have hE1w : IntKind.i64.wrap (E - 1) = E - 1 := by rw [IntKind.wrap_i64]; omega
    have np1 : wp.heap.size ≠ w3.heap.size := Nat.ne_of_gt AAp.out.lt
    have np2 : wp.heap.size ≠ w5.heap.size := Nat.ne_of_gt BBp.out.lt
    by_cases hgl : g < 0 <;> by_cases hmx : -1074 ≤ kk - 52
    · rw [if_pos hgl] at hkk
      rw [if_pos hmx] at hEf
      subst hkk
      have HEF : Hid _ := hEf
      clear hEf
      go_wp2_with fail
      all_goals (try (exfalso; omega))
      rw [HEF.out]
      have hrf : Below wp.heap.size wp wp.drew := (Below.refl _ _).drew
      have AAq : Hid (VarN wp.drew w3.heap.size false sa sl sc ex mx) := AAp.out.later hrf
      have BBq : Hid (VarN wp.drew w5.heap.size false ta tl tc ey my) := BBp.out.later hrf
      have XXq : Hid (VarN wp.drew w.heap.size nx ao len cap ex mx) := XXp.out.later hrf
      have YYq : Hid (VarN wp.drew (w.heap.size + 1) ny bo blen bcap ey my) := YYp.out.later hrf
      have HBq : Hid (Below w.heap.size w wp.drew) := HBp.out.trans (hrf.mono HBp.out.size)
      clear hrf
      go_region_held3 (fun w' => w'.cell? ⟨w3.heap.size, 0, none⟩ = some (.bool false) ∧ w'.cell? ⟨w3.heap.size, 1, none⟩ = some (.slice sa sl sc) ∧ w'.cell? ⟨w3.heap.size, 2, none⟩ = some (.int .i64 ex) ∧ w'.cell? ⟨w5.heap.size, 0, none⟩ = some (.bool false) ∧ w'.cell? ⟨w5.heap.size, 1, none⟩ = some (.slice ta tl tc) ∧ w'.cell? ⟨w5.heap.size, 2, none⟩ = some (.int .i64 ey)) (go_keep)
        (first
          | (go_at_call 44; go_must (refine (moved_any _ false my ey (E - 1) (by omega) (by omega) _ (by first | exact BBq.out.num | exact (BBq.out.alloc _).num)).mono ?_; rintro em wm ⟨vm, rfl, hnm, hbm⟩; rw [if_neg HY0.out] at hnm; have AAm : Hid (VarN wm w3.heap.size false sa sl sc ex mx) := (by first | exact AAq.out.later hbm | exact (AAq.out.alloc _).later hbm); obtain ⟨aam0, aam1, aam2⟩ := AAm.out.cells; have BBm : Hid (VarN wm w5.heap.size false ta tl tc ey my) := (by first | exact BBq.out.later hbm | exact (BBq.out.alloc _).later hbm); obtain ⟨bbm0, bbm1, bbm2⟩ := BBm.out.cells; have XXm : Hid (VarN wm w.heap.size nx ao len cap ex mx) := (by first | exact XXq.out.later hbm | exact (XXq.out.alloc _).later hbm); obtain ⟨xxm0, xxm1, xxm2⟩ := XXm.out.cells; have YYm : Hid (VarN wm (w.heap.size + 1) ny bo blen bcap ey my) := (by first | exact YYq.out.later hbm | exact (YYq.out.alloc _).later hbm); obtain ⟨yym0, yym1, yym2⟩ := YYm.out.cells; have HBm : Hid (Below w.heap.size w wm) := (by first | exact HBq.out.trans (hbm.mono HBq.out.size) | exact (HBq.out.alloc HBq.out.size _).trans (hbm.mono (Nat.le_trans HBq.out.size (by simp)))); have nm1 : wm.heap.size ≠ w3.heap.size := Nat.ne_of_gt AAm.out.lt; have nm2 : wm.heap.size ≠ w5.heap.size := Nat.ne_of_gt BBm.out.lt; have NM : Hid (NumV wm vm false my (ey + (E - 1))) := hnm; (try (have HZ1 : Hid (wm.heap[wp.heap.size]? = some (Obj.cells #[Value.bool false, Value.slice none 0 0, Value.int IntKind.i64 0] 27)) := (hbm.block wp.heap.size (by simp)).trans (heap_alloc_new _ _))); clear hnm hbm))
          | (go_at_call 87; go_must (refine (part_any _ _ false false mx my ex (ey + (E - 1)) _ (by first | exact AAm.out.num | exact (AAm.out.alloc _).num) (by first | exact NM.out | exact NumV.later NM.out ((Below.refl _ _).alloc (Nat.le_refl _) _)) (by omega) (by omega) (by omega) (by omega) HX0.out HY0.out).mono ?_; rintro en wn ⟨vn, rfl, hvn, hbn⟩; have AAn : Hid (VarN wn w3.heap.size false sa sl sc ex mx) := (by first | exact AAm.out.later hbn | exact (AAm.out.alloc _).later hbn); obtain ⟨aan0, aan1, aan2⟩ := AAn.out.cells; have BBn : Hid (VarN wn w5.heap.size false ta tl tc ey my) := (by first | exact BBm.out.later hbn | exact (BBm.out.alloc _).later hbn); obtain ⟨bbn0, bbn1, bbn2⟩ := BBn.out.cells; have XXn : Hid (VarN wn w.heap.size nx ao len cap ex mx) := (by first | exact XXm.out.later hbn | exact (XXm.out.alloc _).later hbn); obtain ⟨xxn0, xxn1, xxn2⟩ := XXn.out.cells; have YYn : Hid (VarN wn (w.heap.size + 1) ny bo blen bcap ey my) := (by first | exact YYm.out.later hbn | exact (YYm.out.alloc _).later hbn); obtain ⟨yyn0, yyn1, yyn2⟩ := YYn.out.cells; have HBn : Hid (Below w.heap.size w wn) := (by first | exact HBm.out.trans (hbn.mono HBm.out.size) | exact (HBm.out.alloc HBm.out.size _).trans (hbn.mono (Nat.le_trans HBm.out.size (by simp)))); have nn1 : wn.heap.size ≠ w3.heap.size := Nat.ne_of_gt AAn.out.lt; have nn2 : wn.heap.size ≠ w5.heap.size := Nat.ne_of_gt BBn.out.lt; have NV : Hid (NumV wn vn false _ 0) := hvn; obtain ⟨ha, hl, hc, hxs, rfl, -⟩ := hvn; (try (have HZ2 : Hid (wn.heap[wp.heap.size]? = some (Obj.cells #[Value.bool false, Value.slice none 0 0, Value.int IntKind.i64 0] 27)) := (hbn.block wp.heap.size (heap_lt HZ1.out)).trans HZ1.out; obtain ⟨z0, z1, z2⟩ := three_cells HZ2.out; have fz := (fun j => frozen_of_row _ _ j _ _ HZ2.out))); (try (have HZ3 : Hid (wn.heap[wm.heap.size]? = some (Obj.cells #[Value.bool false, Value.slice none 0 0, Value.int IntKind.i64 0] 27)) := (hbn.block wm.heap.size (by simp)).trans (heap_alloc_new _ _); obtain ⟨z0, z1, z2⟩ := three_cells HZ3.out; have fz := (fun j => frozen_of_row _ _ j _ _ HZ3.out))); clear hbn)))
      · have HH1 : Hid (VarN (wn.alloc (Obj.cells #[Value.bool false, Value.slice ha hl hc, Value.int IntKind.i64 0] 27)) wn.heap.size false ha hl hc 0 _) := VarN.new NV.out
        have XX1 : Hid (VarN (wn.alloc (Obj.cells #[Value.bool false, Value.slice ha hl hc, Value.int IntKind.i64 0] 27)) w.heap.size nx ao len cap ex mx) := XXn.out.alloc _
        have YY1 : Hid (VarN (wn.alloc (Obj.cells #[Value.bool false, Value.slice ha hl hc, Value.int IntKind.i64 0] 27)) (w.heap.size + 1) ny bo blen bcap ey my) := YYn.out.alloc _
        have HB1 : Hid (Below w.heap.size w (wn.alloc (Obj.cells #[Value.bool false, Value.slice ha hl hc, Value.int IntKind.i64 0] 27))) := HBn.out.alloc HBn.out.size _
        have hne1 : wn.heap.size ≠ w.heap.size := Nat.ne_of_gt XXn.out.lt
        clear aap0 aap1 aap2 bbp0 bbp1 bbp2 xxp0 xxp1 xxp2 yyp0 yyp1 yyp2 aam0 aam1 aam2 bbm0 bbm1 bbm2 xxm0 xxm1 xxm2 yym0 yym1 yym2 aan0 aan1 aan2 bbn0 bbn1 bbn2 xxn0 xxn1 xxn2 yyn0 yyn1 yyn2
        clear nm1 nm2 nn1 nn2 np1 np2 AAp AAq AAm AAn BBp BBq BBm BBn XXp XXq XXm YYp YYq YYm HBp HBq HBm
        generalize (wn.alloc (Obj.cells #[Value.bool false, Value.slice ha hl hc, Value.int IntKind.i64 0] 27)) = W1 at *
        obtain ⟨h0, h1, h2⟩ := HH1.out.cells
        obtain ⟨u0, u1, u2⟩ := XX1.out.cells
        obtain ⟨v0, v1, v2⟩ := YY1.out.cells
        clear h0 h2 u1 u2 v1 v2
        obtain ⟨zs, hr3, hnm3, hm3⟩ := HH1.out.rd
        have hl3 : hl ≤ 2 := two_words hr3.length hr3.lt hnm3 hm3 HMATH.out.1
        have HR3 : Hid _ := hr3
        have HM3 : Hid _ := hm3
        clear hr3 hm3 hnm3
        go_wp2_with fail
        obtain ⟨Q, hQ⟩ : ∃ Q, mx * 2 ^ (ex - lowE ex (ey + (E - 1))).toNat / (my * 2 ^ (ey + (E - 1) - lowE ex (ey + (E - 1))).toNat) = Q := ⟨_, rfl⟩
        obtain ⟨R, hR⟩ : ∃ R, nz (mx * 2 ^ (ex - lowE ex (ey + (E - 1))).toNat % (my * 2 ^ (ey + (E - 1) - lowE ex (ey + (E - 1))).toNat)) = R := ⟨_, rfl⟩
        rw [hR]
        rw [hQ] at HM3
        have hM2 := HMATH.out
        rw [hQ, hR] at hM2
        have WC : ∀ W, Below W1.heap.size W1 W → Calls Try.prog 80 #[.slice ha hl hc] W fun e' w' => e' = .returned (.int .u64 ((Q : Nat) : Int)) ∧ w' = W := fun W hW => by
          have := word_any ha hl hc zs W (HR3.out.later hW) hl3
          rw [HM3.out] at this
          exact this
        have TC : ∀ W, Calls Try.prog 79 #[.int .i64 d, .bool (nx != ny), .int .u64 ((Q : Nat) : Int), .bool R, .int .i64 E] W fun e' w' => e' = .returned (.tuple #[.int .u64 ((rP d (nx != ny) R Q E).1 : Int), .bool (rP d (nx != ny) R Q E).2]) ∧ w' = W :=
          fun W => rtold_any d (nx != ny) R Q E HD.out hM2.1 (by omega) hM2.2.1 W _ rfl
        have HRN : Hid _ := hM2.2.2
        clear HMATH hM2 hl3 HH1 HR3 HM3 NV hQ hR
        generalize rP d (nx != ny) R Q E = pp at *
        obtain ⟨pa, pb⟩ := pp
        simp only at TC
        go_region_held3 (fun w' => w'.cell? ⟨w.heap.size, 0, none⟩ = some (.bool nx) ∧ w'.cell? ⟨w.heap.size + 1, 0, none⟩ = some (.bool ny) ∧ w'.cell? ⟨wn.heap.size, 1, none⟩ = some (.slice ha hl hc)) (go_keep)
          (first
            | (go_at_call 80; go_must (refine (WC _ ?_).mono ?_; exact (Below.refl _ _).drew; rintro ee ww ⟨rfl, rfl⟩))
            | (go_at_call 79; go_must (refine (TC _).mono ?_; rintro ee ww ⟨rfl, rfl⟩)))
        all_goals go_wp2_with fail
        all_goals
          go_ret2
          exact ⟨pa, pb, rfl, fun _ => HRN.out, fun h => absurd h HY0.out, HB1.out.drew⟩
      · have HNB : Hid (NumB wn wm.heap.size) := ⟨_, _, _, _, _, HZ3.out⟩
        have HH1 : Hid (VarN (((wn.setCell ⟨wm.heap.size, 0, none⟩ (.bool false)).setCell ⟨wm.heap.size, 1, none⟩ (.slice ha hl hc)).setCell ⟨wm.heap.size, 2, none⟩ (.int .i64 0)) wm.heap.size false ha hl hc 0 _) := VarN.own3 HNB.out HZ3.out NV.out
        have XX1 : Hid (VarN (((wn.setCell ⟨wm.heap.size, 0, none⟩ (.bool false)).setCell ⟨wm.heap.size, 1, none⟩ (.slice ha hl hc)).setCell ⟨wm.heap.size, 2, none⟩ (.int .i64 0)) w.heap.size nx ao len cap ex mx) := VarN.set3 _ _ _ HNB.out XXn.out (Nat.ne_of_lt XXm.out.lt)
        have YY1 : Hid (VarN (((wn.setCell ⟨wm.heap.size, 0, none⟩ (.bool false)).setCell ⟨wm.heap.size, 1, none⟩ (.slice ha hl hc)).setCell ⟨wm.heap.size, 2, none⟩ (.int .i64 0)) (w.heap.size + 1) ny bo blen bcap ey my) := VarN.set3 _ _ _ HNB.out YYn.out (Nat.ne_of_lt YYm.out.lt)
        have HB1 : Hid (Below w.heap.size w (((wn.setCell ⟨wm.heap.size, 0, none⟩ (.bool false)).setCell ⟨wm.heap.size, 1, none⟩ (.slice ha hl hc)).setCell ⟨wm.heap.size, 2, none⟩ (.int .i64 0))) := ((HBn.out.setCell (Nat.le_of_lt XXm.out.lt) _).setCell (Nat.le_of_lt XXm.out.lt) _).setCell (Nat.le_of_lt XXm.out.lt) _
        have hne1 : wm.heap.size ≠ w.heap.size := Nat.ne_of_gt XXm.out.lt
        clear aap0 aap1 aap2 bbp0 bbp1 bbp2 xxp0 xxp1 xxp2 yyp0 yyp1 yyp2 aam0 aam1 aam2 bbm0 bbm1 bbm2 xxm0 xxm1 xxm2 yym0 yym1 yym2 aan0 aan1 aan2 bbn0 bbn1 bbn2 xxn0 xxn1 xxn2 yyn0 yyn1 yyn2
        clear nm1 nm2 nn1 nn2 np1 np2 AAp AAq AAm AAn BBp BBq BBm BBn XXp XXq XXm YYp YYq YYm HBp HBq HBm
        clear z0 z1 z2 fz
        generalize (((wn.setCell ⟨wm.heap.size, 0, none⟩ (.bool false)).setCell ⟨wm.heap.size, 1, none⟩ (.slice ha hl hc)).setCell ⟨wm.heap.size, 2, none⟩ (.int .i64 0)) = W1 at *
        obtain ⟨h0, h1, h2⟩ := HH1.out.cells
        obtain ⟨u0, u1, u2⟩ := XX1.out.cells
        obtain ⟨v0, v1, v2⟩ := YY1.out.cells
        clear h0 h2 u1 u2 v1 v2
        obtain ⟨zs, hr3, hnm3, hm3⟩ := HH1.out.rd
        have hl3 : hl ≤ 2 := two_words hr3.length hr3.lt hnm3 hm3 HMATH.out.1
        have HR3 : Hid _ := hr3
        have HM3 : Hid _ := hm3
        clear hr3 hm3 hnm3
        go_wp2_with fail
        obtain ⟨Q, hQ⟩ : ∃ Q, mx * 2 ^ (ex - lowE ex (ey + (E - 1))).toNat / (my * 2 ^ (ey + (E - 1) - lowE ex (ey + (E - 1))).toNat) = Q := ⟨_, rfl⟩
        obtain ⟨R, hR⟩ : ∃ R, nz (mx * 2 ^ (ex - lowE ex (ey + (E - 1))).toNat % (my * 2 ^ (ey + (E - 1) - lowE ex (ey + (E - 1))).toNat)) = R := ⟨_, rfl⟩
        rw [hR]
        rw [hQ] at HM3
        have hM2 := HMATH.out
        rw [hQ, hR] at hM2
        have WC : ∀ W, Below W1.heap.size W1 W → Calls Try.prog 80 #[.slice ha hl hc] W fun e' w' => e' = .returned (.int .u64 ((Q : Nat) : Int)) ∧ w' = W := fun W hW => by
          have := word_any ha hl hc zs W (HR3.out.later hW) hl3
          rw [HM3.out] at this
          exact this
        have TC : ∀ W, Calls Try.prog 79 #[.int .i64 d, .bool (nx != ny), .int .u64 ((Q : Nat) : Int), .bool R, .int .i64 E] W fun e' w' => e' = .returned (.tuple #[.int .u64 ((rP d (nx != ny) R Q E).1 : Int), .bool (rP d (nx != ny) R Q E).2]) ∧ w' = W :=
          fun W => rtold_any d (nx != ny) R Q E HD.out hM2.1 (by omega) hM2.2.1 W _ rfl
        have HRN : Hid _ := hM2.2.2
        clear HMATH hM2 hl3 HH1 HR3 HM3 NV hQ hR
        generalize rP d (nx != ny) R Q E = pp at *
        obtain ⟨pa, pb⟩ := pp
        simp only at TC
        go_region_held3 (fun w' => w'.cell? ⟨w.heap.size, 0, none⟩ = some (.bool nx) ∧ w'.cell? ⟨w.heap.size + 1, 0, none⟩ = some (.bool ny) ∧ w'.cell? ⟨wm.heap.size, 1, none⟩ = some (.slice ha hl hc)) (go_keep)
          (first
            | (go_at_call 80; go_must (refine (WC _ ?_).mono ?_; exact (Below.refl _ _).drew; rintro ee ww ⟨rfl, rfl⟩))
            | (go_at_call 79; go_must (refine (TC _).mono ?_; rintro ee ww ⟨rfl, rfl⟩)))
        all_goals go_wp2_with fail
        all_goals
          go_ret2
          exact ⟨pa, pb, rfl, fun _ => HRN.out, fun h => absurd h HY0.out, HB1.out.drew⟩
      · have HNB : Hid (NumB wn wp.heap.size) := ⟨_, _, _, _, _, HZ2.out⟩
        have HH1 : Hid (VarN (((wn.setCell ⟨wp.heap.size, 0, none⟩ (.bool false)).setCell ⟨wp.heap.size, 1, none⟩ (.slice ha hl hc)).setCell ⟨wp.heap.size, 2, none⟩ (.int .i64 0)) wp.heap.size false ha hl hc 0 _) := VarN.own3 HNB.out HZ2.out NV.out
        have XX1 : Hid (VarN (((wn.setCell ⟨wp.heap.size, 0, none⟩ (.bool false)).setCell ⟨wp.heap.size, 1, none⟩ (.slice ha hl hc)).setCell ⟨wp.heap.size, 2, none⟩ (.int .i64 0)) w.heap.size nx ao len cap ex mx) := VarN.set3 _ _ _ HNB.out XXn.out (Nat.ne_of_lt XXp.out.lt)
        have YY1 : Hid (VarN (((wn.setCell ⟨wp.heap.size, 0, none⟩ (.bool false)).setCell ⟨wp.heap.size, 1, none⟩ (.slice ha hl hc)).setCell ⟨wp.heap.size, 2, none⟩ (.int .i64 0)) (w.heap.size + 1) ny bo blen bcap ey my) := VarN.set3 _ _ _ HNB.out YYn.out (Nat.ne_of_lt YYp.out.lt)
        have HB1 : Hid (Below w.heap.size w (((wn.setCell ⟨wp.heap.size, 0, none⟩ (.bool false)).setCell ⟨wp.heap.size, 1, none⟩ (.slice ha hl hc)).setCell ⟨wp.heap.size, 2, none⟩ (.int .i64 0))) := ((HBn.out.setCell (Nat.le_of_lt XXp.out.lt) _).setCell (Nat.le_of_lt XXp.out.lt) _).setCell (Nat.le_of_lt XXp.out.lt) _
        have hne1 : wp.heap.size ≠ w.heap.size := Nat.ne_of_gt XXp.out.lt
        clear aap0 aap1 aap2 bbp0 bbp1 bbp2 xxp0 xxp1 xxp2 yyp0 yyp1 yyp2 aam0 aam1 aam2 bbm0 bbm1 bbm2 xxm0 xxm1 xxm2 yym0 yym1 yym2 aan0 aan1 aan2 bbn0 bbn1 bbn2 xxn0 xxn1 xxn2 yyn0 yyn1 yyn2
        clear nm1 nm2 nn1 nn2 np1 np2 AAp AAq AAm AAn BBp BBq BBm BBn XXp XXq XXm YYp YYq YYm HBp HBq HBm
        clear z0 z1 z2 fz
        generalize (((wn.setCell ⟨wp.heap.size, 0, none⟩ (.bool false)).setCell ⟨wp.heap.size, 1, none⟩ (.slice ha hl hc)).setCell ⟨wp.heap.size, 2, none⟩ (.int .i64 0)) = W1 at *
        obtain ⟨h0, h1, h2⟩ := HH1.out.cells
        obtain ⟨u0, u1, u2⟩ := XX1.out.cells
        obtain ⟨v0, v1, v2⟩ := YY1.out.cells
        clear h0 h2 u1 u2 v1 v2
        obtain ⟨zs, hr3, hnm3, hm3⟩ := HH1.out.rd
        have hl3 : hl ≤ 2 := two_words hr3.length hr3.lt hnm3 hm3 HMATH.out.1
        have HR3 : Hid _ := hr3
        have HM3 : Hid _ := hm3
        clear hr3 hm3 hnm3
        go_wp2_with fail
        obtain ⟨Q, hQ⟩ : ∃ Q, mx * 2 ^ (ex - lowE ex (ey + (E - 1))).toNat / (my * 2 ^ (ey + (E - 1) - lowE ex (ey + (E - 1))).toNat) = Q := ⟨_, rfl⟩
        obtain ⟨R, hR⟩ : ∃ R, nz (mx * 2 ^ (ex - lowE ex (ey + (E - 1))).toNat % (my * 2 ^ (ey + (E - 1) - lowE ex (ey + (E - 1))).toNat)) = R := ⟨_, rfl⟩
        rw [hR]
        rw [hQ] at HM3
        have hM2 := HMATH.out
        rw [hQ, hR] at hM2
        have WC : ∀ W, Below W1.heap.size W1 W → Calls Try.prog 80 #[.slice ha hl hc] W fun e' w' => e' = .returned (.int .u64 ((Q : Nat) : Int)) ∧ w' = W := fun W hW => by
          have := word_any ha hl hc zs W (HR3.out.later hW) hl3
          rw [HM3.out] at this
          exact this
        have TC : ∀ W, Calls Try.prog 79 #[.int .i64 d, .bool (nx != ny), .int .u64 ((Q : Nat) : Int), .bool R, .int .i64 E] W fun e' w' => e' = .returned (.tuple #[.int .u64 ((rP d (nx != ny) R Q E).1 : Int), .bool (rP d (nx != ny) R Q E).2]) ∧ w' = W :=
          fun W => rtold_any d (nx != ny) R Q E HD.out hM2.1 (by omega) hM2.2.1 W _ rfl
        have HRN : Hid _ := hM2.2.2
        clear HMATH hM2 hl3 HH1 HR3 HM3 NV hQ hR
        generalize rP d (nx != ny) R Q E = pp at *
        obtain ⟨pa, pb⟩ := pp
        simp only at TC
        go_region_held3 (fun w' => w'.cell? ⟨w.heap.size, 0, none⟩ = some (.bool nx) ∧ w'.cell? ⟨w.heap.size + 1, 0, none⟩ = some (.bool ny) ∧ w'.cell? ⟨wp.heap.size, 1, none⟩ = some (.slice ha hl hc)) (go_keep)
          (first
            | (go_at_call 80; go_must (refine (WC _ ?_).mono ?_; exact (Below.refl _ _).drew; rintro ee ww ⟨rfl, rfl⟩))
            | (go_at_call 79; go_must (refine (TC _).mono ?_; rintro ee ww ⟨rfl, rfl⟩)))
        all_goals go_wp2_with fail
        all_goals
          go_ret2
          exact ⟨pa, pb, rfl, fun _ => HRN.out, fun h => absurd h HY0.out, HB1.out.drew⟩
    · rw [if_pos hgl] at hkk
      rw [if_neg hmx] at hEf
      subst hkk
      have HEF : Hid _ := hEf
      clear hEf
      go_wp2_with fail
      all_goals (try (exfalso; omega))
      rw [HEF.out]
      have hrf : Below wp.heap.size wp wp.drew := (Below.refl _ _).drew
      have AAq : Hid (VarN wp.drew w3.heap.size false sa sl sc ex mx) := AAp.out.later hrf
      have BBq : Hid (VarN wp.drew w5.heap.size false ta tl tc ey my) := BBp.out.later hrf
      have XXq : Hid (VarN wp.drew w.heap.size nx ao len cap ex mx) := XXp.out.later hrf
      have YYq : Hid (VarN wp.drew (w.heap.size + 1) ny bo blen bcap ey my) := YYp.out.later hrf
      have HBq : Hid (Below w.heap.size w wp.drew) := HBp.out.trans (hrf.mono HBp.out.size)
      clear hrf
      go_region_held3 (fun w' => w'.cell? ⟨w3.heap.size, 0, none⟩ = some (.bool false) ∧ w'.cell? ⟨w3.heap.size, 1, none⟩ = some (.slice sa sl sc) ∧ w'.cell? ⟨w3.heap.size, 2, none⟩ = some (.int .i64 ex) ∧ w'.cell? ⟨w5.heap.size, 0, none⟩ = some (.bool false) ∧ w'.cell? ⟨w5.heap.size, 1, none⟩ = some (.slice ta tl tc) ∧ w'.cell? ⟨w5.heap.size, 2, none⟩ = some (.int .i64 ey)) (go_keep)
        (first
          | (go_at_call 44; go_must (refine (moved_any _ false my ey (E - 1) (by omega) (by omega) _ (by first | exact BBq.out.num | exact (BBq.out.alloc _).num)).mono ?_; rintro em wm ⟨vm, rfl, hnm, hbm⟩; rw [if_neg HY0.out] at hnm; have AAm : Hid (VarN wm w3.heap.size false sa sl sc ex mx) := (by first | exact AAq.out.later hbm | exact (AAq.out.alloc _).later hbm); obtain ⟨aam0, aam1, aam2⟩ := AAm.out.cells; have BBm : Hid (VarN wm w5.heap.size false ta tl tc ey my) := (by first | exact BBq.out.later hbm | exact (BBq.out.alloc _).later hbm); obtain ⟨bbm0, bbm1, bbm2⟩ := BBm.out.cells; have XXm : Hid (VarN wm w.heap.size nx ao len cap ex mx) := (by first | exact XXq.out.later hbm | exact (XXq.out.alloc _).later hbm); obtain ⟨xxm0, xxm1, xxm2⟩ := XXm.out.cells; have YYm : Hid (VarN wm (w.heap.size + 1) ny bo blen bcap ey my) := (by first | exact YYq.out.later hbm | exact (YYq.out.alloc _).later hbm); obtain ⟨yym0, yym1, yym2⟩ := YYm.out.cells; have HBm : Hid (Below w.heap.size w wm) := (by first | exact HBq.out.trans (hbm.mono HBq.out.size) | exact (HBq.out.alloc HBq.out.size _).trans (hbm.mono (Nat.le_trans HBq.out.size (by simp)))); have nm1 : wm.heap.size ≠ w3.heap.size := Nat.ne_of_gt AAm.out.lt; have nm2 : wm.heap.size ≠ w5.heap.size := Nat.ne_of_gt BBm.out.lt; have NM : Hid (NumV wm vm false my (ey + (E - 1))) := hnm; (try (have HZ1 : Hid (wm.heap[wp.heap.size]? = some (Obj.cells #[Value.bool false, Value.slice none 0 0, Value.int IntKind.i64 0] 27)) := (hbm.block wp.heap.size (by simp)).trans (heap_alloc_new _ _))); clear hnm hbm))
          | (go_at_call 87; go_must (refine (part_any _ _ false false mx my ex (ey + (E - 1)) _ (by first | exact AAm.out.num | exact (AAm.out.alloc _).num) (by first | exact NM.out | exact NumV.later NM.out ((Below.refl _ _).alloc (Nat.le_refl _) _)) (by omega) (by omega) (by omega) (by omega) HX0.out HY0.out).mono ?_; rintro en wn ⟨vn, rfl, hvn, hbn⟩; have AAn : Hid (VarN wn w3.heap.size false sa sl sc ex mx) := (by first | exact AAm.out.later hbn | exact (AAm.out.alloc _).later hbn); obtain ⟨aan0, aan1, aan2⟩ := AAn.out.cells; have BBn : Hid (VarN wn w5.heap.size false ta tl tc ey my) := (by first | exact BBm.out.later hbn | exact (BBm.out.alloc _).later hbn); obtain ⟨bbn0, bbn1, bbn2⟩ := BBn.out.cells; have XXn : Hid (VarN wn w.heap.size nx ao len cap ex mx) := (by first | exact XXm.out.later hbn | exact (XXm.out.alloc _).later hbn); obtain ⟨xxn0, xxn1, xxn2⟩ := XXn.out.cells; have YYn : Hid (VarN wn (w.heap.size + 1) ny bo blen bcap ey my) := (by first | exact YYm.out.later hbn | exact (YYm.out.alloc _).later hbn); obtain ⟨yyn0, yyn1, yyn2⟩ := YYn.out.cells; have HBn : Hid (Below w.heap.size w wn) := (by first | exact HBm.out.trans (hbn.mono HBm.out.size) | exact (HBm.out.alloc HBm.out.size _).trans (hbn.mono (Nat.le_trans HBm.out.size (by simp)))); have nn1 : wn.heap.size ≠ w3.heap.size := Nat.ne_of_gt AAn.out.lt; have nn2 : wn.heap.size ≠ w5.heap.size := Nat.ne_of_gt BBn.out.lt; have NV : Hid (NumV wn vn false _ 0) := hvn; obtain ⟨ha, hl, hc, hxs, rfl, -⟩ := hvn; (try (have HZ2 : Hid (wn.heap[wp.heap.size]? = some (Obj.cells #[Value.bool false, Value.slice none 0 0, Value.int IntKind.i64 0] 27)) := (hbn.block wp.heap.size (heap_lt HZ1.out)).trans HZ1.out; obtain ⟨z0, z1, z2⟩ := three_cells HZ2.out; have fz := (fun j => frozen_of_row _ _ j _ _ HZ2.out))); (try (have HZ3 : Hid (wn.heap[wm.heap.size]? = some (Obj.cells #[Value.bool false, Value.slice none 0 0, Value.int IntKind.i64 0] 27)) := (hbn.block wm.heap.size (by simp)).trans (heap_alloc_new _ _); obtain ⟨z0, z1, z2⟩ := three_cells HZ3.out; have fz := (fun j => frozen_of_row _ _ j _ _ HZ3.out))); clear hbn)))
      · have HH1 : Hid (VarN (wn.alloc (Obj.cells #[Value.bool false, Value.slice ha hl hc, Value.int IntKind.i64 0] 27)) wn.heap.size false ha hl hc 0 _) := VarN.new NV.out
        have XX1 : Hid (VarN (wn.alloc (Obj.cells #[Value.bool false, Value.slice ha hl hc, Value.int IntKind.i64 0] 27)) w.heap.size nx ao len cap ex mx) := XXn.out.alloc _
        have YY1 : Hid (VarN (wn.alloc (Obj.cells #[Value.bool false, Value.slice ha hl hc, Value.int IntKind.i64 0] 27)) (w.heap.size + 1) ny bo blen bcap ey my) := YYn.out.alloc _
        have HB1 : Hid (Below w.heap.size w (wn.alloc (Obj.cells #[Value.bool false, Value.slice ha hl hc, Value.int IntKind.i64 0] 27))) := HBn.out.alloc HBn.out.size _
        have hne1 : wn.heap.size ≠ w.heap.size := Nat.ne_of_gt XXn.out.lt
        clear aap0 aap1 aap2 bbp0 bbp1 bbp2 xxp0 xxp1 xxp2 yyp0 yyp1 yyp2 aam0 aam1 aam2 bbm0 bbm1 bbm2 xxm0 xxm1 xxm2 yym0 yym1 yym2 aan0 aan1 aan2 bbn0 bbn1 bbn2 xxn0 xxn1 xxn2 yyn0 yyn1 yyn2
        clear nm1 nm2 nn1 nn2 np1 np2 AAp AAq AAm AAn BBp BBq BBm BBn XXp XXq XXm YYp YYq YYm HBp HBq HBm
        generalize (wn.alloc (Obj.cells #[Value.bool false, Value.slice ha hl hc, Value.int IntKind.i64 0] 27)) = W1 at *
        obtain ⟨h0, h1, h2⟩ := HH1.out.cells
        obtain ⟨u0, u1, u2⟩ := XX1.out.cells
        obtain ⟨v0, v1, v2⟩ := YY1.out.cells
        clear h0 h2 u1 u2 v1 v2
        obtain ⟨zs, hr3, hnm3, hm3⟩ := HH1.out.rd
        have hl3 : hl ≤ 2 := two_words hr3.length hr3.lt hnm3 hm3 HMATH.out.1
        have HR3 : Hid _ := hr3
        have HM3 : Hid _ := hm3
        clear hr3 hm3 hnm3
        go_wp2_with fail
        obtain ⟨Q, hQ⟩ : ∃ Q, mx * 2 ^ (ex - lowE ex (ey + (E - 1))).toNat / (my * 2 ^ (ey + (E - 1) - lowE ex (ey + (E - 1))).toNat) = Q := ⟨_, rfl⟩
        obtain ⟨R, hR⟩ : ∃ R, nz (mx * 2 ^ (ex - lowE ex (ey + (E - 1))).toNat % (my * 2 ^ (ey + (E - 1) - lowE ex (ey + (E - 1))).toNat)) = R := ⟨_, rfl⟩
        rw [hR]
        rw [hQ] at HM3
        have hM2 := HMATH.out
        rw [hQ, hR] at hM2
        have WC : ∀ W, Below W1.heap.size W1 W → Calls Try.prog 80 #[.slice ha hl hc] W fun e' w' => e' = .returned (.int .u64 ((Q : Nat) : Int)) ∧ w' = W := fun W hW => by
          have := word_any ha hl hc zs W (HR3.out.later hW) hl3
          rw [HM3.out] at this
          exact this
        have TC : ∀ W, Calls Try.prog 79 #[.int .i64 d, .bool (nx != ny), .int .u64 ((Q : Nat) : Int), .bool R, .int .i64 E] W fun e' w' => e' = .returned (.tuple #[.int .u64 ((rP d (nx != ny) R Q E).1 : Int), .bool (rP d (nx != ny) R Q E).2]) ∧ w' = W :=
          fun W => rtold_any d (nx != ny) R Q E HD.out hM2.1 (by omega) hM2.2.1 W _ rfl
        have HRN : Hid _ := hM2.2.2
        clear HMATH hM2 hl3 HH1 HR3 HM3 NV hQ hR
        generalize rP d (nx != ny) R Q E = pp at *
        obtain ⟨pa, pb⟩ := pp
        simp only at TC
        go_region_held3 (fun w' => w'.cell? ⟨w.heap.size, 0, none⟩ = some (.bool nx) ∧ w'.cell? ⟨w.heap.size + 1, 0, none⟩ = some (.bool ny) ∧ w'.cell? ⟨wn.heap.size, 1, none⟩ = some (.slice ha hl hc)) (go_keep)
          (first
            | (go_at_call 80; go_must (refine (WC _ ?_).mono ?_; exact (Below.refl _ _).drew; rintro ee ww ⟨rfl, rfl⟩))
            | (go_at_call 79; go_must (refine (TC _).mono ?_; rintro ee ww ⟨rfl, rfl⟩)))
        all_goals go_wp2_with fail
        all_goals
          go_ret2
          exact ⟨pa, pb, rfl, fun _ => HRN.out, fun h => absurd h HY0.out, HB1.out.drew⟩
      · have HNB : Hid (NumB wn wm.heap.size) := ⟨_, _, _, _, _, HZ3.out⟩
        have HH1 : Hid (VarN (((wn.setCell ⟨wm.heap.size, 0, none⟩ (.bool false)).setCell ⟨wm.heap.size, 1, none⟩ (.slice ha hl hc)).setCell ⟨wm.heap.size, 2, none⟩ (.int .i64 0)) wm.heap.size false ha hl hc 0 _) := VarN.own3 HNB.out HZ3.out NV.out
        have XX1 : Hid (VarN (((wn.setCell ⟨wm.heap.size, 0, none⟩ (.bool false)).setCell ⟨wm.heap.size, 1, none⟩ (.slice ha hl hc)).setCell ⟨wm.heap.size, 2, none⟩ (.int .i64 0)) w.heap.size nx ao len cap ex mx) := VarN.set3 _ _ _ HNB.out XXn.out (Nat.ne_of_lt XXm.out.lt)
        have YY1 : Hid (VarN (((wn.setCell ⟨wm.heap.size, 0, none⟩ (.bool false)).setCell ⟨wm.heap.size, 1, none⟩ (.slice ha hl hc)).setCell ⟨wm.heap.size, 2, none⟩ (.int .i64 0)) (w.heap.size + 1) ny bo blen bcap ey my) := VarN.set3 _ _ _ HNB.out YYn.out (Nat.ne_of_lt YYm.out.lt)
        have HB1 : Hid (Below w.heap.size w (((wn.setCell ⟨wm.heap.size, 0, none⟩ (.bool false)).setCell ⟨wm.heap.size, 1, none⟩ (.slice ha hl hc)).setCell ⟨wm.heap.size, 2, none⟩ (.int .i64 0))) := ((HBn.out.setCell (Nat.le_of_lt XXm.out.lt) _).setCell (Nat.le_of_lt XXm.out.lt) _).setCell (Nat.le_of_lt XXm.out.lt) _
        have hne1 : wm.heap.size ≠ w.heap.size := Nat.ne_of_gt XXm.out.lt
        clear aap0 aap1 aap2 bbp0 bbp1 bbp2 xxp0 xxp1 xxp2 yyp0 yyp1 yyp2 aam0 aam1 aam2 bbm0 bbm1 bbm2 xxm0 xxm1 xxm2 yym0 yym1 yym2 aan0 aan1 aan2 bbn0 bbn1 bbn2 xxn0 xxn1 xxn2 yyn0 yyn1 yyn2
        clear nm1 nm2 nn1 nn2 np1 np2 AAp AAq AAm AAn BBp BBq BBm BBn XXp XXq XXm YYp YYq YYm HBp HBq HBm
        clear z0 z1 z2 fz
        generalize (((wn.setCell ⟨wm.heap.size, 0, none⟩ (.bool false)).setCell ⟨wm.heap.size, 1, none⟩ (.slice ha hl hc)).setCell ⟨wm.heap.size, 2, none⟩ (.int .i64 0)) = W1 at *
        obtain ⟨h0, h1, h2⟩ := HH1.out.cells
        obtain ⟨u0, u1, u2⟩ := XX1.out.cells
        obtain ⟨v0, v1, v2⟩ := YY1.out.cells
        clear h0 h2 u1 u2 v1 v2
        obtain ⟨zs, hr3, hnm3, hm3⟩ := HH1.out.rd
        have hl3 : hl ≤ 2 := two_words hr3.length hr3.lt hnm3 hm3 HMATH.out.1
        have HR3 : Hid _ := hr3
        have HM3 : Hid _ := hm3
        clear hr3 hm3 hnm3
        go_wp2_with fail
        obtain ⟨Q, hQ⟩ : ∃ Q, mx * 2 ^ (ex - lowE ex (ey + (E - 1))).toNat / (my * 2 ^ (ey + (E - 1) - lowE ex (ey + (E - 1))).toNat) = Q := ⟨_, rfl⟩
        obtain ⟨R, hR⟩ : ∃ R, nz (mx * 2 ^ (ex - lowE ex (ey + (E - 1))).toNat % (my * 2 ^ (ey + (E - 1) - lowE ex (ey + (E - 1))).toNat)) = R := ⟨_, rfl⟩
        rw [hR]
        rw [hQ] at HM3
        have hM2 := HMATH.out
        rw [hQ, hR] at hM2
        have WC : ∀ W, Below W1.heap.size W1 W → Calls Try.prog 80 #[.slice ha hl hc] W fun e' w' => e' = .returned (.int .u64 ((Q : Nat) : Int)) ∧ w' = W := fun W hW => by
          have := word_any ha hl hc zs W (HR3.out.later hW) hl3
          rw [HM3.out] at this
          exact this
        have TC : ∀ W, Calls Try.prog 79 #[.int .i64 d, .bool (nx != ny), .int .u64 ((Q : Nat) : Int), .bool R, .int .i64 E] W fun e' w' => e' = .returned (.tuple #[.int .u64 ((rP d (nx != ny) R Q E).1 : Int), .bool (rP d (nx != ny) R Q E).2]) ∧ w' = W :=
          fun W => rtold_any d (nx != ny) R Q E HD.out hM2.1 (by omega) hM2.2.1 W _ rfl
        have HRN : Hid _ := hM2.2.2
        clear HMATH hM2 hl3 HH1 HR3 HM3 NV hQ hR
        generalize rP d (nx != ny) R Q E = pp at *
        obtain ⟨pa, pb⟩ := pp
        simp only at TC
        go_region_held3 (fun w' => w'.cell? ⟨w.heap.size, 0, none⟩ = some (.bool nx) ∧ w'.cell? ⟨w.heap.size + 1, 0, none⟩ = some (.bool ny) ∧ w'.cell? ⟨wm.heap.size, 1, none⟩ = some (.slice ha hl hc)) (go_keep)
          (first
            | (go_at_call 80; go_must (refine (WC _ ?_).mono ?_; exact (Below.refl _ _).drew; rintro ee ww ⟨rfl, rfl⟩))
            | (go_at_call 79; go_must (refine (TC _).mono ?_; rintro ee ww ⟨rfl, rfl⟩)))
        all_goals go_wp2_with fail
        all_goals
          go_ret2
          exact ⟨pa, pb, rfl, fun _ => HRN.out, fun h => absurd h HY0.out, HB1.out.drew⟩
      · have HNB : Hid (NumB wn wp.heap.size) := ⟨_, _, _, _, _, HZ2.out⟩
        have HH1 : Hid (VarN (((wn.setCell ⟨wp.heap.size, 0, none⟩ (.bool false)).setCell ⟨wp.heap.size, 1, none⟩ (.slice ha hl hc)).setCell ⟨wp.heap.size, 2, none⟩ (.int .i64 0)) wp.heap.size false ha hl hc 0 _) := VarN.own3 HNB.out HZ2.out NV.out
        have XX1 : Hid (VarN (((wn.setCell ⟨wp.heap.size, 0, none⟩ (.bool false)).setCell ⟨wp.heap.size, 1, none⟩ (.slice ha hl hc)).setCell ⟨wp.heap.size, 2, none⟩ (.int .i64 0)) w.heap.size nx ao len cap ex mx) := VarN.set3 _ _ _ HNB.out XXn.out (Nat.ne_of_lt XXp.out.lt)
        have YY1 : Hid (VarN (((wn.setCell ⟨wp.heap.size, 0, none⟩ (.bool false)).setCell ⟨wp.heap.size, 1, none⟩ (.slice ha hl hc)).setCell ⟨wp.heap.size, 2, none⟩ (.int .i64 0)) (w.heap.size + 1) ny bo blen bcap ey my) := VarN.set3 _ _ _ HNB.out YYn.out (Nat.ne_of_lt YYp.out.lt)
        have HB1 : Hid (Below w.heap.size w (((wn.setCell ⟨wp.heap.size, 0, none⟩ (.bool false)).setCell ⟨wp.heap.size, 1, none⟩ (.slice ha hl hc)).setCell ⟨wp.heap.size, 2, none⟩ (.int .i64 0))) := ((HBn.out.setCell (Nat.le_of_lt XXp.out.lt) _).setCell (Nat.le_of_lt XXp.out.lt) _).setCell (Nat.le_of_lt XXp.out.lt) _
        have hne1 : wp.heap.size ≠ w.heap.size := Nat.ne_of_gt XXp.out.lt
        clear aap0 aap1 aap2 bbp0 bbp1 bbp2 xxp0 xxp1 xxp2 yyp0 yyp1 yyp2 aam0 aam1 aam2 bbm0 bbm1 bbm2 xxm0 xxm1 xxm2 yym0 yym1 yym2 aan0 aan1 aan2 bbn0 bbn1 bbn2 xxn0 xxn1 xxn2 yyn0 yyn1 yyn2
        clear nm1 nm2 nn1 nn2 np1 np2 AAp AAq AAm AAn BBp BBq BBm BBn XXp XXq XXm YYp YYq YYm HBp HBq HBm
        clear z0 z1 z2 fz
        generalize (((wn.setCell ⟨wp.heap.size, 0, none⟩ (.bool false)).setCell ⟨wp.heap.size, 1, none⟩ (.slice ha hl hc)).setCell ⟨wp.heap.size, 2, none⟩ (.int .i64 0)) = W1 at *
        obtain ⟨h0, h1, h2⟩ := HH1.out.cells
        obtain ⟨u0, u1, u2⟩ := XX1.out.cells
        obtain ⟨v0, v1, v2⟩ := YY1.out.cells
        clear h0 h2 u1 u2 v1 v2
        obtain ⟨zs, hr3, hnm3, hm3⟩ := HH1.out.rd
        have hl3 : hl ≤ 2 := two_words hr3.length hr3.lt hnm3 hm3 HMATH.out.1
        have HR3 : Hid _ := hr3
        have HM3 : Hid _ := hm3
        clear hr3 hm3 hnm3
        go_wp2_with fail
        obtain ⟨Q, hQ⟩ : ∃ Q, mx * 2 ^ (ex - lowE ex (ey + (E - 1))).toNat / (my * 2 ^ (ey + (E - 1) - lowE ex (ey + (E - 1))).toNat) = Q := ⟨_, rfl⟩
        obtain ⟨R, hR⟩ : ∃ R, nz (mx * 2 ^ (ex - lowE ex (ey + (E - 1))).toNat % (my * 2 ^ (ey + (E - 1) - lowE ex (ey + (E - 1))).toNat)) = R := ⟨_, rfl⟩
        rw [hR]
        rw [hQ] at HM3
        have hM2 := HMATH.out
        rw [hQ, hR] at hM2
        have WC : ∀ W, Below W1.heap.size W1 W → Calls Try.prog 80 #[.slice ha hl hc] W fun e' w' => e' = .returned (.int .u64 ((Q : Nat) : Int)) ∧ w' = W := fun W hW => by
          have := word_any ha hl hc zs W (HR3.out.later hW) hl3
          rw [HM3.out] at this
          exact this
        have TC : ∀ W, Calls Try.prog 79 #[.int .i64 d, .bool (nx != ny), .int .u64 ((Q : Nat) : Int), .bool R, .int .i64 E] W fun e' w' => e' = .returned (.tuple #[.int .u64 ((rP d (nx != ny) R Q E).1 : Int), .bool (rP d (nx != ny) R Q E).2]) ∧ w' = W :=
          fun W => rtold_any d (nx != ny) R Q E HD.out hM2.1 (by omega) hM2.2.1 W _ rfl
        have HRN : Hid _ := hM2.2.2
        clear HMATH hM2 hl3 HH1 HR3 HM3 NV hQ hR
        generalize rP d (nx != ny) R Q E = pp at *
        obtain ⟨pa, pb⟩ := pp
        simp only at TC
        go_region_held3 (fun w' => w'.cell? ⟨w.heap.size, 0, none⟩ = some (.bool nx) ∧ w'.cell? ⟨w.heap.size + 1, 0, none⟩ = some (.bool ny) ∧ w'.cell? ⟨wp.heap.size, 1, none⟩ = some (.slice ha hl hc)) (go_keep)
          (first
            | (go_at_call 80; go_must (refine (WC _ ?_).mono ?_; exact (Below.refl _ _).drew; rintro ee ww ⟨rfl, rfl⟩))
            | (go_at_call 79; go_must (refine (TC _).mono ?_; rintro ee ww ⟨rfl, rfl⟩)))
        all_goals go_wp2_with fail
        all_goals
          go_ret2
          exact ⟨pa, pb, rfl, fun _ => HRN.out, fun h => absurd h HY0.out, HB1.out.drew⟩
    · rw [if_neg hgl] at hkk
      rw [if_pos hmx] at hEf
      subst hkk
      have HEF : Hid _ := hEf
      clear hEf
      go_wp2_with fail
      all_goals (try (exfalso; omega))
      rw [HEF.out]
      have hrf : Below wp.heap.size wp wp.drew := (Below.refl _ _).drew
      have AAq : Hid (VarN wp.drew w3.heap.size false sa sl sc ex mx) := AAp.out.later hrf
      have BBq : Hid (VarN wp.drew w5.heap.size false ta tl tc ey my) := BBp.out.later hrf
      have XXq : Hid (VarN wp.drew w.heap.size nx ao len cap ex mx) := XXp.out.later hrf
      have YYq : Hid (VarN wp.drew (w.heap.size + 1) ny bo blen bcap ey my) := YYp.out.later hrf
      have HBq : Hid (Below w.heap.size w wp.drew) := HBp.out.trans (hrf.mono HBp.out.size)
      clear hrf
      go_region_held3 (fun w' => w'.cell? ⟨w3.heap.size, 0, none⟩ = some (.bool false) ∧ w'.cell? ⟨w3.heap.size, 1, none⟩ = some (.slice sa sl sc) ∧ w'.cell? ⟨w3.heap.size, 2, none⟩ = some (.int .i64 ex) ∧ w'.cell? ⟨w5.heap.size, 0, none⟩ = some (.bool false) ∧ w'.cell? ⟨w5.heap.size, 1, none⟩ = some (.slice ta tl tc) ∧ w'.cell? ⟨w5.heap.size, 2, none⟩ = some (.int .i64 ey)) (go_keep)
        (first
          | (go_at_call 44; go_must (refine (moved_any _ false my ey (E - 1) (by omega) (by omega) _ (by first | exact BBq.out.num | exact (BBq.out.alloc _).num)).mono ?_; rintro em wm ⟨vm, rfl, hnm, hbm⟩; rw [if_neg HY0.out] at hnm; have AAm : Hid (VarN wm w3.heap.size false sa sl sc ex mx) := (by first | exact AAq.out.later hbm | exact (AAq.out.alloc _).later hbm); obtain ⟨aam0, aam1, aam2⟩ := AAm.out.cells; have BBm : Hid (VarN wm w5.heap.size false ta tl tc ey my) := (by first | exact BBq.out.later hbm | exact (BBq.out.alloc _).later hbm); obtain ⟨bbm0, bbm1, bbm2⟩ := BBm.out.cells; have XXm : Hid (VarN wm w.heap.size nx ao len cap ex mx) := (by first | exact XXq.out.later hbm | exact (XXq.out.alloc _).later hbm); obtain ⟨xxm0, xxm1, xxm2⟩ := XXm.out.cells; have YYm : Hid (VarN wm (w.heap.size + 1) ny bo blen bcap ey my) := (by first | exact YYq.out.later hbm | exact (YYq.out.alloc _).later hbm); obtain ⟨yym0, yym1, yym2⟩ := YYm.out.cells; have HBm : Hid (Below w.heap.size w wm) := (by first | exact HBq.out.trans (hbm.mono HBq.out.size) | exact (HBq.out.alloc HBq.out.size _).trans (hbm.mono (Nat.le_trans HBq.out.size (by simp)))); have nm1 : wm.heap.size ≠ w3.heap.size := Nat.ne_of_gt AAm.out.lt; have nm2 : wm.heap.size ≠ w5.heap.size := Nat.ne_of_gt BBm.out.lt; have NM : Hid (NumV wm vm false my (ey + (E - 1))) := hnm; (try (have HZ1 : Hid (wm.heap[wp.heap.size]? = some (Obj.cells #[Value.bool false, Value.slice none 0 0, Value.int IntKind.i64 0] 27)) := (hbm.block wp.heap.size (by simp)).trans (heap_alloc_new _ _))); clear hnm hbm))
          | (go_at_call 87; go_must (refine (part_any _ _ false false mx my ex (ey + (E - 1)) _ (by first | exact AAm.out.num | exact (AAm.out.alloc _).num) (by first | exact NM.out | exact NumV.later NM.out ((Below.refl _ _).alloc (Nat.le_refl _) _)) (by omega) (by omega) (by omega) (by omega) HX0.out HY0.out).mono ?_; rintro en wn ⟨vn, rfl, hvn, hbn⟩; have AAn : Hid (VarN wn w3.heap.size false sa sl sc ex mx) := (by first | exact AAm.out.later hbn | exact (AAm.out.alloc _).later hbn); obtain ⟨aan0, aan1, aan2⟩ := AAn.out.cells; have BBn : Hid (VarN wn w5.heap.size false ta tl tc ey my) := (by first | exact BBm.out.later hbn | exact (BBm.out.alloc _).later hbn); obtain ⟨bbn0, bbn1, bbn2⟩ := BBn.out.cells; have XXn : Hid (VarN wn w.heap.size nx ao len cap ex mx) := (by first | exact XXm.out.later hbn | exact (XXm.out.alloc _).later hbn); obtain ⟨xxn0, xxn1, xxn2⟩ := XXn.out.cells; have YYn : Hid (VarN wn (w.heap.size + 1) ny bo blen bcap ey my) := (by first | exact YYm.out.later hbn | exact (YYm.out.alloc _).later hbn); obtain ⟨yyn0, yyn1, yyn2⟩ := YYn.out.cells; have HBn : Hid (Below w.heap.size w wn) := (by first | exact HBm.out.trans (hbn.mono HBm.out.size) | exact (HBm.out.alloc HBm.out.size _).trans (hbn.mono (Nat.le_trans HBm.out.size (by simp)))); have nn1 : wn.heap.size ≠ w3.heap.size := Nat.ne_of_gt AAn.out.lt; have nn2 : wn.heap.size ≠ w5.heap.size := Nat.ne_of_gt BBn.out.lt; have NV : Hid (NumV wn vn false _ 0) := hvn; obtain ⟨ha, hl, hc, hxs, rfl, -⟩ := hvn; (try (have HZ2 : Hid (wn.heap[wp.heap.size]? = some (Obj.cells #[Value.bool false, Value.slice none 0 0, Value.int IntKind.i64 0] 27)) := (hbn.block wp.heap.size (heap_lt HZ1.out)).trans HZ1.out; obtain ⟨z0, z1, z2⟩ := three_cells HZ2.out; have fz := (fun j => frozen_of_row _ _ j _ _ HZ2.out))); (try (have HZ3 : Hid (wn.heap[wm.heap.size]? = some (Obj.cells #[Value.bool false, Value.slice none 0 0, Value.int IntKind.i64 0] 27)) := (hbn.block wm.heap.size (by simp)).trans (heap_alloc_new _ _); obtain ⟨z0, z1, z2⟩ := three_cells HZ3.out; have fz := (fun j => frozen_of_row _ _ j _ _ HZ3.out))); clear hbn)))
      · have HH1 : Hid (VarN (wn.alloc (Obj.cells #[Value.bool false, Value.slice ha hl hc, Value.int IntKind.i64 0] 27)) wn.heap.size false ha hl hc 0 _) := VarN.new NV.out
        have XX1 : Hid (VarN (wn.alloc (Obj.cells #[Value.bool false, Value.slice ha hl hc, Value.int IntKind.i64 0] 27)) w.heap.size nx ao len cap ex mx) := XXn.out.alloc _
        have YY1 : Hid (VarN (wn.alloc (Obj.cells #[Value.bool false, Value.slice ha hl hc, Value.int IntKind.i64 0] 27)) (w.heap.size + 1) ny bo blen bcap ey my) := YYn.out.alloc _
        have HB1 : Hid (Below w.heap.size w (wn.alloc (Obj.cells #[Value.bool false, Value.slice ha hl hc, Value.int IntKind.i64 0] 27))) := HBn.out.alloc HBn.out.size _
        have hne1 : wn.heap.size ≠ w.heap.size := Nat.ne_of_gt XXn.out.lt
        clear aap0 aap1 aap2 bbp0 bbp1 bbp2 xxp0 xxp1 xxp2 yyp0 yyp1 yyp2 aam0 aam1 aam2 bbm0 bbm1 bbm2 xxm0 xxm1 xxm2 yym0 yym1 yym2 aan0 aan1 aan2 bbn0 bbn1 bbn2 xxn0 xxn1 xxn2 yyn0 yyn1 yyn2
        clear nm1 nm2 nn1 nn2 np1 np2 AAp AAq AAm AAn BBp BBq BBm BBn XXp XXq XXm YYp YYq YYm HBp HBq HBm
        generalize (wn.alloc (Obj.cells #[Value.bool false, Value.slice ha hl hc, Value.int IntKind.i64 0] 27)) = W1 at *
        obtain ⟨h0, h1, h2⟩ := HH1.out.cells
        obtain ⟨u0, u1, u2⟩ := XX1.out.cells
        obtain ⟨v0, v1, v2⟩ := YY1.out.cells
        clear h0 h2 u1 u2 v1 v2
        obtain ⟨zs, hr3, hnm3, hm3⟩ := HH1.out.rd
        have hl3 : hl ≤ 2 := two_words hr3.length hr3.lt hnm3 hm3 HMATH.out.1
        have HR3 : Hid _ := hr3
        have HM3 : Hid _ := hm3
        clear hr3 hm3 hnm3
        go_wp2_with fail
        obtain ⟨Q, hQ⟩ : ∃ Q, mx * 2 ^ (ex - lowE ex (ey + (E - 1))).toNat / (my * 2 ^ (ey + (E - 1) - lowE ex (ey + (E - 1))).toNat) = Q := ⟨_, rfl⟩
        obtain ⟨R, hR⟩ : ∃ R, nz (mx * 2 ^ (ex - lowE ex (ey + (E - 1))).toNat % (my * 2 ^ (ey + (E - 1) - lowE ex (ey + (E - 1))).toNat)) = R := ⟨_, rfl⟩
        rw [hR]
        rw [hQ] at HM3
        have hM2 := HMATH.out
        rw [hQ, hR] at hM2
        have WC : ∀ W, Below W1.heap.size W1 W → Calls Try.prog 80 #[.slice ha hl hc] W fun e' w' => e' = .returned (.int .u64 ((Q : Nat) : Int)) ∧ w' = W := fun W hW => by
          have := word_any ha hl hc zs W (HR3.out.later hW) hl3
          rw [HM3.out] at this
          exact this
        have TC : ∀ W, Calls Try.prog 79 #[.int .i64 d, .bool (nx != ny), .int .u64 ((Q : Nat) : Int), .bool R, .int .i64 E] W fun e' w' => e' = .returned (.tuple #[.int .u64 ((rP d (nx != ny) R Q E).1 : Int), .bool (rP d (nx != ny) R Q E).2]) ∧ w' = W :=
          fun W => rtold_any d (nx != ny) R Q E HD.out hM2.1 (by omega) hM2.2.1 W _ rfl
        have HRN : Hid _ := hM2.2.2
        clear HMATH hM2 hl3 HH1 HR3 HM3 NV hQ hR
        generalize rP d (nx != ny) R Q E = pp at *
        obtain ⟨pa, pb⟩ := pp
        simp only at TC
        go_region_held3 (fun w' => w'.cell? ⟨w.heap.size, 0, none⟩ = some (.bool nx) ∧ w'.cell? ⟨w.heap.size + 1, 0, none⟩ = some (.bool ny) ∧ w'.cell? ⟨wn.heap.size, 1, none⟩ = some (.slice ha hl hc)) (go_keep)
          (first
            | (go_at_call 80; go_must (refine (WC _ ?_).mono ?_; exact (Below.refl _ _).drew; rintro ee ww ⟨rfl, rfl⟩))
            | (go_at_call 79; go_must (refine (TC _).mono ?_; rintro ee ww ⟨rfl, rfl⟩)))
        all_goals go_wp2_with fail
        all_goals
          go_ret2
          exact ⟨pa, pb, rfl, fun _ => HRN.out, fun h => absurd h HY0.out, HB1.out.drew⟩
      · have HNB : Hid (NumB wn wm.heap.size) := ⟨_, _, _, _, _, HZ3.out⟩
        have HH1 : Hid (VarN (((wn.setCell ⟨wm.heap.size, 0, none⟩ (.bool false)).setCell ⟨wm.heap.size, 1, none⟩ (.slice ha hl hc)).setCell ⟨wm.heap.size, 2, none⟩ (.int .i64 0)) wm.heap.size false ha hl hc 0 _) := VarN.own3 HNB.out HZ3.out NV.out
        have XX1 : Hid (VarN (((wn.setCell ⟨wm.heap.size, 0, none⟩ (.bool false)).setCell ⟨wm.heap.size, 1, none⟩ (.slice ha hl hc)).setCell ⟨wm.heap.size, 2, none⟩ (.int .i64 0)) w.heap.size nx ao len cap ex mx) := VarN.set3 _ _ _ HNB.out XXn.out (Nat.ne_of_lt XXm.out.lt)
        have YY1 : Hid (VarN (((wn.setCell ⟨wm.heap.size, 0, none⟩ (.bool false)).setCell ⟨wm.heap.size, 1, none⟩ (.slice ha hl hc)).setCell ⟨wm.heap.size, 2, none⟩ (.int .i64 0)) (w.heap.size + 1) ny bo blen bcap ey my) := VarN.set3 _ _ _ HNB.out YYn.out (Nat.ne_of_lt YYm.out.lt)
        have HB1 : Hid (Below w.heap.size w (((wn.setCell ⟨wm.heap.size, 0, none⟩ (.bool false)).setCell ⟨wm.heap.size, 1, none⟩ (.slice ha hl hc)).setCell ⟨wm.heap.size, 2, none⟩ (.int .i64 0))) := ((HBn.out.setCell (Nat.le_of_lt XXm.out.lt) _).setCell (Nat.le_of_lt XXm.out.lt) _).setCell (Nat.le_of_lt XXm.out.lt) _
        have hne1 : wm.heap.size ≠ w.heap.size := Nat.ne_of_gt XXm.out.lt
        clear aap0 aap1 aap2 bbp0 bbp1 bbp2 xxp0 xxp1 xxp2 yyp0 yyp1 yyp2 aam0 aam1 aam2 bbm0 bbm1 bbm2 xxm0 xxm1 xxm2 yym0 yym1 yym2 aan0 aan1 aan2 bbn0 bbn1 bbn2 xxn0 xxn1 xxn2 yyn0 yyn1 yyn2
        clear nm1 nm2 nn1 nn2 np1 np2 AAp AAq AAm AAn BBp BBq BBm BBn XXp XXq XXm YYp YYq YYm HBp HBq HBm
        clear z0 z1 z2 fz
        generalize (((wn.setCell ⟨wm.heap.size, 0, none⟩ (.bool false)).setCell ⟨wm.heap.size, 1, none⟩ (.slice ha hl hc)).setCell ⟨wm.heap.size, 2, none⟩ (.int .i64 0)) = W1 at *
        obtain ⟨h0, h1, h2⟩ := HH1.out.cells
        obtain ⟨u0, u1, u2⟩ := XX1.out.cells
        obtain ⟨v0, v1, v2⟩ := YY1.out.cells
        clear h0 h2 u1 u2 v1 v2
        obtain ⟨zs, hr3, hnm3, hm3⟩ := HH1.out.rd
        have hl3 : hl ≤ 2 := two_words hr3.length hr3.lt hnm3 hm3 HMATH.out.1
        have HR3 : Hid _ := hr3
        have HM3 : Hid _ := hm3
        clear hr3 hm3 hnm3
        go_wp2_with fail
        obtain ⟨Q, hQ⟩ : ∃ Q, mx * 2 ^ (ex - lowE ex (ey + (E - 1))).toNat / (my * 2 ^ (ey + (E - 1) - lowE ex (ey + (E - 1))).toNat) = Q := ⟨_, rfl⟩
        obtain ⟨R, hR⟩ : ∃ R, nz (mx * 2 ^ (ex - lowE ex (ey + (E - 1))).toNat % (my * 2 ^ (ey + (E - 1) - lowE ex (ey + (E - 1))).toNat)) = R := ⟨_, rfl⟩
        rw [hR]
        rw [hQ] at HM3
        have hM2 := HMATH.out
        rw [hQ, hR] at hM2
        have WC : ∀ W, Below W1.heap.size W1 W → Calls Try.prog 80 #[.slice ha hl hc] W fun e' w' => e' = .returned (.int .u64 ((Q : Nat) : Int)) ∧ w' = W := fun W hW => by
          have := word_any ha hl hc zs W (HR3.out.later hW) hl3
          rw [HM3.out] at this
          exact this
        have TC : ∀ W, Calls Try.prog 79 #[.int .i64 d, .bool (nx != ny), .int .u64 ((Q : Nat) : Int), .bool R, .int .i64 E] W fun e' w' => e' = .returned (.tuple #[.int .u64 ((rP d (nx != ny) R Q E).1 : Int), .bool (rP d (nx != ny) R Q E).2]) ∧ w' = W :=
          fun W => rtold_any d (nx != ny) R Q E HD.out hM2.1 (by omega) hM2.2.1 W _ rfl
        have HRN : Hid _ := hM2.2.2
        clear HMATH hM2 hl3 HH1 HR3 HM3 NV hQ hR
        generalize rP d (nx != ny) R Q E = pp at *
        obtain ⟨pa, pb⟩ := pp
        simp only at TC
        go_region_held3 (fun w' => w'.cell? ⟨w.heap.size, 0, none⟩ = some (.bool nx) ∧ w'.cell? ⟨w.heap.size + 1, 0, none⟩ = some (.bool ny) ∧ w'.cell? ⟨wm.heap.size, 1, none⟩ = some (.slice ha hl hc)) (go_keep)
          (first
            | (go_at_call 80; go_must (refine (WC _ ?_).mono ?_; exact (Below.refl _ _).drew; rintro ee ww ⟨rfl, rfl⟩))
            | (go_at_call 79; go_must (refine (TC _).mono ?_; rintro ee ww ⟨rfl, rfl⟩)))
        all_goals go_wp2_with fail
        all_goals
          go_ret2
          exact ⟨pa, pb, rfl, fun _ => HRN.out, fun h => absurd h HY0.out, HB1.out.drew⟩
      · have HNB : Hid (NumB wn wp.heap.size) := ⟨_, _, _, _, _, HZ2.out⟩
        have HH1 : Hid (VarN (((wn.setCell ⟨wp.heap.size, 0, none⟩ (.bool false)).setCell ⟨wp.heap.size, 1, none⟩ (.slice ha hl hc)).setCell ⟨wp.heap.size, 2, none⟩ (.int .i64 0)) wp.heap.size false ha hl hc 0 _) := VarN.own3 HNB.out HZ2.out NV.out
        have XX1 : Hid (VarN (((wn.setCell ⟨wp.heap.size, 0, none⟩ (.bool false)).setCell ⟨wp.heap.size, 1, none⟩ (.slice ha hl hc)).setCell ⟨wp.heap.size, 2, none⟩ (.int .i64 0)) w.heap.size nx ao len cap ex mx) := VarN.set3 _ _ _ HNB.out XXn.out (Nat.ne_of_lt XXp.out.lt)
        have YY1 : Hid (VarN (((wn.setCell ⟨wp.heap.size, 0, none⟩ (.bool false)).setCell ⟨wp.heap.size, 1, none⟩ (.slice ha hl hc)).setCell ⟨wp.heap.size, 2, none⟩ (.int .i64 0)) (w.heap.size + 1) ny bo blen bcap ey my) := VarN.set3 _ _ _ HNB.out YYn.out (Nat.ne_of_lt YYp.out.lt)
        have HB1 : Hid (Below w.heap.size w (((wn.setCell ⟨wp.heap.size, 0, none⟩ (.bool false)).setCell ⟨wp.heap.size, 1, none⟩ (.slice ha hl hc)).setCell ⟨wp.heap.size, 2, none⟩ (.int .i64 0))) := ((HBn.out.setCell (Nat.le_of_lt XXp.out.lt) _).setCell (Nat.le_of_lt XXp.out.lt) _).setCell (Nat.le_of_lt XXp.out.lt) _
        have hne1 : wp.heap.size ≠ w.heap.size := Nat.ne_of_gt XXp.out.lt
        clear aap0 aap1 aap2 bbp0 bbp1 bbp2 xxp0 xxp1 xxp2 yyp0 yyp1 yyp2 aam0 aam1 aam2 bbm0 bbm1 bbm2 xxm0 xxm1 xxm2 yym0 yym1 yym2 aan0 aan1 aan2 bbn0 bbn1 bbn2 xxn0 xxn1 xxn2 yyn0 yyn1 yyn2
        clear nm1 nm2 nn1 nn2 np1 np2 AAp AAq AAm AAn BBp BBq BBm BBn XXp XXq XXm YYp YYq YYm HBp HBq HBm
        clear z0 z1 z2 fz
        generalize (((wn.setCell ⟨wp.heap.size, 0, none⟩ (.bool false)).setCell ⟨wp.heap.size, 1, none⟩ (.slice ha hl hc)).setCell ⟨wp.heap.size, 2, none⟩ (.int .i64 0)) = W1 at *
        obtain ⟨h0, h1, h2⟩ := HH1.out.cells
        obtain ⟨u0, u1, u2⟩ := XX1.out.cells
        obtain ⟨v0, v1, v2⟩ := YY1.out.cells
        clear h0 h2 u1 u2 v1 v2
        obtain ⟨zs, hr3, hnm3, hm3⟩ := HH1.out.rd
        have hl3 : hl ≤ 2 := two_words hr3.length hr3.lt hnm3 hm3 HMATH.out.1
        have HR3 : Hid _ := hr3
        have HM3 : Hid _ := hm3
        clear hr3 hm3 hnm3
        go_wp2_with fail
        obtain ⟨Q, hQ⟩ : ∃ Q, mx * 2 ^ (ex - lowE ex (ey + (E - 1))).toNat / (my * 2 ^ (ey + (E - 1) - lowE ex (ey + (E - 1))).toNat) = Q := ⟨_, rfl⟩
        obtain ⟨R, hR⟩ : ∃ R, nz (mx * 2 ^ (ex - lowE ex (ey + (E - 1))).toNat % (my * 2 ^ (ey + (E - 1) - lowE ex (ey + (E - 1))).toNat)) = R := ⟨_, rfl⟩
        rw [hR]
        rw [hQ] at HM3
        have hM2 := HMATH.out
        rw [hQ, hR] at hM2
        have WC : ∀ W, Below W1.heap.size W1 W → Calls Try.prog 80 #[.slice ha hl hc] W fun e' w' => e' = .returned (.int .u64 ((Q : Nat) : Int)) ∧ w' = W := fun W hW => by
          have := word_any ha hl hc zs W (HR3.out.later hW) hl3
          rw [HM3.out] at this
          exact this
        have TC : ∀ W, Calls Try.prog 79 #[.int .i64 d, .bool (nx != ny), .int .u64 ((Q : Nat) : Int), .bool R, .int .i64 E] W fun e' w' => e' = .returned (.tuple #[.int .u64 ((rP d (nx != ny) R Q E).1 : Int), .bool (rP d (nx != ny) R Q E).2]) ∧ w' = W :=
          fun W => rtold_any d (nx != ny) R Q E HD.out hM2.1 (by omega) hM2.2.1 W _ rfl
        have HRN : Hid _ := hM2.2.2
        clear HMATH hM2 hl3 HH1 HR3 HM3 NV hQ hR
        generalize rP d (nx != ny) R Q E = pp at *
        obtain ⟨pa, pb⟩ := pp
        simp only at TC
        go_region_held3 (fun w' => w'.cell? ⟨w.heap.size, 0, none⟩ = some (.bool nx) ∧ w'.cell? ⟨w.heap.size + 1, 0, none⟩ = some (.bool ny) ∧ w'.cell? ⟨wp.heap.size, 1, none⟩ = some (.slice ha hl hc)) (go_keep)
          (first
            | (go_at_call 80; go_must (refine (WC _ ?_).mono ?_; exact (Below.refl _ _).drew; rintro ee ww ⟨rfl, rfl⟩))
            | (go_at_call 79; go_must (refine (TC _).mono ?_; rintro ee ww ⟨rfl, rfl⟩)))
        all_goals go_wp2_with fail
        all_goals
          go_ret2
          exact ⟨pa, pb, rfl, fun _ => HRN.out, fun h => absurd h HY0.out, HB1.out.drew⟩
    · rw [if_neg hgl] at hkk
      rw [if_neg hmx] at hEf
      subst hkk
      have HEF : Hid _ := hEf
      clear hEf
      go_wp2_with fail
      all_goals (try (exfalso; omega))
      rw [HEF.out]
      have hrf : Below wp.heap.size wp wp.drew := (Below.refl _ _).drew
      have AAq : Hid (VarN wp.drew w3.heap.size false sa sl sc ex mx) := AAp.out.later hrf
      have BBq : Hid (VarN wp.drew w5.heap.size false ta tl tc ey my) := BBp.out.later hrf
      have XXq : Hid (VarN wp.drew w.heap.size nx ao len cap ex mx) := XXp.out.later hrf
      have YYq : Hid (VarN wp.drew (w.heap.size + 1) ny bo blen bcap ey my) := YYp.out.later hrf
      have HBq : Hid (Below w.heap.size w wp.drew) := HBp.out.trans (hrf.mono HBp.out.size)
      clear hrf
      go_region_held3 (fun w' => w'.cell? ⟨w3.heap.size, 0, none⟩ = some (.bool false) ∧ w'.cell? ⟨w3.heap.size, 1, none⟩ = some (.slice sa sl sc) ∧ w'.cell? ⟨w3.heap.size, 2, none⟩ = some (.int .i64 ex) ∧ w'.cell? ⟨w5.heap.size, 0, none⟩ = some (.bool false) ∧ w'.cell? ⟨w5.heap.size, 1, none⟩ = some (.slice ta tl tc) ∧ w'.cell? ⟨w5.heap.size, 2, none⟩ = some (.int .i64 ey)) (go_keep)
        (first
          | (go_at_call 44; go_must (refine (moved_any _ false my ey (E - 1) (by omega) (by omega) _ (by first | exact BBq.out.num | exact (BBq.out.alloc _).num)).mono ?_; rintro em wm ⟨vm, rfl, hnm, hbm⟩; rw [if_neg HY0.out] at hnm; have AAm : Hid (VarN wm w3.heap.size false sa sl sc ex mx) := (by first | exact AAq.out.later hbm | exact (AAq.out.alloc _).later hbm); obtain ⟨aam0, aam1, aam2⟩ := AAm.out.cells; have BBm : Hid (VarN wm w5.heap.size false ta tl tc ey my) := (by first | exact BBq.out.later hbm | exact (BBq.out.alloc _).later hbm); obtain ⟨bbm0, bbm1, bbm2⟩ := BBm.out.cells; have XXm : Hid (VarN wm w.heap.size nx ao len cap ex mx) := (by first | exact XXq.out.later hbm | exact (XXq.out.alloc _).later hbm); obtain ⟨xxm0, xxm1, xxm2⟩ := XXm.out.cells; have YYm : Hid (VarN wm (w.heap.size + 1) ny bo blen bcap ey my) := (by first | exact YYq.out.later hbm | exact (YYq.out.alloc _).later hbm); obtain ⟨yym0, yym1, yym2⟩ := YYm.out.cells; have HBm : Hid (Below w.heap.size w wm) := (by first | exact HBq.out.trans (hbm.mono HBq.out.size) | exact (HBq.out.alloc HBq.out.size _).trans (hbm.mono (Nat.le_trans HBq.out.size (by simp)))); have nm1 : wm.heap.size ≠ w3.heap.size := Nat.ne_of_gt AAm.out.lt; have nm2 : wm.heap.size ≠ w5.heap.size := Nat.ne_of_gt BBm.out.lt; have NM : Hid (NumV wm vm false my (ey + (E - 1))) := hnm; (try (have HZ1 : Hid (wm.heap[wp.heap.size]? = some (Obj.cells #[Value.bool false, Value.slice none 0 0, Value.int IntKind.i64 0] 27)) := (hbm.block wp.heap.size (by simp)).trans (heap_alloc_new _ _))); clear hnm hbm))
          | (go_at_call 87; go_must (refine (part_any _ _ false false mx my ex (ey + (E - 1)) _ (by first | exact AAm.out.num | exact (AAm.out.alloc _).num) (by first | exact NM.out | exact NumV.later NM.out ((Below.refl _ _).alloc (Nat.le_refl _) _)) (by omega) (by omega) (by omega) (by omega) HX0.out HY0.out).mono ?_; rintro en wn ⟨vn, rfl, hvn, hbn⟩; have AAn : Hid (VarN wn w3.heap.size false sa sl sc ex mx) := (by first | exact AAm.out.later hbn | exact (AAm.out.alloc _).later hbn); obtain ⟨aan0, aan1, aan2⟩ := AAn.out.cells; have BBn : Hid (VarN wn w5.heap.size false ta tl tc ey my) := (by first | exact BBm.out.later hbn | exact (BBm.out.alloc _).later hbn); obtain ⟨bbn0, bbn1, bbn2⟩ := BBn.out.cells; have XXn : Hid (VarN wn w.heap.size nx ao len cap ex mx) := (by first | exact XXm.out.later hbn | exact (XXm.out.alloc _).later hbn); obtain ⟨xxn0, xxn1, xxn2⟩ := XXn.out.cells; have YYn : Hid (VarN wn (w.heap.size + 1) ny bo blen bcap ey my) := (by first | exact YYm.out.later hbn | exact (YYm.out.alloc _).later hbn); obtain ⟨yyn0, yyn1, yyn2⟩ := YYn.out.cells; have HBn : Hid (Below w.heap.size w wn) := (by first | exact HBm.out.trans (hbn.mono HBm.out.size) | exact (HBm.out.alloc HBm.out.size _).trans (hbn.mono (Nat.le_trans HBm.out.size (by simp)))); have nn1 : wn.heap.size ≠ w3.heap.size := Nat.ne_of_gt AAn.out.lt; have nn2 : wn.heap.size ≠ w5.heap.size := Nat.ne_of_gt BBn.out.lt; have NV : Hid (NumV wn vn false _ 0) := hvn; obtain ⟨ha, hl, hc, hxs, rfl, -⟩ := hvn; (try (have HZ2 : Hid (wn.heap[wp.heap.size]? = some (Obj.cells #[Value.bool false, Value.slice none 0 0, Value.int IntKind.i64 0] 27)) := (hbn.block wp.heap.size (heap_lt HZ1.out)).trans HZ1.out; obtain ⟨z0, z1, z2⟩ := three_cells HZ2.out; have fz := (fun j => frozen_of_row _ _ j _ _ HZ2.out))); (try (have HZ3 : Hid (wn.heap[wm.heap.size]? = some (Obj.cells #[Value.bool false, Value.slice none 0 0, Value.int IntKind.i64 0] 27)) := (hbn.block wm.heap.size (by simp)).trans (heap_alloc_new _ _); obtain ⟨z0, z1, z2⟩ := three_cells HZ3.out; have fz := (fun j => frozen_of_row _ _ j _ _ HZ3.out))); clear hbn)))
      · have HH1 : Hid (VarN (wn.alloc (Obj.cells #[Value.bool false, Value.slice ha hl hc, Value.int IntKind.i64 0] 27)) wn.heap.size false ha hl hc 0 _) := VarN.new NV.out
        have XX1 : Hid (VarN (wn.alloc (Obj.cells #[Value.bool false, Value.slice ha hl hc, Value.int IntKind.i64 0] 27)) w.heap.size nx ao len cap ex mx) := XXn.out.alloc _
        have YY1 : Hid (VarN (wn.alloc (Obj.cells #[Value.bool false, Value.slice ha hl hc, Value.int IntKind.i64 0] 27)) (w.heap.size + 1) ny bo blen bcap ey my) := YYn.out.alloc _
        have HB1 : Hid (Below w.heap.size w (wn.alloc (Obj.cells #[Value.bool false, Value.slice ha hl hc, Value.int IntKind.i64 0] 27))) := HBn.out.alloc HBn.out.size _
        have hne1 : wn.heap.size ≠ w.heap.size := Nat.ne_of_gt XXn.out.lt
        clear aap0 aap1 aap2 bbp0 bbp1 bbp2 xxp0 xxp1 xxp2 yyp0 yyp1 yyp2 aam0 aam1 aam2 bbm0 bbm1 bbm2 xxm0 xxm1 xxm2 yym0 yym1 yym2 aan0 aan1 aan2 bbn0 bbn1 bbn2 xxn0 xxn1 xxn2 yyn0 yyn1 yyn2
        clear nm1 nm2 nn1 nn2 np1 np2 AAp AAq AAm AAn BBp BBq BBm BBn XXp XXq XXm YYp YYq YYm HBp HBq HBm
        generalize (wn.alloc (Obj.cells #[Value.bool false, Value.slice ha hl hc, Value.int IntKind.i64 0] 27)) = W1 at *
        obtain ⟨h0, h1, h2⟩ := HH1.out.cells
        obtain ⟨u0, u1, u2⟩ := XX1.out.cells
        obtain ⟨v0, v1, v2⟩ := YY1.out.cells
        clear h0 h2 u1 u2 v1 v2
        obtain ⟨zs, hr3, hnm3, hm3⟩ := HH1.out.rd
        have hl3 : hl ≤ 2 := two_words hr3.length hr3.lt hnm3 hm3 HMATH.out.1
        have HR3 : Hid _ := hr3
        have HM3 : Hid _ := hm3
        clear hr3 hm3 hnm3
        go_wp2_with fail
        obtain ⟨Q, hQ⟩ : ∃ Q, mx * 2 ^ (ex - lowE ex (ey + (E - 1))).toNat / (my * 2 ^ (ey + (E - 1) - lowE ex (ey + (E - 1))).toNat) = Q := ⟨_, rfl⟩
        obtain ⟨R, hR⟩ : ∃ R, nz (mx * 2 ^ (ex - lowE ex (ey + (E - 1))).toNat % (my * 2 ^ (ey + (E - 1) - lowE ex (ey + (E - 1))).toNat)) = R := ⟨_, rfl⟩
        rw [hR]
        rw [hQ] at HM3
        have hM2 := HMATH.out
        rw [hQ, hR] at hM2
        have WC : ∀ W, Below W1.heap.size W1 W → Calls Try.prog 80 #[.slice ha hl hc] W fun e' w' => e' = .returned (.int .u64 ((Q : Nat) : Int)) ∧ w' = W := fun W hW => by
          have := word_any ha hl hc zs W (HR3.out.later hW) hl3
          rw [HM3.out] at this
          exact this
        have TC : ∀ W, Calls Try.prog 79 #[.int .i64 d, .bool (nx != ny), .int .u64 ((Q : Nat) : Int), .bool R, .int .i64 E] W fun e' w' => e' = .returned (.tuple #[.int .u64 ((rP d (nx != ny) R Q E).1 : Int), .bool (rP d (nx != ny) R Q E).2]) ∧ w' = W :=
          fun W => rtold_any d (nx != ny) R Q E HD.out hM2.1 (by omega) hM2.2.1 W _ rfl
        have HRN : Hid _ := hM2.2.2
        clear HMATH hM2 hl3 HH1 HR3 HM3 NV hQ hR
        generalize rP d (nx != ny) R Q E = pp at *
        obtain ⟨pa, pb⟩ := pp
        simp only at TC
        go_region_held3 (fun w' => w'.cell? ⟨w.heap.size, 0, none⟩ = some (.bool nx) ∧ w'.cell? ⟨w.heap.size + 1, 0, none⟩ = some (.bool ny) ∧ w'.cell? ⟨wn.heap.size, 1, none⟩ = some (.slice ha hl hc)) (go_keep)
          (first
            | (go_at_call 80; go_must (refine (WC _ ?_).mono ?_; exact (Below.refl _ _).drew; rintro ee ww ⟨rfl, rfl⟩))
            | (go_at_call 79; go_must (refine (TC _).mono ?_; rintro ee ww ⟨rfl, rfl⟩)))
        all_goals go_wp2_with fail
        all_goals
          go_ret2
          exact ⟨pa, pb, rfl, fun _ => HRN.out, fun h => absurd h HY0.out, HB1.out.drew⟩
      · have HNB : Hid (NumB wn wm.heap.size) := ⟨_, _, _, _, _, HZ3.out⟩
        have HH1 : Hid (VarN (((wn.setCell ⟨wm.heap.size, 0, none⟩ (.bool false)).setCell ⟨wm.heap.size, 1, none⟩ (.slice ha hl hc)).setCell ⟨wm.heap.size, 2, none⟩ (.int .i64 0)) wm.heap.size false ha hl hc 0 _) := VarN.own3 HNB.out HZ3.out NV.out
        have XX1 : Hid (VarN (((wn.setCell ⟨wm.heap.size, 0, none⟩ (.bool false)).setCell ⟨wm.heap.size, 1, none⟩ (.slice ha hl hc)).setCell ⟨wm.heap.size, 2, none⟩ (.int .i64 0)) w.heap.size nx ao len cap ex mx) := VarN.set3 _ _ _ HNB.out XXn.out (Nat.ne_of_lt XXm.out.lt)
        have YY1 : Hid (VarN (((wn.setCell ⟨wm.heap.size, 0, none⟩ (.bool false)).setCell ⟨wm.heap.size, 1, none⟩ (.slice ha hl hc)).setCell ⟨wm.heap.size, 2, none⟩ (.int .i64 0)) (w.heap.size + 1) ny bo blen bcap ey my) := VarN.set3 _ _ _ HNB.out YYn.out (Nat.ne_of_lt YYm.out.lt)
        have HB1 : Hid (Below w.heap.size w (((wn.setCell ⟨wm.heap.size, 0, none⟩ (.bool false)).setCell ⟨wm.heap.size, 1, none⟩ (.slice ha hl hc)).setCell ⟨wm.heap.size, 2, none⟩ (.int .i64 0))) := ((HBn.out.setCell (Nat.le_of_lt XXm.out.lt) _).setCell (Nat.le_of_lt XXm.out.lt) _).setCell (Nat.le_of_lt XXm.out.lt) _
        have hne1 : wm.heap.size ≠ w.heap.size := Nat.ne_of_gt XXm.out.lt
        clear aap0 aap1 aap2 bbp0 bbp1 bbp2 xxp0 xxp1 xxp2 yyp0 yyp1 yyp2 aam0 aam1 aam2 bbm0 bbm1 bbm2 xxm0 xxm1 xxm2 yym0 yym1 yym2 aan0 aan1 aan2 bbn0 bbn1 bbn2 xxn0 xxn1 xxn2 yyn0 yyn1 yyn2
        clear nm1 nm2 nn1 nn2 np1 np2 AAp AAq AAm AAn BBp BBq BBm BBn XXp XXq XXm YYp YYq YYm HBp HBq HBm
        clear z0 z1 z2 fz
        generalize (((wn.setCell ⟨wm.heap.size, 0, none⟩ (.bool false)).setCell ⟨wm.heap.size, 1, none⟩ (.slice ha hl hc)).setCell ⟨wm.heap.size, 2, none⟩ (.int .i64 0)) = W1 at *
        obtain ⟨h0, h1, h2⟩ := HH1.out.cells
        obtain ⟨u0, u1, u2⟩ := XX1.out.cells
        obtain ⟨v0, v1, v2⟩ := YY1.out.cells
        clear h0 h2 u1 u2 v1 v2
        obtain ⟨zs, hr3, hnm3, hm3⟩ := HH1.out.rd
        have hl3 : hl ≤ 2 := two_words hr3.length hr3.lt hnm3 hm3 HMATH.out.1
        have HR3 : Hid _ := hr3
        have HM3 : Hid _ := hm3
        clear hr3 hm3 hnm3
        go_wp2_with fail
        obtain ⟨Q, hQ⟩ : ∃ Q, mx * 2 ^ (ex - lowE ex (ey + (E - 1))).toNat / (my * 2 ^ (ey + (E - 1) - lowE ex (ey + (E - 1))).toNat) = Q := ⟨_, rfl⟩
        obtain ⟨R, hR⟩ : ∃ R, nz (mx * 2 ^ (ex - lowE ex (ey + (E - 1))).toNat % (my * 2 ^ (ey + (E - 1) - lowE ex (ey + (E - 1))).toNat)) = R := ⟨_, rfl⟩
        rw [hR]
        rw [hQ] at HM3
        have hM2 := HMATH.out
        rw [hQ, hR] at hM2
        have WC : ∀ W, Below W1.heap.size W1 W → Calls Try.prog 80 #[.slice ha hl hc] W fun e' w' => e' = .returned (.int .u64 ((Q : Nat) : Int)) ∧ w' = W := fun W hW => by
          have := word_any ha hl hc zs W (HR3.out.later hW) hl3
          rw [HM3.out] at this
          exact this
        have TC : ∀ W, Calls Try.prog 79 #[.int .i64 d, .bool (nx != ny), .int .u64 ((Q : Nat) : Int), .bool R, .int .i64 E] W fun e' w' => e' = .returned (.tuple #[.int .u64 ((rP d (nx != ny) R Q E).1 : Int), .bool (rP d (nx != ny) R Q E).2]) ∧ w' = W :=
          fun W => rtold_any d (nx != ny) R Q E HD.out hM2.1 (by omega) hM2.2.1 W _ rfl
        have HRN : Hid _ := hM2.2.2
        clear HMATH hM2 hl3 HH1 HR3 HM3 NV hQ hR
        generalize rP d (nx != ny) R Q E = pp at *
        obtain ⟨pa, pb⟩ := pp
        simp only at TC
        go_region_held3 (fun w' => w'.cell? ⟨w.heap.size, 0, none⟩ = some (.bool nx) ∧ w'.cell? ⟨w.heap.size + 1, 0, none⟩ = some (.bool ny) ∧ w'.cell? ⟨wm.heap.size, 1, none⟩ = some (.slice ha hl hc)) (go_keep)
          (first
            | (go_at_call 80; go_must (refine (WC _ ?_).mono ?_; exact (Below.refl _ _).drew; rintro ee ww ⟨rfl, rfl⟩))
            | (go_at_call 79; go_must (refine (TC _).mono ?_; rintro ee ww ⟨rfl, rfl⟩)))
        all_goals go_wp2_with fail
        all_goals
          go_ret2
          exact ⟨pa, pb, rfl, fun _ => HRN.out, fun h => absurd h HY0.out, HB1.out.drew⟩
      · have HNB : Hid (NumB wn wp.heap.size) := ⟨_, _, _, _, _, HZ2.out⟩
        have HH1 : Hid (VarN (((wn.setCell ⟨wp.heap.size, 0, none⟩ (.bool false)).setCell ⟨wp.heap.size, 1, none⟩ (.slice ha hl hc)).setCell ⟨wp.heap.size, 2, none⟩ (.int .i64 0)) wp.heap.size false ha hl hc 0 _) := VarN.own3 HNB.out HZ2.out NV.out
        have XX1 : Hid (VarN (((wn.setCell ⟨wp.heap.size, 0, none⟩ (.bool false)).setCell ⟨wp.heap.size, 1, none⟩ (.slice ha hl hc)).setCell ⟨wp.heap.size, 2, none⟩ (.int .i64 0)) w.heap.size nx ao len cap ex mx) := VarN.set3 _ _ _ HNB.out XXn.out (Nat.ne_of_lt XXp.out.lt)
        have YY1 : Hid (VarN (((wn.setCell ⟨wp.heap.size, 0, none⟩ (.bool false)).setCell ⟨wp.heap.size, 1, none⟩ (.slice ha hl hc)).setCell ⟨wp.heap.size, 2, none⟩ (.int .i64 0)) (w.heap.size + 1) ny bo blen bcap ey my) := VarN.set3 _ _ _ HNB.out YYn.out (Nat.ne_of_lt YYp.out.lt)
        have HB1 : Hid (Below w.heap.size w (((wn.setCell ⟨wp.heap.size, 0, none⟩ (.bool false)).setCell ⟨wp.heap.size, 1, none⟩ (.slice ha hl hc)).setCell ⟨wp.heap.size, 2, none⟩ (.int .i64 0))) := ((HBn.out.setCell (Nat.le_of_lt XXp.out.lt) _).setCell (Nat.le_of_lt XXp.out.lt) _).setCell (Nat.le_of_lt XXp.out.lt) _
        have hne1 : wp.heap.size ≠ w.heap.size := Nat.ne_of_gt XXp.out.lt
        clear aap0 aap1 aap2 bbp0 bbp1 bbp2 xxp0 xxp1 xxp2 yyp0 yyp1 yyp2 aam0 aam1 aam2 bbm0 bbm1 bbm2 xxm0 xxm1 xxm2 yym0 yym1 yym2 aan0 aan1 aan2 bbn0 bbn1 bbn2 xxn0 xxn1 xxn2 yyn0 yyn1 yyn2
        clear nm1 nm2 nn1 nn2 np1 np2 AAp AAq AAm AAn BBp BBq BBm BBn XXp XXq XXm YYp YYq YYm HBp HBq HBm
        clear z0 z1 z2 fz
        generalize (((wn.setCell ⟨wp.heap.size, 0, none⟩ (.bool false)).setCell ⟨wp.heap.size, 1, none⟩ (.slice ha hl hc)).setCell ⟨wp.heap.size, 2, none⟩ (.int .i64 0)) = W1 at *
        obtain ⟨h0, h1, h2⟩ := HH1.out.cells
        obtain ⟨u0, u1, u2⟩ := XX1.out.cells
        obtain ⟨v0, v1, v2⟩ := YY1.out.cells
        clear h0 h2 u1 u2 v1 v2
        obtain ⟨zs, hr3, hnm3, hm3⟩ := HH1.out.rd
        have hl3 : hl ≤ 2 := two_words hr3.length hr3.lt hnm3 hm3 HMATH.out.1
        have HR3 : Hid _ := hr3
        have HM3 : Hid _ := hm3
        clear hr3 hm3 hnm3
        go_wp2_with fail
        obtain ⟨Q, hQ⟩ : ∃ Q, mx * 2 ^ (ex - lowE ex (ey + (E - 1))).toNat / (my * 2 ^ (ey + (E - 1) - lowE ex (ey + (E - 1))).toNat) = Q := ⟨_, rfl⟩
        obtain ⟨R, hR⟩ : ∃ R, nz (mx * 2 ^ (ex - lowE ex (ey + (E - 1))).toNat % (my * 2 ^ (ey + (E - 1) - lowE ex (ey + (E - 1))).toNat)) = R := ⟨_, rfl⟩
        rw [hR]
        rw [hQ] at HM3
        have hM2 := HMATH.out
        rw [hQ, hR] at hM2
        have WC : ∀ W, Below W1.heap.size W1 W → Calls Try.prog 80 #[.slice ha hl hc] W fun e' w' => e' = .returned (.int .u64 ((Q : Nat) : Int)) ∧ w' = W := fun W hW => by
          have := word_any ha hl hc zs W (HR3.out.later hW) hl3
          rw [HM3.out] at this
          exact this
        have TC : ∀ W, Calls Try.prog 79 #[.int .i64 d, .bool (nx != ny), .int .u64 ((Q : Nat) : Int), .bool R, .int .i64 E] W fun e' w' => e' = .returned (.tuple #[.int .u64 ((rP d (nx != ny) R Q E).1 : Int), .bool (rP d (nx != ny) R Q E).2]) ∧ w' = W :=
          fun W => rtold_any d (nx != ny) R Q E HD.out hM2.1 (by omega) hM2.2.1 W _ rfl
        have HRN : Hid _ := hM2.2.2
        clear HMATH hM2 hl3 HH1 HR3 HM3 NV hQ hR
        generalize rP d (nx != ny) R Q E = pp at *
        obtain ⟨pa, pb⟩ := pp
        simp only at TC
        go_region_held3 (fun w' => w'.cell? ⟨w.heap.size, 0, none⟩ = some (.bool nx) ∧ w'.cell? ⟨w.heap.size + 1, 0, none⟩ = some (.bool ny) ∧ w'.cell? ⟨wp.heap.size, 1, none⟩ = some (.slice ha hl hc)) (go_keep)
          (first
            | (go_at_call 80; go_must (refine (WC _ ?_).mono ?_; exact (Below.refl _ _).drew; rintro ee ww ⟨rfl, rfl⟩))
            | (go_at_call 79; go_must (refine (TC _).mono ?_; rintro ee ww ⟨rfl, rfl⟩)))
        all_goals go_wp2_with fail
        all_goals
          go_ret2
          exact ⟨pa, pb, rfl, fun _ => HRN.out, fun h => absurd h HY0.out, HB1.out.drew⟩
end Go.Proofs.Ytajopgndpomggaa
