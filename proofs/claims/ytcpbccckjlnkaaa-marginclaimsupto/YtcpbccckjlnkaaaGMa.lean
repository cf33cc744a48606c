import Derived.Test.YtcpbccckjlnkaaaGXa
import Derived.Test.YtcpbccckjlnkaaaGJc
import Derived.Test.YtcpbccckjlnkaaaGJb
import Derived.Test.YtcpbccckjlnkaaaGJg
import Derived.Test.YtcpbccckjlnkaaaGJd
namespace Go.Proofs.Ytcpbccckjlnkaaa
open Go.RowKit Go.Shelf
set_option linter.unusedVariables false
set_option linter.unusedSimpArgs false

theorem nn_one (u : Nat) (hu : u < 18446744073709551616) (w : World) : Calls Try.prog 47 #[.float .f64 u] w fun e w' => e = .returned (.bool (!decide (Fin u))) ∧ w' = w := by
  go_enter Try.func47, Try.ntmps47
  go_wp2_with (go_at_call 48; refine (number_any u hu _).mono ?_; rintro e w' ⟨rfl, rfl⟩)
  go_ret
  exact ⟨rfl, rfl⟩
set_option maxRecDepth 100000 in
set_option maxHeartbeats 2000000 in
theorem indexN_any (ao : Option Addr) (len cap : Nat) (us : List Nat) (w : World) (h : RdF w ao len cap us) :
    Calls Try.prog 66 #[.slice ao len cap, .func (.func 47) #[] #[]] w fun e w' => (∃ i : Int, e = .returned (.int .i64 i) ∧ Hid (i ≥ 0 ↔ ∃ j, j < len ∧ ¬ Fin (us[j]?.getD 0)) ∧ -1 ≤ i) ∧ w' = w := by
  have HR : Hid _ := h
  have hmx : len ≤ 9223372036854775807 := Nat.le_trans h.max maxLen_le
  have HLN : Hid (us.length = len) := h.length
  clear h
  go_enter Try.func66, Try.ntmps66
  go_wp2_with fail
  go_loopg [8] len (fun g iv wx => ∃ k : Nat, iv = .int .i64 k ∧ k + g = len ∧ Hid (wx = w) ∧ Hid (∀ j, j < k → Fin (us[j]?.getD 0)))
  case atStart => exact ⟨0, rfl, by omega, rfl, fun j hj => absurd hj (Nat.not_lt_zero _)⟩
  case round =>
    obtain ⟨k, rfl, hk, HW, HF⟩ := hrel
    have e0 : wr = w := HW.out
    subst e0
    by_cases hlt : k < len
    · have hd : decide ((k : Int) < (len : Int)) = true := decide_eq_true (by omega)
      obtain ⟨g, rfl⟩ : ∃ g, gk = g + 1 := ⟨gk - 1, by omega⟩
      rcases HR.out.cells with h0 | ⟨ab, aoff, rfl, hca⟩
      · omega
      have ga := hca k hlt
      have hax := HR.out.lt _ (getD_mem (us := us) (j := k) (by rw [HLN.out]; exact hlt))
      obtain ⟨x, hx⟩ : ∃ x, us[k]?.getD 0 = x := ⟨_, rfl⟩
      rw [hx] at ga hax
      have HX : Hid (us[k]?.getD 0 = x) := hx
      have HIG : Hid (k + (g + 1) = len) := hk
      clear hca hx hk
      by_cases hf : Fin x
      · have hfd : decide (Fin x) = true := decide_eq_true hf
        have HN := nn_one x hax
        rw [hfd] at HN
        go_wp2_with (go_at_call 47; refine (HN _).mono ?_; rintro e w' ⟨rfl, rfl⟩)
        go_roundg g
        case measure => omega
        case rel =>
          refine ⟨k + 1, by go_num, by have := HIG.out; omega, rfl, fun j hj => ?_⟩
          rcases Nat.lt_or_eq_of_le (Nat.le_of_lt_succ hj) with e | e
          · exact HF.out j e
          · rw [e, HX.out]; exact hf
      · have hfd : decide (Fin x) = false := decide_eq_false hf
        have HN := nn_one x hax
        rw [hfd] at HN
        go_wp2_with (go_at_call 47; refine (HN _).mono ?_; rintro e w' ⟨rfl, rfl⟩)
        go_ret
        refine ⟨⟨_, rfl, ⟨fun _ => ⟨k, by have := HIG.out; omega, by rw [HX.out]; exact hf⟩, fun _ => by omega⟩, by omega⟩, rfl⟩
    · have hd : decide ((k : Int) < (len : Int)) = false := decide_eq_false (by omega)
      have hd' : decide (k < len) = false := decide_eq_false (by omega)
      go_wp2_with fail
      go_ret
      refine ⟨⟨_, rfl, ⟨fun c => absurd c (by decide), ?_⟩, by decide⟩, rfl⟩
      rintro ⟨j, hj, hn⟩
      exact absurd (HF.out j (by omega)) hn
set_option maxRecDepth 100000 in
set_option maxHeartbeats 2000000 in
theorem hasNo_any (ao : Option Addr) (len cap : Nat) (us : List Nat) (w : World) (h : RdF w ao len cap us) :
    Calls Try.prog 30 #[.slice ao len cap] w fun e w' => e = .returned (.bool (!numsB us)) ∧ w' = w := by
  have HR : Hid _ := h
  have HLN : Hid (us.length = len) := h.length
  clear h
  have HC : Hid (Calls Try.prog 46 #[.slice ao len cap, .func (.func 47) #[] #[]] w fun e w' => e = .returned (.bool (!numsB us)) ∧ w' = w) := by
    unfold Hid
    go_enter Try.func46, Try.ntmps46
    go_wp2_with (go_at_call 66; refine (indexN_any ao len cap us _ HR.out).mono ?_; rintro e w' ⟨⟨i, rfl, hi, hi2⟩, rfl⟩)
    go_ret
    refine ⟨?_, rfl⟩
    have e : decide (i ≥ 0) = !numsB us := by
      by_cases c : i ≥ 0
      · obtain ⟨j, hj, hn⟩ := hi.out.1 c
        rw [decide_eq_true c]
        have : numsB us = false := by
          rw [Bool.eq_false_iff]
          intro h
          unfold numsB at h
          rw [List.all_eq_true] at h
          exact hn (of_decide_eq_true (h _ (getD_mem (by rw [HLN.out]; exact hj))))
        rw [this]; rfl
      · rw [decide_eq_false c]
        have : numsB us = true := by
          unfold numsB
          rw [List.all_eq_true]
          intro u hu
          obtain ⟨j, hj, e⟩ := List.getElem_of_mem hu
          refine decide_eq_true ?_
          have h1 : us[j]?.getD 0 = u := by rw [List.getElem?_eq_getElem hj]; exact e
          exact Decidable.by_contra fun hn => c (hi.out.2 ⟨j, by rw [← HLN.out]; exact hj, by rw [h1]; exact hn⟩)
        rw [this]; rfl
    rw [← e]
    rfl
  go_enter Try.func30, Try.ntmps30
  go_wp2_with (go_at_call 46; refine HC.out.mono ?_; rintro e w' ⟨rfl, rfl⟩)
  go_ret
  exact ⟨rfl, rfl⟩
/-- weighed's sum: what is weighed by a nought is left out. -/
def wgK (us vs : List Nat) : Nat → Option Int
  | 0 => some 0
  | k + 1 => if srung (us[k]?.getD 0) = 0 then wgK us vs k else prodO (wgK us vs k) (us[k]?.getD 0) (vs[k]?.getD 0) 0
set_option maxRecDepth 100000 in
set_option maxHeartbeats 2000000 in
theorem weighed_any (ao bo : Option Addr) (len cap blen bcap : Nat) (us vs : List Nat) (hle : blen ≤ len) (hf : ∀ u ∈ us, Fin u) (w : World) (h : RdF w ao len cap us) (h' : RdF w bo blen bcap vs) :
    Calls Try.prog 26 #[.slice ao len cap, .slice bo blen bcap] w fun e w' => e = .returned (.pointer (some ⟨w.heap.size, 0, none⟩)) ∧ AccO w' w.heap.size (wgK us vs blen) ∧ Below w.heap.size w w' ∧ w.heap.size < w'.heap.size := by
  have HR : Hid _ := And.intro h h'
  have hmx : blen ≤ 9223372036854775807 := Nat.le_trans h'.max maxLen_le
  have hmx2 : len ≤ 9223372036854775807 := Nat.le_trans h.max maxLen_le
  have HLN : Hid (us.length = len ∧ vs.length = blen) := ⟨h.length, h'.length⟩
  have HF : Hid (∀ u ∈ us, Fin u) := hf
  clear h h' hf
  go_enter Try.func26, Try.ntmps26
  go_wp2_with fail
  refine (new_any _).mono ?_
  rintro e w1 ⟨rfl, a1, b1, s1⟩
  have HA1 : Hid _ := a1
  have HB1 : Hid _ := b1
  have HS1 : Hid (w.heap.size < w1.heap.size) := by unfold Hid; omega
  clear a1 b1 s1
  go_wp2_with fail
  go_loopg [11] blen (fun g iv wx => ∃ k : Nat, iv = .int .i64 k ∧ k + g = blen ∧ Hid (AccO wx w.heap.size (wgK us vs k)) ∧ Hid (Below w.heap.size w wx) ∧ Hid (w.heap.size < wx.heap.size))
  case atStart => exact ⟨0, rfl, by omega, HA1, HB1, HS1⟩
  case round =>
    clear HA1 HB1 HS1
    obtain ⟨k, rfl, hk, HA, HB, HS⟩ := hrel
    by_cases hlt : k < blen
    · have hd : decide ((k : Int) < (blen : Int)) = true := decide_eq_true (by omega)
      obtain ⟨g, rfl⟩ : ∃ g, gk = g + 1 := ⟨gk - 1, by omega⟩
      rcases (HR.out.1.later HB.out).cells with h0 | ⟨ab, aoff, rfl, hca⟩
      · omega
      rcases (HR.out.2.later HB.out).cells with h0 | ⟨bb, boff, rfl, hcb⟩
      · omega
      have ga := hca k (by omega)
      have gb := hcb k hlt
      have hmem := getD_mem (us := us) (j := k) (by rw [HLN.out.1]; omega)
      have hax := HR.out.1.lt _ hmem
      have hbx := HR.out.2.lt _ (getD_mem (us := vs) (j := k) (by rw [HLN.out.2]; exact hlt))
      have hfx := HF.out _ hmem
      have HD : Hid (wgK us vs (k + 1) = if srung (us[k]?.getD 0) = 0 then wgK us vs k else prodO (wgK us vs k) (us[k]?.getD 0) (vs[k]?.getD 0) 0) := rfl
      obtain ⟨x, hx⟩ : ∃ x, us[k]?.getD 0 = x := ⟨_, rfl⟩
      obtain ⟨y, hy⟩ : ∃ y, vs[k]?.getD 0 = y := ⟨_, rfl⟩
      rw [hx, hy] at HD
      rw [hx] at ga hax hfx
      rw [hy] at gb hbx
      have hne := neq_ordN hfx (v := 0) (by decide)
      have HIG : Hid (k + (g + 1) = blen) := hk
      have hlt2 : k < len := by omega
      clear hca hcb hx hy hk hfx hmem
      rw [show srung 0 = 0 by decide] at hne
      by_cases h0 : srung x = 0
      · rw [decide_eq_true h0] at hne
        rw [if_pos h0] at HD
        clear h0
        go_wp2_with fail
        go_roundg g
        case measure => omega
        case rel => exact ⟨k + 1, by go_num, by have := HIG.out; omega, by unfold Hid; rw [HD.out]; exact HA.out, HB, HS⟩
      · rw [decide_eq_false h0] at hne
        rw [if_neg h0] at HD
        clear h0
        go_wp2_with (go_at_call 37; refine Calls.mono (accProd_any w.heap.size _ x y 0 hax hbx _ HA.out) ?_; rintro e w5 ⟨rfl, a5, c5⟩)
        have HA5 : Hid (AccO w5 w.heap.size (wgK us vs (k + 1))) := by unfold Hid; rw [HD.out]; exact a5
        have HB5 : Hid (Below w.heap.size w w5) := HB.out.trans c5.below
        have HS5 : Hid (w.heap.size < w5.heap.size) := Nat.lt_of_lt_of_le HS.out c5.below.size
        go_roundg g
        case measure => omega
        case rel => exact ⟨k + 1, by go_num, by have := HIG.out; omega, HA5, HB5, HS5⟩
    · have hd : decide ((k : Int) < (blen : Int)) = false := decide_eq_false (by omega)
      have hd' : decide (k < blen) = false := decide_eq_false (by omega)
      have HA2 : Hid (AccO wr w.heap.size (wgK us vs blen)) := by have e : k = blen := by omega
                                                                  exact e ▸ HA.out
      go_wp2_with fail
      go_ret
      exact ⟨rfl, HA2.out, HB.out, HS.out⟩
end Go.Proofs.Ytcpbccckjlnkaaa


namespace Go.Proofs.Ytcpbccckjlnkaaa
open Go.RowKit Go.Shelf
set_option linter.unusedVariables false
set_option linter.unusedSimpArgs false

/-- What all columns take, one behind the other. -/
def coK (us : List Nat) (gs : List (List Nat)) (n : Nat) (o : Option Int) : Nat → Option Int
  | 0 => o
  | k + 1 => joinO (coK us gs n o k) (absO (wgK us (gs[k]?.getD []) n)) true
/-- What the box takes. -/
def bxK (us rs : List Nat) (o : Option Int) : Nat → Option Int
  | 0 => o
  | k + 1 => prodO (bxK us rs o k) (fopp (frung (us[k]?.getD 0))) (rs[k]?.getD 0) 0
/-- The least sum, as the program reckons it. -/
def leO (z : ZD) (us : List Nat) : Option Int := bxK us z.rs (coK us z.gs z.rn (prodO (wgK us z.cs z.rn) (us[z.rn]?.getD 0) 4607182418800017408 0) z.gn) z.rn
theorem run_negM (x : Nat) : ∀ w, (Op.unary .neg (.float .f64 x)).run Try.prog w = .ok (.float .f64 (fopp x)) w := fun w => rfl
set_option maxRecDepth 100000 in
set_option maxHeartbeats 4000000 in
theorem leastSum_any (z : ZD) (ao : Option Addr) (l c : Nat) (us : List Nat) (w : World) (hz : ZR w z) (ha : RdF w ao l c us) (hW : WhF z) (hl : l = z.rn + 1) (hf : ∀ u ∈ us, Fin u) :
    Calls Try.prog 24 #[.agg #[.int .i64 z.N, .slice z.co z.cn z.cc, .slice z.io z.dn z.dc, .slice z.go z.gn z.gc, .slice z.ro z.rn z.rc, .bool z.bad], .slice ao l c] w fun e w' => e = .returned (.pointer (some ⟨w.heap.size + 1, 0, none⟩)) ∧ AccO w' (w.heap.size + 1) (leO z us) ∧ Below w.heap.size w w' := by
  obtain ⟨N, co, cn, cc, io, dn, dc, go, gn, gc, ro, rn, rc, bad, cs, ids, gv, gs, rs⟩ := z
  have hN := hW.N
  have hcn := hW.cn
  dsimp only at hN hcn hl ⊢
  have HW : Hid _ := hW
  have HZ : Hid (∀ W', Below w.heap.size w W' → ZR W' ⟨N, co, cn, cc, io, dn, dc, go, gn, gc, ro, rn, rc, bad, cs, ids, gv, gs, rs⟩) := fun W' hb => hz.later hb
  have HA : Hid (∀ W', Below w.heap.size w W' → RdF W' ao l c us) := fun W' hb => ha.later hb
  have HF : Hid (∀ u ∈ us, Fin u) := hf
  have HLN : Hid (us.length = l ∧ gs.length = gn ∧ rs.length = rn) := ⟨ha.length, hz.g.length, hz.r.length⟩
  have HRN : Hid (rn ≤ 256 ∧ 1 ≤ rn) := ⟨hW.n2, hW.n1⟩
  have hrn2 : rn ≤ 256 := hW.n2
  have hgm : gn ≤ 9223372036854775807 := Nat.le_trans hz.g.max maxLen_le
  have HLO : Hid (leO ⟨N, co, cn, cc, io, dn, dc, go, gn, gc, ro, rn, rc, bad, cs, ids, gv, gs, rs⟩ us = bxK us rs (coK us gs rn (prodO (wgK us cs rn) (us[rn]?.getD 0) 4607182418800017408 0) gn) rn) := rfl
  obtain ⟨lo, hlo⟩ : ∃ lo, leO ⟨N, co, cn, cc, io, dn, dc, go, gn, gc, ro, rn, rc, bad, cs, ids, gv, gs, rs⟩ us = lo := ⟨_, rfl⟩
  rw [hlo] at HLO ⊢
  subst hN hcn
  have HL : Hid (l = cn + 1) := hl
  have hcl : cn < l := by omega
  have hcl' : (cn : Int) < (l : Int) := by omega
  have hlm : l ≤ 257 := by omega
  clear hl
  have X0 : Below w.heap.size w (w.alloc (.cells #[.int .i64 (cn : Int), .slice co cn cc, .slice io dn dc, .slice go gn gc, .slice ro cn rc, .bool bad] 43)) := (Below.refl _ w).alloc (Nat.le_refl _) _
  have Y0 : (w.alloc (.cells #[.int .i64 (cn : Int), .slice co cn cc, .slice io dn dc, .slice go gn gc, .slice ro cn rc, .bool bad] 43)).heap[w.heap.size]? = _ := heap_alloc_new w _
  have S0 : (w.alloc (.cells #[.int .i64 (cn : Int), .slice co cn cc, .slice io dn dc, .slice go gn gc, .slice ro cn rc, .bool bad] 43)).heap.size = w.heap.size + 1 := by simp only [alloc_size]
  clear hz ha hW hf hlo
  go_enter Try.func24, Try.ntmps24
  go_upto_region 1 with fail
  obtain ⟨X, hX⟩ : ∃ X, (w.alloc (.cells #[.int .i64 (cn : Int), .slice co cn cc, .slice io dn dc, .slice go gn gc, .slice ro cn rc, .bool bad] 43)) = X := ⟨_, rfl⟩
  rw [hX] at X0 Y0 S0 ⊢
  obtain ⟨c0, c1, c2, c3, c4, c5⟩ := cells6 Y0
  clear hX
  go_wp2_with fail
  refine (weighed_any ao co l c cn cc us cs (by omega) HF.out X (HA.out X X0) (HZ.out X X0).c).mono ?_
  rintro e w3 ⟨rfl, a3, b3, s3⟩
  rw [S0] at a3 b3 s3 ⊢
  have HK3 : Hid (Below w.heap.size w w3 ∧ w3.heap[w.heap.size]? = some (.cells #[.int .i64 (cn : Int), .slice co cn cc, .slice io dn dc, .slice go gn gc, .slice ro cn rc, .bool bad] 43)) := ⟨X0.trans (b3.mono (by omega)), (b3.block _ (by omega)).trans Y0⟩
  have HA3 : Hid (AccO w3 (w.heap.size + 1) (wgK us cs cn)) := a3
  clear a3 b3 s3 X0 Y0 c0 c1 c2 c3 c4 c5 S0
  obtain ⟨c0, c1, c2, c3, c4, c5⟩ := cells6 HK3.out.2
  rcases (HA.out _ HK3.out.1).cells with h0 | ⟨ab, aoff, eao, hca⟩
  · omega
  subst eao
  have ga := hca cn hcl
  have hax := (HA.out _ HK3.out.1).lt _ (getD_mem (us := us) (j := cn) (by rw [HLN.out.1]; omega))
  obtain ⟨x, hx⟩ : ∃ x, us[cn]?.getD 0 = x := ⟨_, rfl⟩
  rw [hx] at ga hax HLO
  clear hca hx
  go_wp2_with fail
  refine Calls.mono (accAdd_any (w.heap.size + 1) _ x hax _ HA3.out) ?_
  rintro e w4 ⟨rfl, a4, d4⟩
  have HK4 : Hid (Below w.heap.size w w4 ∧ w4.heap[w.heap.size]? = some (.cells #[.int .i64 (cn : Int), .slice co cn cc, .slice io dn dc, .slice go gn gc, .slice ro cn rc, .bool bad] 43)) := ⟨HK3.out.1.trans (d4.below.mono (by omega)), (d4.other _ (blk_lt HK3.out.2) (by omega)).trans HK3.out.2⟩
  clear c0 c1 c2 c3 c4 c5 ga
  obtain ⟨c0, c1, c2, c3, c4, c5⟩ := cells6 HK4.out.2
  have HA4 : Hid (AccO w4 (w.heap.size + 1) (prodO (wgK us cs cn) x 4607182418800017408 0)) := a4
  clear a4 d4 HK3 HA3
  go_wp2_with fail
  obtain ⟨o1, ho1⟩ : ∃ o1, prodO (wgK us cs cn) x 4607182418800017408 0 = o1 := ⟨_, rfl⟩
  rw [ho1] at HA4 HLO
  clear ho1 c0 c1 c2 c3 c4 c5
  go_loopg [25] gn (fun g iv wx => ∃ k : Nat, iv = .int .i64 k ∧ k + g = gn ∧ Hid (AccO wx (w.heap.size + 1) (coK us gs cn o1 k)) ∧ Hid (Below w.heap.size w wx ∧ wx.heap[w.heap.size]? = some (.cells #[.int .i64 (cn : Int), .slice co cn cc, .slice io dn dc, .slice go gn gc, .slice ro cn rc, .bool bad] 43)))
  case atStart => exact ⟨0, rfl, by omega, HA4, HK4⟩
  case round =>
    clear HA4 HK4
    obtain ⟨k, rfl, hk, HA4, HK4⟩ := hrel
    by_cases hlt : k < gn
    · have hd : decide ((k : Int) < (gn : Int)) = true := decide_eq_true (by omega)
      obtain ⟨g, rfl⟩ : ∃ g, gk = g + 1 := ⟨gk - 1, by omega⟩
      have zx := HZ.out _ HK4.out.1
      rcases zx.g.cells with h0 | ⟨gb, goff, ego, hcg⟩
      · dsimp only at h0; omega
      dsimp only at ego hcg
      subst ego
      have gg := hcg k hlt
      have rg := zx.g.each k hlt
      dsimp only at rg
      have hgl : (gv k).2.1 = cn := by rw [← rg.length]; exact HW.out.gl k (by rw [HW.out.dg]; exact hlt)
      obtain ⟨x1, ex1⟩ : ∃ t, (gv k).1 = t := ⟨_, rfl⟩
      obtain ⟨x3, ex3⟩ : ∃ t, (gv k).2.2 = t := ⟨_, rfl⟩
      rw [ex1, ex3, hgl] at rg gg
      have RG : Hid (RdF wr x1 cn x3 (gs[k]?.getD [])) := rg
      have HIG : Hid (k + (g + 1) = gn) := hk
      have hlt' : (k : Int) < (gn : Int) := by omega
      clear zx hcg rg hgl ex1 ex3 hk
      have hB := HA4.out.block
      go_wp2_with (first
        | (go_at_call 26; refine Calls.mono (weighed_any _ _ l c cn x3 us _ (by omega) HF.out _ (HA.out _ HK4.out.1) RG.out) ?_; rintro e w5 ⟨rfl, a5, b5, s5⟩)
        | (go_at_call 35; refine Calls.mono (accAbs_any wr.heap.size _ w5 a5) ?_; rintro e w6 ⟨rfl, a6, d6⟩)
        | (go_at_call 36; refine Calls.mono (accJoin_any (w.heap.size + 1) wr.heap.size _ _ true w6 ((HA4.out.below b5 hB).chg d6 (Nat.ne_of_lt hB)) a6) ?_; rintro e w7 ⟨rfl, a7, d7⟩))
      have hs5 := b5.size
      have hs6 := d6.below.size
      have HA7 : Hid (AccO w7 (w.heap.size + 1) (coK us gs cn o1 (k + 1))) := a7
      have HK7 : Hid (Below w.heap.size w w7 ∧ w7.heap[w.heap.size]? = some (.cells #[.int .i64 (cn : Int), .slice co cn cc, .slice io dn dc, .slice (some ⟨gb, goff, none⟩) gn gc, .slice ro cn rc, .bool bad] 43)) := by
        have hsz := HK4.out.1.size
        have h9 := blk_lt HK4.out.2
        refine ⟨((HK4.out.1.trans (b5.mono hsz)).trans (d6.below.mono hsz)).trans (d7.below.mono (by omega)), ?_⟩
        rw [d7.other _ (by omega) (by omega), d6.other _ (by omega) (by omega), b5.block _ h9]
        exact HK4.out.2
      clear a5 b5 s5 a6 d6 a7 d7 hs5 hs6 hB gg RG
      go_roundg g
      case measure => omega
      case rel => exact ⟨k + 1, by go_num, by have := HIG.out; omega, HA7, HK7⟩
    · have hd : decide ((k : Int) < (gn : Int)) = false := decide_eq_false (by omega)
      have hd' : decide (k < gn) = false := decide_eq_false (by omega)
      have HA2 : Hid (AccO wr (w.heap.size + 1) (coK us gs cn o1 gn)) := by have e : k = gn := by omega
                                                                            exact e ▸ HA4.out
      obtain ⟨o2, ho2⟩ : ∃ o2, coK us gs cn o1 gn = o2 := ⟨_, rfl⟩
      rw [ho2] at HA2 HLO
      clear HA4 ho2 hk
      obtain ⟨c0, c1, c2, c3, c4, c5⟩ := cells6 HK4.out.2
      go_wp2_with fail
      clear c0 c1 c2 c3 c4 c5 hd hd'
      go_loopg [41] cn (fun g iv wx => ∃ k : Nat, iv = .int .i64 k ∧ k + g = cn ∧ Hid (AccO wx (w.heap.size + 1) (bxK us rs o2 k)) ∧ Hid (Below w.heap.size w wx))
      case atStart => exact ⟨0, rfl, by omega, HA2, HK4.out.1⟩
      case round =>
        clear HA2 HK4
        obtain ⟨k, rfl, hk, HA4, HK4⟩ := hrel
        by_cases hlt : k < cn
        · have hd : decide ((k : Int) < (cn : Int)) = true := decide_eq_true (by omega)
          obtain ⟨g, rfl⟩ : ∃ g, gk = g + 1 := ⟨gk - 1, by omega⟩
          rcases (HZ.out _ HK4.out).r.cells with h0 | ⟨rb, roff, ero, hcr⟩
          · dsimp only at h0; omega
          dsimp only at ero hcr
          subst ero
          rcases (HA.out _ HK4.out).cells with h0 | ⟨ab', aoff', eao, hca⟩
          · omega
          injection eao with eao
          injection eao with e1 e2
          subst e1 e2
          have gr := hcr k hlt
          have ga := hca k (by omega)
          have hmem := getD_mem (us := us) (j := k) (by rw [HLN.out.1]; omega)
          have hax := (HA.out _ HK4.out).lt _ hmem
          have hrx := (HZ.out _ HK4.out).r.lt _ (getD_mem (us := rs) (j := k) (by rw [HLN.out.2.2]; exact hlt))
          have HD : Hid (bxK us rs o2 (k + 1) = prodO (bxK us rs o2 k) (fopp (frung (us[k]?.getD 0))) (rs[k]?.getD 0) 0) := rfl
          obtain ⟨x9, hx9⟩ : ∃ x, us[k]?.getD 0 = x := ⟨_, rfl⟩
          obtain ⟨y9, hy9⟩ : ∃ y, rs[k]?.getD 0 = y := ⟨_, rfl⟩
          rw [hx9, hy9] at HD
          rw [hx9] at ga hax
          rw [hy9] at gr hrx
          have hng := run_negM (frung x9)
          have hfo := (fopp_parts (frung_ltJ hax)).2.2
          have HIG : Hid (k + (g + 1) = cn) := hk
          have hlt2 : k < l := by omega
          clear hcr hca hx9 hy9 hk hmem
          go_wp2_with (first
            | (go_at_call 38; refine Calls.mono (abs_any x9 hax _) ?_; rintro e w' ⟨rfl, rfl⟩)
            | (go_at_call 37; refine Calls.mono (accProd_any (w.heap.size + 1) _ (fopp (frung x9)) y9 0 hfo hrx _ HA4.out) ?_; rintro e w5 ⟨rfl, a5, d5⟩))
          have HA5 : Hid (AccO w5 (w.heap.size + 1) (bxK us rs o2 (k + 1))) := by unfold Hid; rw [HD.out]; exact a5
          have HK5 : Hid (Below w.heap.size w w5) := HK4.out.trans (d5.below.mono (by omega))
          go_roundg g
          case measure => omega
          case rel => exact ⟨k + 1, by go_num, by have := HIG.out; omega, HA5, HK5⟩
        · have hd : decide ((k : Int) < (cn : Int)) = false := decide_eq_false (by omega)
          have hd' : decide (k < cn) = false := decide_eq_false (by omega)
          have HA2 : Hid (AccO wr (w.heap.size + 1) lo) := by
            have e : k = cn := by omega
            unfold Hid
            rw [HLO.out, ← e]
            exact HA4.out
          go_wp2_with fail
          go_ret
          exact ⟨rfl, HA2.out, HK4.out⟩
/-- May it be a claim of a zonotope? -/
def clB (z : ZD) (us : List Nat) : Bool := checkB z && !z.bad && decide ((us.length : Int) = z.N + 1) && numsB us
set_option maxRecDepth 100000 in
set_option maxHeartbeats 4000000 in
theorem isClaim_any (z : ZD) (ao : Option Addr) (l c : Nat) (us : List Nat) (w : World) (hz : ZR w z) (ha : RdF w ao l c us) :
    Calls Try.prog 23 #[.agg #[.int .i64 z.N, .slice z.co z.cn z.cc, .slice z.io z.dn z.dc, .slice z.go z.gn z.gc, .slice z.ro z.rn z.rc, .bool z.bad], .slice ao l c] w fun e w' => e = .returned (.bool (clB z us)) ∧ Below w.heap.size w w' := by
  have HZ : Hid (∀ W', Below w.heap.size w W' → ZR W' z) := fun W' hb => hz.later hb
  have HA : Hid (∀ W', Below w.heap.size w W' → RdF W' ao l c us) := fun W' hb => ha.later hb
  have HLN : Hid (us.length = l) := ha.length
  have hlm : l ≤ 9223372036854775807 := Nat.le_trans ha.max maxLen_le
  obtain ⟨cb, hcb⟩ : ∃ cb, checkB z = cb := ⟨_, rfl⟩
  obtain ⟨nb, hnb⟩ : ∃ nb, numsB us = nb := ⟨_, rfl⟩
  have HC : Hid (∀ W, Below w.heap.size w W → Calls Try.prog 33 #[.agg #[.int .i64 z.N, .slice z.co z.cn z.cc, .slice z.io z.dn z.dc, .slice z.go z.gn z.gc, .slice z.ro z.rn z.rc, .bool z.bad]] W fun e w' => e = .returned (.int .i64 (if cb then 0 else 100)) ∧ Below W.heap.size W w') := fun W hb => hcb ▸ check_any z W (HZ.out W hb)
  have HN : Hid (∀ W, Below w.heap.size w W → Calls Try.prog 30 #[.slice ao l c] W fun e w' => e = .returned (.bool (!nb)) ∧ w' = W) := fun W hb => hnb ▸ hasNo_any ao l c us W (HA.out W hb)
  have HR : Hid (clB z us = (cb && !z.bad && decide ((l : Int) = z.N + 1) && nb)) := by unfold Hid clB; rw [hcb, hnb, HLN.out]
  have HB : Hid (cb = true → z.bad = false → 1 ≤ z.N ∧ z.N ≤ 256) := by
    intro h1 h2
    rw [← hcb] at h1
    unfold checkB at h1
    rw [h2] at h1
    simp only [Bool.false_eq_true, if_false] at h1
    unfold wholeB at h1
    simp only [Bool.and_eq_true, decide_eq_true_eq] at h1
    exact ⟨h1.1.1.1.1.1.1, h1.1.1.1.1.1.2⟩
  clear hz ha hcb hnb HZ HA
  obtain ⟨N, co, cn, cc, io, dn, dc, go, gn, gc, ro, rn, rc, bad, cs, ids, gv, gs, rs⟩ := z
  dsimp only at HC HR HB ⊢
  have X0 : Below w.heap.size w (w.alloc (.cells #[.int .i64 N, .slice co cn cc, .slice io dn dc, .slice go gn gc, .slice ro rn rc, .bool bad] 43)) := (Below.refl _ w).alloc (Nat.le_refl _) _
  have Y0 : (w.alloc (.cells #[.int .i64 N, .slice co cn cc, .slice io dn dc, .slice go gn gc, .slice ro rn rc, .bool bad] 43)).heap[w.heap.size]? = _ := heap_alloc_new w _
  go_enter Try.func23, Try.ntmps23
  go_upto_region 1 with fail
  obtain ⟨X, hX⟩ : ∃ X, (w.alloc (.cells #[.int .i64 N, .slice co cn cc, .slice io dn dc, .slice go gn gc, .slice ro rn rc, .bool bad] 43)) = X := ⟨_, rfl⟩
  rw [hX] at X0 Y0 ⊢
  clear hX
  go_wp2_with (first | (refine wpList_load_row (by rfl) 43 _ (by rfl) w.heap.size _ (by rfl) Y0 _ Try.underlying43 rfl 6 Try.infoZ (by rfl) ?_))
  refine Calls.mono (HC.out _ X0) ?_
  rintro e w1 ⟨rfl, b1⟩
  have Y1 := kept b1 Y0
  have HX1 : Hid (Below w.heap.size w w1) := to_call X0 b1
  obtain ⟨c0, c1, c2, c3, c4, c5⟩ := cells6 Y1
  clear b1 Y0 Y1 X0
  cases cb with
  | false =>
    simp only [Bool.false_eq_true, if_false]
    go_wp2_with fail
    go_ret
    exact ⟨by rw [HR.out]; rfl, HX1.out⟩
  | true =>
    simp only [if_true]
    cases bad with
    | true =>
      go_wp2_with fail
      go_ret
      exact ⟨by rw [HR.out]; rfl, HX1.out⟩
    | false =>
      obtain ⟨hN1, hN2⟩ := HB.out rfl rfl
      by_cases hl : (l : Int) = N + 1
      · have he : ((l : Int) == N + 1) = true := by rw [beq_iff_eq]; exact hl
        have HRL : Hid (decide ((l : Int) = N + 1) = true) := decide_eq_true hl
        clear hl
        go_wp2_with (go_at_call 30; refine Calls.mono (HN.out _ HX1.out) ?_; rintro e w2 ⟨rfl, rfl⟩)
        go_ret
        refine ⟨?_, HX1.out⟩
        rw [HR.out, HRL.out]
        cases nb <;> rfl
      · have he : ((l : Int) == N + 1) = false := by rw [beq_eq_false_iff_ne]; exact hl
        have HRL : Hid (decide ((l : Int) = N + 1) = false) := decide_eq_false hl
        clear hl
        go_wp2_with fail
        go_ret
        refine ⟨?_, HX1.out⟩
        rw [HR.out, HRL.out]
        rfl
end Go.Proofs.Ytcpbccckjlnkaaa

namespace Go.Proofs.Ytcpbccckjlnkaaa
open Go.RowKit Go.Shelf
set_option linter.unusedVariables false
set_option linter.unusedSimpArgs false

theorem clB_is {z : ZD} {us : List Nat} (h : clB z us = true) : z.bad = false ∧ wholeB z = true ∧ (us.length : Int) = z.N + 1 ∧ ∀ u ∈ us, Fin u := by
  unfold clB checkB at h
  simp only [Bool.and_eq_true, decide_eq_true_eq, Bool.not_eq_true'] at h
  obtain ⟨⟨⟨h1, h2⟩, h3⟩, h4⟩ := h
  rw [h2] at h1
  refine ⟨h2, by simpa using h1, h3, fun u hu => ?_⟩
  unfold numsB at h4
  exact of_decide_eq_true (List.all_eq_true.1 h4 u hu)
/-- What Margin tells. -/
def MgR (z : ZD) (us : List Nat) (u : Nat) (b : Bool) : Prop := (clB z us = true → RndO 2 (leO z us) u b) ∧ (clB z us = false → u = 0 ∧ b = false)
theorem MgR.uniq {z : ZD} {us : List Nat} {u v : Nat} {b d : Bool} (h : MgR z us u b) (k : MgR z us v d) : u = v ∧ b = d := by
  cases hc : clB z us with
  | true => exact (h.1 hc).uniq (k.1 hc)
  | false =>
    obtain ⟨rfl, rfl⟩ := h.2 hc
    obtain ⟨rfl, rfl⟩ := k.2 hc
    exact ⟨rfl, rfl⟩
set_option maxRecDepth 100000 in
set_option maxHeartbeats 4000000 in
theorem margin_any (z : ZD) (ao : Option Addr) (l c : Nat) (us : List Nat) (w : World) (hz : ZR w z) (hdn : z.dn ≤ 1050000) (ha : RdF w ao l c us) :
    Calls Try.prog 10 #[.agg #[.int .i64 z.N, .slice z.co z.cn z.cc, .slice z.io z.dn z.dc, .slice z.go z.gn z.gc, .slice z.ro z.rn z.rc, .bool z.bad], .slice ao l c] w fun e w' => ∃ u b, e = .returned (.tuple #[.float .f64 u, .bool b]) ∧ MgR z us u b ∧ Below w.heap.size w w' := by
  have HZ : Hid (∀ W', Below w.heap.size w W' → ZR W' z) := fun W' hb => hz.later hb
  have HA : Hid (∀ W', Below w.heap.size w W' → RdF W' ao l c us) := fun W' hb => ha.later hb
  have HD : Hid (z.dn ≤ 1050000) := hdn
  have HLN : Hid (us.length = l) := ha.length
  have X0 : Below w.heap.size w (w.alloc (.cells #[.int .i64 z.N, .slice z.co z.cn z.cc, .slice z.io z.dn z.dc, .slice z.go z.gn z.gc, .slice z.ro z.rn z.rc, .bool z.bad] 43)) := (Below.refl _ w).alloc (Nat.le_refl _) _
  have Y0 : (w.alloc (.cells #[.int .i64 z.N, .slice z.co z.cn z.cc, .slice z.io z.dn z.dc, .slice z.go z.gn z.gc, .slice z.ro z.rn z.rc, .bool z.bad] 43)).heap[w.heap.size]? = _ := heap_alloc_new w _
  clear hz ha hdn
  go_enter Try.func10, Try.ntmps10
  go_upto_region 1 with fail
  obtain ⟨X, hX⟩ : ∃ X, (w.alloc (.cells #[.int .i64 z.N, .slice z.co z.cn z.cc, .slice z.io z.dn z.dc, .slice z.go z.gn z.gc, .slice z.ro z.rn z.rc, .bool z.bad] 43)) = X := ⟨_, rfl⟩
  rw [hX] at X0 Y0 ⊢
  clear hX
  obtain ⟨cb, hcb⟩ : ∃ cb, clB z us = cb := ⟨_, rfl⟩
  have HC : Hid (∀ W, Below w.heap.size w W → Calls Try.prog 23 #[.agg #[.int .i64 z.N, .slice z.co z.cn z.cc, .slice z.io z.dn z.dc, .slice z.go z.gn z.gc, .slice z.ro z.rn z.rc, .bool z.bad], .slice ao l c] W fun e w' => e = .returned (.bool cb) ∧ Below W.heap.size W w') := fun W hb => hcb ▸ isClaim_any z ao l c us W (HZ.out W hb) (HA.out W hb)
  go_wp2_with (first | (refine wpList_load_row (by rfl) 43 _ (by rfl) w.heap.size _ (by rfl) Y0 _ Try.underlying43 rfl 6 Try.infoZ (by rfl) ?_))
  refine Calls.mono (HC.out _ X0) ?_
  rintro e w1 ⟨rfl, b1⟩
  have Y1 := kept b1 Y0
  have HX1 : Hid (Below w.heap.size w w1) := to_call X0 b1
  clear b1 Y0 X0
  cases cb with
  | false =>
    go_wp2_with fail
    refine bodyPost_ret (v := .tuple #[.float .f64 0, .bool false]) (res_tmp2J _ 4 5 (by kernel_rfl) _ _ _ _ (by rfl) (by rfl)) rfl ?_
    exact ⟨0, false, rfl, ⟨fun h => absurd (hcb.symm.trans h) (by decide), fun _ => ⟨rfl, rfl⟩⟩, HX1.out⟩
  | true =>
    obtain ⟨h1, h2, h3, h4⟩ := clB_is hcb
    have hW : WhF z := WhF.of (HZ.out w (Below.refl _ _)) HD.out h2
    have HW : Hid (WhF z ∧ l = z.rn + 1 ∧ ∀ u ∈ us, Fin u) := ⟨hW, by have := HLN.out; have := hW.N; omega, h4⟩
    have HCB : Hid (clB z us = true) := hcb
    clear h1 h2 h3 h4 hW hcb
    go_wp2_with (first | (refine wpList_load_row (by rfl) 43 _ (by rfl) w.heap.size _ (by rfl) Y1 _ Try.underlying43 rfl 6 Try.infoZ (by rfl) ?_))
    refine Calls.mono (leastSum_any z ao l c us _ (HZ.out _ HX1.out) (HA.out _ HX1.out) HW.out.1 HW.out.2.1 HW.out.2.2) ?_
    rintro e w2 ⟨rfl, a2, b2⟩
    have HX2 : Hid (Below w.heap.size w w2) := to_call HX1.out b2
    have HA2 : Hid _ := a2
    clear a2 b2 Y1
    go_wp2_with fail
    refine Calls.mono (accRound_any 2 _ _ _ HA2.out) ?_
    rintro e w3 ⟨u, b, rfl, hr, b3⟩
    have HR : Hid (RndO 2 (leO z us) u b) := hr
    clear hr
    go_wp2_with fail
    refine bodyPost_ret (v := .tuple #[.float .f64 u, .bool b]) (res_tmp2J _ 4 5 (by kernel_rfl) _ _ _ _ (by rfl) (by rfl)) rfl ?_
    exact ⟨u, b, rfl, ⟨fun _ => HR.out, fun h => absurd (HCB.out.symm.trans h) (by decide)⟩, to_call HX2.out b3⟩
end Go.Proofs.Ytcpbccckjlnkaaa


namespace Go.Proofs.Ytcpbccckjlnkaaa
open Go.RowKit Go.Shelf
set_option linter.unusedVariables false
set_option linter.unusedSimpArgs false

theorem Try.infoIM : (Try.prog.info? 3).map (fun i => (i.zero, i.size, i.bytes)) = some (some (.int .i64 0), 1, 8) := by kernel_rfl
theorem Try.szIM : (Try.prog.info? 3).map (·.size) = some 1 := by kernel_rfl
/-- The cells of a row of ints. -/
def inC (is : List Int) : Array Value := (is.map fun x => Value.int .i64 x).toArray
theorem inC_size (is : List Int) : (inC is).size = is.length := by unfold inC; simp
theorem inC_at (is : List Int) (j : Nat) (h : j < is.length) : (inC is)[j]? = some (.int .i64 (is[j]?.getD 0)) := by
  unfold inC
  rw [List.getElem?_toArray, List.getElem?_map, List.getElem?_eq_getElem h]
  rfl
theorem inC_set (is : List Int) (j : Nat) (x : Int) (h : j < is.length) : ((inC is).toList.take j ++ (Value.int .i64 x).cells.toList ++ (inC is).toList.drop (j + 1)).toArray = inC (is.set j x) := by
  have hc : (Value.int .i64 x).cells.toList = [.int .i64 x] := rfl
  rw [hc]
  unfold inC
  congr 1
  show (List.map _ is).take j ++ [_] ++ (List.map _ is).drop (j + 1) = _
  rw [List.map_set, List.set_eq_take_append_cons_drop, if_pos (by rw [List.length_map]; exact h), List.append_assoc]
  rfl
theorem inC_zero (n : Nat) : madeCells #[.int .i64 0] n = inC (List.replicate n 0) := by
  apply Array.ext_getElem?
  intro j
  by_cases h : j < n
  · rw [inC_at _ j (by simpa using h)]
    unfold madeCells
    simp [h, Nat.mod_one]
  · rw [Array.getElem?_eq_none (by unfold madeCells; simp; omega), Array.getElem?_eq_none (by rw [inC_size]; simp; omega)]
theorem inC_rd {W : World} {B : Nat} {is : List Int} (h : W.heap[B]? = some (.cells (inC is) 3)) (hm : is.length ≤ maxLen) : RdIs W (some ⟨B, 0, none⟩) is.length is.length is :=
  ⟨rfl, hm, .inr ⟨B, 0, rfl, fun j hj => by rw [Nat.zero_add]; exact cellAtJ h j _ (inC_at is j hj)⟩⟩
theorem makeIM (n : Nat) (hn : n ≤ 4000000) (w : World) :
    (Instr.makeSlice 41 (.int .i64 (n : Int)) (.int .i64 (n : Int))).run Try.prog w = .ok (.slice (some ⟨w.heap.size, 0, none⟩) n n) (w.alloc (.cells (inC (List.replicate n 0)) 3)) := by
  obtain ⟨i0, hi, hz0, hz1, hz2⟩ := info3J Try.infoIM
  have h := run_makeSlice (P := Try.prog) w 41 3 i0 (.int .i64 0) Try.underlying41 hi hz0 .i64 .i64 (n : Int) (n : Int) (by omega) (by omega) (by rw [hz1, Int.toNat_natCast]; omega) (by rw [hz2]; omega) (by omega)
  rw [Int.toNat_natCast, hz1, Nat.mul_one] at h
  rw [← inC_zero]
  exact h
theorem one_inM (x : Int) : ∀ u ∈ (Value.int .i64 x).cells.toList, u.oneCell' = true := by
  intro u hu
  have : u = .int .i64 x := by simpa [Value.cells] using hu
  rw [this]; rfl
theorem sgi_bound (x : Int) : -1 ≤ sgi x ∧ sgi x ≤ 1 := by
  unfold sgi; split
  · omega
  · split <;> omega
theorem signO_bound (o : Option Int) : -1 ≤ signO o ∧ signO o ≤ 1 := by
  cases o with
  | none => exact ⟨by decide, by decide⟩
  | some z => exact sgi_bound z
set_option maxRecDepth 100000 in
set_option maxHeartbeats 1000000 in
theorem sameIntsM_any (ao bo : Option Addr) (n m c d : Nat) (is js : List Int) (w : World) (h : RdIs w ao n c is) (k : RdIs w bo m d js) :
    Calls Try.prog 12 #[.slice ao n c, .slice bo m d] w fun e w' => e = .returned (.bool (decide (is = js))) ∧ Below w.heap.size w w' := by
  have HR : Hid (∀ W', Below w.heap.size w W' → RdIs W' ao n c is ∧ RdIs W' bo m d js) := fun W' hb => ⟨h.later hb, k.later hb⟩
  have hm1 := Nat.le_trans h.max maxLen_le
  have hm2 := Nat.le_trans k.max maxLen_le
  have HL : Hid (is.length = n ∧ js.length = m) := ⟨h.length, k.length⟩
  clear h k
  by_cases hn : n = m
  · subst hn
    have hb : ((n : Int) != (n : Int)) = false := by simp
    go_enter Try.func12, Try.ntmps12
    go_wp2_with fail
    go_loopg [5] n (fun g iv wx => ∃ k : Nat, iv = .int .i64 k ∧ k + g = n ∧ Hid (Below w.heap.size w wx) ∧ Hid (is.take k = js.take k))
    case atStart => exact ⟨0, rfl, by omega, Below.refl _ _, rfl⟩
    case round =>
      obtain ⟨k, rfl, hk, HB, HI⟩ := hrel
      by_cases h1 : k < n
      · have hd1 : decide ((k : Int) < (n : Int)) = true := decide_eq_true (by omega)
        obtain ⟨q, rfl⟩ : ∃ q, gk = q + 1 := ⟨gk - 1, by omega⟩
        have HIG : Hid (k + (q + 1) = n) := hk
        have h1' : (k : Int) < (n : Int) := by omega
        clear hk
        obtain ⟨r1, r2⟩ := HR.out wr HB.out
        rcases r1.cells with h0 | ⟨ab, aoff, rfl, hca⟩
        · omega
        rcases r2.cells with h0 | ⟨bb, boff, rfl, hcb⟩
        · omega
        have ga := hca k h1
        have gb := hcb k h1
        have HK1 : Hid (is.take (k + 1) = is.take k ++ [is[k]?.getD 0] ∧ js.take (k + 1) = js.take k ++ [js[k]?.getD 0] ∧ (is[k]?.getD 0 ≠ js[k]?.getD 0 → is ≠ js)) := by
          have e1 : k < is.length := by rw [HL.out.1]; exact h1
          have e2 : k < js.length := by rw [HL.out.2]; exact h1
          refine ⟨by rw [List.take_succ_eq_append_getElem e1, List.getElem?_eq_getElem e1]; rfl, by rw [List.take_succ_eq_append_getElem e2, List.getElem?_eq_getElem e2]; rfl, fun hne e => hne (by rw [e])⟩
        obtain ⟨x, hx⟩ : ∃ x, is[k]?.getD 0 = x := ⟨_, rfl⟩
        obtain ⟨y, hy⟩ : ∃ y, js[k]?.getD 0 = y := ⟨_, rfl⟩
        rw [hx] at ga HK1
        rw [hy] at gb HK1
        clear hca hcb hx hy r1 r2
        go_upto_region 6 with fail
        have hS : (fun V => V.cell? ⟨ab, aoff + k, none⟩ = some (.int .i64 x) ∧ V.cell? ⟨bb, boff + k, none⟩ = some (.int .i64 y)) wr.drew := ⟨ga, gb⟩
        refine wp_region_noPanic ?_
        refine wp_region_held_drew (S := (fun V => V.cell? ⟨ab, aoff + k, none⟩ = some (.int .i64 x) ∧ V.cell? ⟨bb, boff + k, none⟩ = some (.int .i64 y))) (by kernel_rfl) hS (fun _ => ?_)
        refine takeH 17 (i := 0) (v := ?_) rfl rfl (by kernel_rfl) (by kernel_rfl) (by kernel_rfl) (fun _ _ _ h => h) (Or.inl ⟨by kernel_rfl, ?_⟩) hS ?_
        rotate_left
        · intro w' hSw; obtain ⟨s0, s1⟩ := hSw; go_simp; try with_reducible rfl
        try simp only [Act.put, List.setIfInBounds_toArray, List.set_cons_zero, List.set_cons_succ]
        refine takeH 18 (i := 1) (v := ?_) rfl rfl (by kernel_rfl) (by kernel_rfl) (by kernel_rfl) (fun _ _ _ h => h) (Or.inl ⟨by kernel_rfl, ?_⟩) hS ?_
        rotate_left
        · intro w' hSw; obtain ⟨s0, s1⟩ := hSw; go_simp; try with_reducible rfl
        try simp only [Act.put, List.setIfInBounds_toArray, List.set_cons_zero, List.set_cons_succ]
        refine takeH 19 (i := 2) (v := ?_) rfl rfl (by kernel_rfl) (by kernel_rfl) (by kernel_rfl) (fun _ _ _ h => h) (Or.inl ⟨by kernel_rfl, ?_⟩) hS ?_
        rotate_left
        · intro w' hSw; obtain ⟨s0, s1⟩ := hSw; go_simp; try with_reducible rfl
        try simp only [Act.put, List.setIfInBounds_toArray, List.set_cons_zero, List.set_cons_succ]
        refine takeH 20 (i := 3) (v := ?_) rfl rfl (by kernel_rfl) (by kernel_rfl) (by kernel_rfl) (fun _ _ _ h => h) (Or.inl ⟨by kernel_rfl, ?_⟩) hS ?_
        rotate_left
        · intro w' hSw; obtain ⟨s0, s1⟩ := hSw; go_simp; try with_reducible rfl
        try simp only [Act.put, List.setIfInBounds_toArray, List.set_cons_zero, List.set_cons_succ]
        refine takeH 21 (i := 4) (v := ?_) rfl rfl (by kernel_rfl) (by kernel_rfl) (by kernel_rfl) (fun _ _ _ h => h) (Or.inl ⟨by kernel_rfl, ?_⟩) hS ?_
        rotate_left
        · intro w' hSw; obtain ⟨s0, s1⟩ := hSw; go_simp; try with_reducible rfl
        try simp only [Act.put, List.setIfInBounds_toArray, List.set_cons_zero, List.set_cons_succ]
        refine takeH 22 (i := 5) (v := ?_) rfl rfl (by kernel_rfl) (by kernel_rfl) (by kernel_rfl) (fun _ _ _ h => h) (Or.inl ⟨by kernel_rfl, ?_⟩) hS ?_
        rotate_left
        · intro w' hSw; obtain ⟨s0, s1⟩ := hSw; go_simp; try with_reducible rfl
        try simp only [Act.put, List.setIfInBounds_toArray, List.set_cons_zero, List.set_cons_succ]
        refine takeH 23 (i := 6) (v := ?_) rfl rfl (by kernel_rfl) (by kernel_rfl) (by kernel_rfl) (fun _ _ _ h => h) (Or.inl ⟨by kernel_rfl, ?_⟩) hS ?_
        rotate_left
        · intro w' hSw; obtain ⟨s0, s1⟩ := hSw; go_simp; try with_reducible rfl
        try simp only [Act.put, List.setIfInBounds_toArray, List.set_cons_zero, List.set_cons_succ]
        refine takeH 24 (i := 7) (v := ?_) rfl rfl (by kernel_rfl) (by kernel_rfl) (by kernel_rfl) (fun _ _ _ h => h) (Or.inl ⟨by kernel_rfl, ?_⟩) hS ?_
        rotate_left
        · intro w' hSw; obtain ⟨s0, s1⟩ := hSw; go_simp; try with_reducible rfl
        try simp only [Act.put, List.setIfInBounds_toArray, List.set_cons_zero, List.set_cons_succ]
        refine takeH 25 (i := 8) (v := ?_) rfl rfl (by kernel_rfl) (by kernel_rfl) (by kernel_rfl) (fun _ _ _ h => h) (Or.inl ⟨by kernel_rfl, ?_⟩) hS ?_
        rotate_left
        · intro w' hSw; obtain ⟨s0, s1⟩ := hSw; go_simp; try with_reducible rfl
        try simp only [Act.put, List.setIfInBounds_toArray, List.set_cons_zero, List.set_cons_succ]
        refine wpAnyH_done (by kernel_rfl) ?_ _
        refine NoPanic.normal ?_
        try simp only [Act.put, List.setIfInBounds_toArray, List.set_cons_zero, List.set_cons_succ]
        have HB2 : Hid (Below w.heap.size w wr.drew) := HB.out.drew
        by_cases hxy : x = y
        · have hd2 : (x != y) = false := by simp [hxy]
          have hd3 : (x == y) = true := by simp [hxy]
          have HI2 : Hid (is.take (k + 1) = js.take (k + 1)) := by unfold Hid; rw [HK1.out.1, HK1.out.2.1, HI.out, hxy]
          subst hxy
          clear hS ga gb
          go_wp2_with fail
          go_roundg q
          case measure => omega
          case rel => exact ⟨k + 1, by go_num, by have := HIG.out; omega, HB2, HI2⟩
        · have hd2 : (x != y) = true := by simpa using hxy
          have hd3 : (x == y) = false := by simpa using hxy
          have HN : Hid (decide (is = js) = false) := decide_eq_false (HK1.out.2.2 hxy)
          clear hS ga gb hxy
          go_wp2_with fail
          go_ret
          exact ⟨by rw [HN.out]; rfl, HB2.out⟩
      · have hd1 : decide ((k : Int) < (n : Int)) = false := decide_eq_false (by omega)
        have hd2 : decide (k < n) = false := decide_eq_false (by omega)
        have HN : Hid (decide (is = js) = true) := by
          have h9 := HI.out
          rw [List.take_of_length_le (by rw [HL.out.1]; omega), List.take_of_length_le (by rw [HL.out.2]; omega)] at h9
          exact decide_eq_true h9
        go_wp2_with fail
        go_ret
        exact ⟨by rw [HN.out]; rfl, HB.out⟩
  · have hb : ((n : Int) != (m : Int)) = true := by simp; omega
    have hb2 : ((n : Int) == (m : Int)) = false := by simp; omega
    have HN : Hid (decide (is = js) = false) := decide_eq_false (fun e => hn (by rw [← HL.out.1, ← HL.out.2, e]))
    clear hn
    go_enter Try.func12, Try.ntmps12
    go_wp2_with fail
    go_ret
    exact ⟨by rw [HN.out]; rfl, Below.refl _ _⟩
/-- The signs, column by column. -/
def siL (z : ZD) (us : List Nat) (k : Nat) : Nat → List Int
  | 0 => List.replicate k 0
  | c + 1 => if z.ids[c]?.getD 0 < (k : Int) then (siL z us k c).set (z.ids[c]?.getD 0).toNat (-(signO (wgK us (z.gs[c]?.getD []) z.rn))) else siL z us k c
theorem siL_len (z : ZD) (us : List Nat) (k : Nat) : ∀ c, (siL z us k c).length = k
  | 0 => by simp [siL]
  | c + 1 => by
    unfold siL
    split
    · rw [List.length_set]; exact siL_len z us k c
    · exact siL_len z us k c
/-- What Signs tells. -/
def sgL (z : ZD) (us : List Nat) (k : Nat) : List Int := if clB z us then siL z us k z.dn else List.replicate k 0
theorem sgL_len (z : ZD) (us : List Nat) (k : Nat) : (sgL z us k).length = k := by
  unfold sgL
  split
  · exact siL_len z us k _
  · simp
def SgR (z : ZD) (us : List Nat) (k : Int) (base : Nat) (W : World) (o : Option Addr) (n : Nat) : Prop := if 0 ≤ k ∧ k ≤ 256 then n = k.toNat ∧ ∃ B, o = some ⟨B, 0, none⟩ ∧ base ≤ B ∧ W.heap[B]? = some (.cells (inC (sgL z us k.toNat)) 3) else o = none ∧ n = 0
theorem SgR.rd {z : ZD} {us : List Nat} {k : Int} {base : Nat} {W : World} {o : Option Addr} {n : Nat} (h : SgR z us k base W o n) : RdIs W o n n (if 0 ≤ k ∧ k ≤ 256 then sgL z us k.toNat else []) := by
  unfold SgR at h
  split at h
  · rename_i hk
    obtain ⟨rfl, B, rfl, hB, hc⟩ := h
    rw [if_pos hk]
    have h9 := inC_rd hc (by rw [sgL_len]; simp only [maxLen]; omega)
    rw [sgL_len] at h9
    exact h9
  · rename_i hk
    obtain ⟨rfl, rfl⟩ := h
    rw [if_neg hk]
    exact ⟨rfl, by decide, .inl rfl⟩
set_option maxRecDepth 100000 in
set_option maxHeartbeats 4000000 in
theorem signs_any (z : ZD) (ao : Option Addr) (l c : Nat) (us : List Nat) (k : Int) (w : World) (hz : ZR w z) (hdn : z.dn ≤ 1050000) (ha : RdF w ao l c us) (hid : wholeB z = true → ∀ j, j < z.dn → 0 ≤ z.ids[j]?.getD 0) :
    Calls Try.prog 13 #[.agg #[.int .i64 z.N, .slice z.co z.cn z.cc, .slice z.io z.dn z.dc, .slice z.go z.gn z.gc, .slice z.ro z.rn z.rc, .bool z.bad], .slice ao l c, .int .i64 k] w fun e w' => (∃ (o : Option Addr) (n : Nat), e = .returned (.slice o n n) ∧ SgR z us k w.heap.size w' o n) ∧ Below w.heap.size w w' := by
  obtain ⟨N, co, cn, cc, io, dn, dc, go, gn, gc, ro, rn, rc, bad, cs, ids, gv, gs, rs⟩ := z
  dsimp only at hdn hid ⊢
  have HZ : Hid (∀ W', Below w.heap.size w W' → ZR W' ⟨N, co, cn, cc, io, dn, dc, go, gn, gc, ro, rn, rc, bad, cs, ids, gv, gs, rs⟩) := fun W' hb => hz.later hb
  have HA : Hid (∀ W', Below w.heap.size w W' → RdF W' ao l c us) := fun W' hb => ha.later hb
  have HD : Hid (dn ≤ 1050000) := hdn
  have HLN : Hid (us.length = l ∧ ids.length = dn) := ⟨ha.length, hz.i.length⟩
  have HID : Hid (wholeB ⟨N, co, cn, cc, io, dn, dc, go, gn, gc, ro, rn, rc, bad, cs, ids, gv, gs, rs⟩ = true → ∀ j, j < dn → 0 ≤ ids[j]?.getD 0) := hid
  have X0 : Below w.heap.size w (w.alloc (.cells #[.int .i64 N, .slice co cn cc, .slice io dn dc, .slice go gn gc, .slice ro rn rc, .bool bad] 43)) := (Below.refl _ w).alloc (Nat.le_refl _) _
  have Y0 : (w.alloc (.cells #[.int .i64 N, .slice co cn cc, .slice io dn dc, .slice go gn gc, .slice ro rn rc, .bool bad] 43)).heap[w.heap.size]? = _ := heap_alloc_new w _
  clear hz ha hdn hid
  by_cases hk : 0 ≤ k ∧ k ≤ 256
  · obtain ⟨n, rfl⟩ : ∃ n : Nat, k = n := ⟨k.toNat, by omega⟩
    have hn : n ≤ 256 := by omega
    have HSR : Hid (∀ (W : World) (B : Nat), w.heap.size < B → W.heap[B]? = some (.cells (inC (sgL ⟨N, co, cn, cc, io, dn, dc, go, gn, gc, ro, rn, rc, bad, cs, ids, gv, gs, rs⟩ us n)) 3) → SgR ⟨N, co, cn, cc, io, dn, dc, go, gn, gc, ro, rn, rc, bad, cs, ids, gv, gs, rs⟩ us (n : Int) w.heap.size W (some ⟨B, 0, none⟩) n) := by
      intro W B h1 h2
      unfold SgR
      rw [if_pos hk, Int.toNat_natCast]
      exact ⟨rfl, B, rfl, by omega, h2⟩
    have hk1 : decide ((n : Int) < 0) = false := decide_eq_false (by omega)
    have hk2 : decide ((n : Int) > 256) = false := decide_eq_false (by omega)
    have hmk := makeIM n (by omega)
    clear hk
    go_enter Try.func13, Try.ntmps13
    go_upto_region 3 with fail
    obtain ⟨X, hX⟩ : ∃ X, (w.alloc (.cells #[.int .i64 N, .slice co cn cc, .slice io dn dc, .slice go gn gc, .slice ro rn rc, .bool bad] 43)) = X := ⟨_, rfl⟩
    rw [hX] at X0 Y0 ⊢
    clear hX
    go_upto_region 4 with fail
    obtain ⟨B, hB⟩ : ∃ B, X.heap.size = B := ⟨_, rfl⟩
    obtain ⟨X1, hX1⟩ : ∃ X1, (X.alloc (.cells (inC (List.replicate n 0)) 3)) = X1 := ⟨_, rfl⟩
    have P1 : Hid (Below w.heap.size w X1 ∧ X1.heap[w.heap.size]? = some (.cells #[.int .i64 N, .slice co cn cc, .slice io dn dc, .slice go gn gc, .slice ro rn rc, .bool bad] 43) ∧ X1.heap[B]? = some (.cells (inC (List.replicate n 0)) 3) ∧ w.heap.size < B) := by
      rw [← hX1, ← hB]
      exact ⟨X0.alloc X0.size _, alloc_kept Y0 _, heap_alloc_new X _, blk_lt Y0⟩
    rw [hX1, hB]
    clear hX1 hB X0 Y0 hk1 hk2 hmk
    obtain ⟨cb, hcb⟩ : ∃ cb, clB ⟨N, co, cn, cc, io, dn, dc, go, gn, gc, ro, rn, rc, bad, cs, ids, gv, gs, rs⟩ us = cb := ⟨_, rfl⟩
    have HC : Hid (∀ W, Below w.heap.size w W → Calls Try.prog 23 #[.agg #[.int .i64 N, .slice co cn cc, .slice io dn dc, .slice go gn gc, .slice ro rn rc, .bool bad], .slice ao l c] W fun e w' => e = .returned (.bool cb) ∧ Below W.heap.size W w') := fun W hb => hcb ▸ isClaim_any ⟨N, co, cn, cc, io, dn, dc, go, gn, gc, ro, rn, rc, bad, cs, ids, gv, gs, rs⟩ ao l c us W (HZ.out W hb) (HA.out W hb)
    go_wp2_with (first | (refine wpList_load_row (by rfl) 43 _ (by rfl) w.heap.size _ (by rfl) P1.out.2.1 _ Try.underlying43 rfl 6 Try.infoZ (by rfl) ?_))
    refine Calls.mono (HC.out _ P1.out.1) ?_
    rintro e w1 ⟨rfl, b1⟩
    have P2 : Hid (Below w.heap.size w w1 ∧ w1.heap[w.heap.size]? = some (.cells #[.int .i64 N, .slice co cn cc, .slice io dn dc, .slice go gn gc, .slice ro rn rc, .bool bad] 43) ∧ w1.heap[B]? = some (.cells (inC (List.replicate n 0)) 3) ∧ w.heap.size < B) := ⟨to_call P1.out.1 b1, kept b1 P1.out.2.1, kept b1 P1.out.2.2.1, P1.out.2.2.2⟩
    clear b1 P1
    cases cb with
    | false =>
      go_wp2_with fail
      go_ret
      refine ⟨⟨_, n, rfl, HSR.out _ B P2.out.2.2.2 ?_⟩, P2.out.1⟩
      unfold sgL
      rw [hcb]
      exact P2.out.2.2.1
    | true =>
      obtain ⟨h1, h2, h3, h4⟩ := clB_is hcb
      have hW : WhF ⟨N, co, cn, cc, io, dn, dc, go, gn, gc, ro, rn, rc, bad, cs, ids, gv, gs, rs⟩ := WhF.of (HZ.out w (Below.refl _ _)) HD.out h2
      have HW : Hid (WhF ⟨N, co, cn, cc, io, dn, dc, go, gn, gc, ro, rn, rc, bad, cs, ids, gv, gs, rs⟩ ∧ l = rn + 1 ∧ (∀ u ∈ us, Fin u) ∧ ∀ j, j < dn → 0 ≤ ids[j]?.getD 0) := ⟨hW, by have := HLN.out.1; have h9 := hW.N; dsimp only at h9 h3; omega, h4, HID.out h2⟩
      have HCB : Hid (clB ⟨N, co, cn, cc, io, dn, dc, go, gn, gc, ro, rn, rc, bad, cs, ids, gv, gs, rs⟩ us = true) := hcb
      have hdm : dn ≤ 1050000 := HD.out
      have hdg : dn = gn := hW.dg
      clear h1 h2 h3 h4 hW hcb HID
      obtain ⟨c0, c1, c2, c3, c4, c5⟩ := cells6 P2.out.2.1
      have HDG : Hid (dn = gn) := hdg
      clear hdg
      go_wp2_with fail
      clear c0 c1 c2 c3 c4 c5
      go_loopg [26] dn (fun g iv wx => ∃ i : Nat, iv = .int .i64 i ∧ i + g = dn ∧ Hid (Below w.heap.size w wx ∧ wx.heap[w.heap.size]? = some (.cells #[.int .i64 N, .slice co cn cc, .slice io dn dc, .slice go gn gc, .slice ro rn rc, .bool bad] 43) ∧ wx.heap[B]? = some (.cells (inC (siL ⟨N, co, cn, cc, io, dn, dc, go, gn, gc, ro, rn, rc, bad, cs, ids, gv, gs, rs⟩ us n i)) 3) ∧ w.heap.size < B))
      case atStart => exact ⟨0, rfl, by omega, P2⟩
      case round =>
        clear P2
        obtain ⟨i, rfl, hi, P2⟩ := hrel
        by_cases hlt : i < dn
        · have hd : decide ((i : Int) < (dn : Int)) = true := decide_eq_true (by omega)
          obtain ⟨q, rfl⟩ : ∃ q, gk = q + 1 := ⟨gk - 1, by omega⟩
          have HIG : Hid (i + (q + 1) = dn) := hi
          have hlt' : (i : Int) < (dn : Int) := by omega
          have zx := HZ.out _ P2.out.1
          have zi := zx.i
          have zg := zx.g
          dsimp only at zi zg
          rcases zi.cells with h0 | ⟨ib, ioff, eio, hci⟩
          · omega
          rcases zg.cells with h0 | ⟨gb, goff, ego, hcg⟩
          · have := HDG.out; omega
          have gi := hci i hlt
          have hig : i < gn := by rw [← HDG.out]; exact hlt
          have gg := hcg i hig
          have rg := zg.each i hig
          have hgl : (gv i).2.1 = rn := by rw [← rg.length]; exact HW.out.1.gl i hlt
          obtain ⟨x1, ex1⟩ : ∃ t, (gv i).1 = t := ⟨_, rfl⟩
          obtain ⟨x3, ex3⟩ : ∃ t, (gv i).2.2 = t := ⟨_, rfl⟩
          rw [ex1, ex3, hgl] at rg gg
          have hid0 := HW.out.2.2.2 i hlt
          have HSI : Hid (siL ⟨N, co, cn, cc, io, dn, dc, go, gn, gc, ro, rn, rc, bad, cs, ids, gv, gs, rs⟩ us n (i + 1) = if ids[i]?.getD 0 < (n : Int) then (siL ⟨N, co, cn, cc, io, dn, dc, go, gn, gc, ro, rn, rc, bad, cs, ids, gv, gs, rs⟩ us n i).set (ids[i]?.getD 0).toNat (-(signO (wgK us (gs[i]?.getD []) rn))) else siL ⟨N, co, cn, cc, io, dn, dc, go, gn, gc, ro, rn, rc, bad, cs, ids, gv, gs, rs⟩ us n i) := rfl
          obtain ⟨id, hid⟩ : ∃ id : Nat, ids[i]?.getD 0 = id := ⟨(ids[i]?.getD 0).toNat, by omega⟩
          rw [hid] at gi HSI
          rw [Int.toNat_natCast] at HSI
          have RG : Hid (RdF wr x1 rn x3 (gs[i]?.getD [])) := rg
          have GG : Hid (wr.cell? ⟨gb, goff + i, none⟩ = some (.slice x1 rn x3)) := gg
          have C3 : Hid (wr.cell? ⟨w.heap.size, 3, none⟩ = some (.slice (some ⟨gb, goff, none⟩) gn gc)) := by have h9 := cellAtJ P2.out.2.1 3 _ rfl; rw [ego] at h9; exact h9
          have hig' : (i : Int) < (gn : Int) := by omega
          subst eio ego
          clear zx zi zg hci hcg rg gg hgl ex1 ex3 hi hid hid0
          obtain ⟨s, hs⟩ : ∃ s, signO (wgK us (gs[i]?.getD []) rn) = s := ⟨_, rfl⟩
          have hsb := signO_bound (wgK us (gs[i]?.getD []) rn)
          have HSg : Hid (∀ W B', AccO W B' (wgK us (gs[i]?.getD []) rn) → Calls Try.prog 27 #[.pointer (some ⟨B', 0, none⟩)] W fun e w' => e = .returned (.int .i64 s) ∧ w' = W) := fun W B' h => hs ▸ accSign_any B' _ W h
          rw [hs] at hsb HSI
          obtain ⟨hs1, hs2⟩ := hsb
          clear hs
          by_cases hik : id < n
          · have hik2 : decide ((id : Int) < (n : Int)) = true := decide_eq_true (by omega)
            have hik3 : (id : Int) < (n : Int) := by omega
            rw [if_pos hik3] at HSI
            have c3 := C3.out
            have cg := GG.out
            go_wp2_with (first
              | (go_at_call 27; refine Calls.mono (HSg.out _ _ a5) ?_; rintro e w6 ⟨rfl, hw6⟩; rw [hw6]; clear hw6)
              | (refine wpList_store_at (by rfl) 3 _ _ (by rfl) w w.heap.size B id (.int .i64 (-s)) _ (inC ((siL ⟨N, co, cn, cc, (some ⟨ib, ioff, none⟩), dn, dc, (some ⟨gb, goff, none⟩), gn, gc, ro, rn, rc, bad, cs, ids, gv, gs, rs⟩ us n i).set id (-s))) 3 (by kernel_rfl) (by kernel_rfl) (kept b5 P2.out.2.2.1) (to_call P2.out.1 b5) (Nat.le_of_lt P2.out.2.2.2) 1 Try.szIM rfl (by rw [inC_size, siL_len]; omega) (one_inM _) (inC_set _ _ _ (by rw [siL_len]; exact hik)) ?_; intro W2 e2 b2 s2 o2)
              | (go_at_call 26; refine Calls.mono (weighed_any ao x1 l c rn x3 us _ (by have := HW.out.2.1; omega) HW.out.2.2.1 _ (HA.out _ P2.out.1) RG.out) ?_; rintro e w5 ⟨rfl, a5, b5, s5⟩))
            have P3 : Hid (Below w.heap.size w W2 ∧ W2.heap[w.heap.size]? = some (.cells #[.int .i64 N, .slice co cn cc, .slice (some ⟨ib, ioff, none⟩) dn dc, .slice (some ⟨gb, goff, none⟩) gn gc, .slice ro rn rc, .bool bad] 43) ∧ W2.heap[B]? = some (.cells (inC (siL ⟨N, co, cn, cc, (some ⟨ib, ioff, none⟩), dn, dc, (some ⟨gb, goff, none⟩), gn, gc, ro, rn, rc, bad, cs, ids, gv, gs, rs⟩ us n (i + 1))) 3) ∧ w.heap.size < B) := by
              unfold Hid
              rw [HSI.out]
              exact ⟨b2, (o2 _ (Nat.ne_of_lt P2.out.2.2.2)).trans (kept b5 P2.out.2.1), e2, P2.out.2.2.2⟩
            clear P2 C3 GG RG HSI HSg a5 b5 s5 e2 b2 s2 o2 c3 cg
            go_roundg q
            case measure => omega
            case rel => exact ⟨i + 1, by go_num, by have := HIG.out; omega, P3⟩
          · have hik2 : decide ((id : Int) < (n : Int)) = false := decide_eq_false (by omega)
            have hik3 : ¬ (id : Int) < (n : Int) := by omega
            have hik4 : decide (id < n) = false := decide_eq_false hik
            rw [if_neg hik3] at HSI
            have P3 : Hid (Below w.heap.size w wr ∧ wr.heap[w.heap.size]? = some (.cells #[.int .i64 N, .slice co cn cc, .slice (some ⟨ib, ioff, none⟩) dn dc, .slice (some ⟨gb, goff, none⟩) gn gc, .slice ro rn rc, .bool bad] 43) ∧ wr.heap[B]? = some (.cells (inC (siL ⟨N, co, cn, cc, (some ⟨ib, ioff, none⟩), dn, dc, (some ⟨gb, goff, none⟩), gn, gc, ro, rn, rc, bad, cs, ids, gv, gs, rs⟩ us n (i + 1))) 3) ∧ w.heap.size < B) := by unfold Hid; rw [HSI.out]; exact P2.out
            clear P2 C3 GG RG HSI
            go_wp2_with fail
            go_roundg q
            case measure => omega
            case rel => exact ⟨i + 1, by go_num, by have := HIG.out; omega, P3⟩
        · have hd : decide ((i : Int) < (dn : Int)) = false := decide_eq_false (by omega)
          have hd' : decide (i < dn) = false := decide_eq_false (by omega)
          have ei : i = dn := by omega
          have P3 : Hid (wr.heap[B]? = some (.cells (inC (sgL ⟨N, co, cn, cc, io, dn, dc, go, gn, gc, ro, rn, rc, bad, cs, ids, gv, gs, rs⟩ us n)) 3)) := by
            unfold Hid sgL
            rw [HCB.out, if_pos rfl]
            have h9 := P2.out.2.2.1
            rw [ei] at h9
            exact h9
          clear ei hi
          go_wp2_with fail
          go_ret
          exact ⟨⟨_, n, rfl, HSR.out _ B P2.out.2.2.2 P3.out⟩, P2.out.1⟩
  · have HSR : Hid (SgR ⟨N, co, cn, cc, io, dn, dc, go, gn, gc, ro, rn, rc, bad, cs, ids, gv, gs, rs⟩ us k w.heap.size (w.alloc (.cells #[.int .i64 N, .slice co cn cc, .slice io dn dc, .slice go gn gc, .slice ro rn rc, .bool bad] 43)) none 0) := by unfold Hid SgR; rw [if_neg hk]; exact ⟨rfl, rfl⟩
    by_cases hk1 : k < 0
    · have hk2 : decide (k < 0) = true := decide_eq_true hk1
      go_enter Try.func13, Try.ntmps13
      go_wp2_with fail
      go_ret
      exact ⟨⟨none, 0, rfl, HSR.out⟩, X0⟩
    · have hk2 : decide (k < 0) = false := decide_eq_false hk1
      have hk3 : k > 256 := by omega
      have hk4 : decide (k > 256) = true := decide_eq_true hk3
      go_enter Try.func13, Try.ntmps13
      go_wp2_with fail
      go_ret
      exact ⟨⟨none, 0, rfl, HSR.out⟩, X0⟩
end Go.Proofs.Ytcpbccckjlnkaaa

namespace Go.Proofs.Ytcpbccckjlnkaaa
open Go.RowKit Go.Shelf
set_option linter.unusedVariables false
set_option linter.unusedSimpArgs false

/-- The worst of the first k claims, where all of them tell. -/
def WoK (z : ZD) (css : List (List Nat)) : Nat → Nat → Nat → Prop
  | 0, at', u => at' = 0 ∧ u = 0
  | k + 1, at', u => ∃ a9 u9 v, WoK z css k a9 u9 ∧ MgR z (css[k]?.getD []) v true ∧ ((at' = k ∧ u = v ∧ (k = 0 ∨ srung v < srung u9)) ∨ (at' = a9 ∧ u = u9 ∧ ¬ (k = 0 ∨ srung v < srung u9)))
/-- What Worst tells. -/
def WoR (z : ZD) (css : List (List Nat)) (n at' u : Nat) (b : Bool) : Prop :=
  (∃ k a9 u9 v, k < n ∧ WoK z css k a9 u9 ∧ MgR z (css[k]?.getD []) v false ∧ at' = 0 ∧ u = 0 ∧ b = false) ∨ (WoK z css n at' u ∧ b = decide (0 < n))
theorem MgR.fin {z : ZD} {us : List Nat} {u : Nat} {b : Bool} (h : MgR z us u b) : Fin u := by
  cases hc : clB z us with
  | true => exact RndO.finJ (h.1 hc)
  | false => rw [(h.2 hc).1]; decide
theorem WoK.fin {z : ZD} {css : List (List Nat)} : ∀ {k a u : Nat}, WoK z css k a u → Fin u
  | 0, a, u, h => by rw [h.2]; decide
  | k + 1, a, u, ⟨a9, u9, v, h1, h2, h3⟩ => by
    rcases h3 with ⟨_, e, _⟩ | ⟨_, e, _⟩
    · rw [e]; exact h2.fin
    · rw [e]; exact WoK.fin h1
theorem WoK.uniq {z : ZD} {css : List (List Nat)} : ∀ {k a u b v : Nat}, WoK z css k a u → WoK z css k b v → a = b ∧ u = v
  | 0, a, u, b, v, h, h' => ⟨h.1.trans h'.1.symm, h.2.trans h'.2.symm⟩
  | k + 1, a, u, b, v, ⟨a9, u9, x, h1, h2, h3⟩, ⟨b9, v9, y, k1, k2, k3⟩ => by
    obtain ⟨rfl, rfl⟩ := WoK.uniq h1 k1
    obtain ⟨rfl, _⟩ := h2.uniq k2
    rcases h3 with ⟨e1, e2, e3⟩ | ⟨e1, e2, e3⟩ <;> rcases k3 with ⟨f1, f2, f3⟩ | ⟨f1, f2, f3⟩
    · exact ⟨e1.trans f1.symm, e2.trans f2.symm⟩
    · exact absurd e3 f3
    · exact absurd f3 e3
    · exact ⟨e1.trans f1.symm, e2.trans f2.symm⟩
theorem WoK.all {z : ZD} {css : List (List Nat)} : ∀ {n a u : Nat}, WoK z css n a u → ∀ k, k < n → ∃ v, MgR z (css[k]?.getD []) v true
  | 0, _, _, _, k, hk => absurd hk (Nat.not_lt_zero _)
  | n + 1, a, u, ⟨a9, u9, x, h1, h2, h3⟩, k, hk => by
    rcases Nat.lt_or_eq_of_le (Nat.le_of_lt_succ hk) with e | e
    · exact WoK.all h1 k e
    · rw [e]; exact ⟨x, h2⟩
theorem WoR.uniq {z : ZD} {css : List (List Nat)} {n a u b v : Nat} {c d : Bool} (h : WoR z css n a u c) (k : WoR z css n b v d) : a = b ∧ u = v ∧ c = d := by
  rcases h with ⟨i, a9, u9, x, h1, h2, h3, h4, h5, h6⟩ | ⟨h1, h2⟩ <;> rcases k with ⟨j, b9, v9, y, k1, k2, k3, k4, k5, k6⟩ | ⟨k1, k2⟩
  · exact ⟨h4.trans k4.symm, h5.trans k5.symm, h6.trans k6.symm⟩
  · obtain ⟨y, hy⟩ := WoK.all k1 i h1
    exact absurd (h3.uniq hy).2 (by decide)
  · obtain ⟨y', hy⟩ := WoK.all h1 j k1
    exact absurd (k3.uniq hy).2 (by decide)
  · obtain ⟨e1, e2⟩ := h1.uniq k1
    exact ⟨e1, e2, h2.trans k2.symm⟩
theorem res_tmp3M (f : Func) (i j k : Nat) (hf : f.results = #[ResultVar.tmp i, ResultVar.tmp j, ResultVar.tmp k]) (tmps : Array Value) (W : World) (a b c : Value) (h1 : tmps[i]? = some a) (h2 : tmps[j]? = some b) (h3 : tmps[k]? = some c) : (results f tmps).run Try.prog W = .ok (.tuple #[a, b, c]) W := by
  simp [results, hf, h1, h2, h3]
theorem ltM {u v : Nat} (hu : Fin u) (hv : Fin v) : (FloatKind.f64.format.order u v == some Ordering.lt) = decide (srung u < srung v) := by
  rw [f64_fmt]
  exact ord_lt (Nat.le_of_lt hu) (Nat.le_of_lt hv)
set_option maxRecDepth 100000 in
set_option maxHeartbeats 4000000 in
theorem worst_any (z : ZD) (ao : Option Addr) (l c : Nat) (gv : Nat → Option Addr × Nat × Nat) (css : List (List Nat)) (w : World) (hz : ZR w z) (hdn : z.dn ≤ 1050000) (ha : RdGs w ao l c gv css) :
    Calls Try.prog 11 #[.agg #[.int .i64 z.N, .slice z.co z.cn z.cc, .slice z.io z.dn z.dc, .slice z.go z.gn z.gc, .slice z.ro z.rn z.rc, .bool z.bad], .slice ao l c] w fun e w' => (∃ (a u : Nat) (b : Bool), e = .returned (.tuple #[.int .i64 (a : Int), .float .f64 u, .bool b]) ∧ WoR z css l a u b) ∧ Below w.heap.size w w' := by
  have HZ : Hid (∀ W', Below w.heap.size w W' → ZR W' z) := fun W' hb => hz.later hb
  have HA : Hid (∀ W', Below w.heap.size w W' → RdGs W' ao l c gv css) := fun W' hb => ha.later hb
  have HD : Hid (z.dn ≤ 1050000) := hdn
  have hlm : l ≤ 9223372036854775807 := Nat.le_trans ha.max maxLen_le
  have X0 : Below w.heap.size w (w.alloc (.cells #[.int .i64 z.N, .slice z.co z.cn z.cc, .slice z.io z.dn z.dc, .slice z.go z.gn z.gc, .slice z.ro z.rn z.rc, .bool z.bad] 43)) := (Below.refl _ w).alloc (Nat.le_refl _) _
  have Y0 : (w.alloc (.cells #[.int .i64 z.N, .slice z.co z.cn z.cc, .slice z.io z.dn z.dc, .slice z.go z.gn z.gc, .slice z.ro z.rn z.rc, .bool z.bad] 43)).heap[w.heap.size]? = _ := heap_alloc_new w _
  clear hz ha hdn
  go_enter Try.func11, Try.ntmps11
  go_upto_region 2 with fail
  obtain ⟨X, hX⟩ : ∃ X, (w.alloc (.cells #[.int .i64 z.N, .slice z.co z.cn z.cc, .slice z.io z.dn z.dc, .slice z.go z.gn z.gc, .slice z.ro z.rn z.rc, .bool z.bad] 43)) = X := ⟨_, rfl⟩
  rw [hX] at X0 Y0 ⊢
  have P1 : Hid (Below w.heap.size w X ∧ X.heap[w.heap.size]? = some (.cells #[.int .i64 z.N, .slice z.co z.cn z.cc, .slice z.io z.dn z.dc, .slice z.go z.gn z.gc, .slice z.ro z.rn z.rc, .bool z.bad] 43)) := ⟨X0, Y0⟩
  clear hX X0 Y0
  go_wp2_with fail
  go_loopg [7, 8, 15] l (fun g v7 v8 iv wx => ∃ k a u : Nat, iv = .int .i64 k ∧ v7 = .int .i64 (a : Int) ∧ v8 = .float .f64 u ∧ k + g = l ∧ Hid (Below w.heap.size w wx ∧ wx.heap[w.heap.size]? = some (.cells #[.int .i64 z.N, .slice z.co z.cn z.cc, .slice z.io z.dn z.dc, .slice z.go z.gn z.gc, .slice z.ro z.rn z.rc, .bool z.bad] 43)) ∧ Hid (WoK z css k a u))
  case atStart => exact ⟨0, 0, 0, rfl, rfl, rfl, by omega, P1, ⟨rfl, rfl⟩⟩
  case round =>
    clear P1
    obtain ⟨k, a, u, rfl, rfl, rfl, hk, P1, HWK⟩ := hrel
    by_cases hlt : k < l
    · have hd : decide ((k : Int) < (l : Int)) = true := decide_eq_true (by omega)
      obtain ⟨g, rfl⟩ : ∃ g, gk = g + 1 := ⟨gk - 1, by omega⟩
      have HIG : Hid (k + (g + 1) = l) := hk
      have hlt' : (k : Int) < (l : Int) := by omega
      have rx := HA.out _ P1.out.1
      rcases rx.cells with h0 | ⟨gb, goff, ego, hcg⟩
      · omega
      subst ego
      have gg := hcg k hlt
      have rg := rx.each k hlt
      obtain ⟨x1, ex1⟩ : ∃ t, (gv k).1 = t := ⟨_, rfl⟩
      obtain ⟨x2, ex2⟩ : ∃ t, (gv k).2.1 = t := ⟨_, rfl⟩
      obtain ⟨x3, ex3⟩ : ∃ t, (gv k).2.2 = t := ⟨_, rfl⟩
      rw [ex1, ex2, ex3] at rg gg
      have RG : Hid (RdF wr x1 x2 x3 (css[k]?.getD [])) := rg
      clear rx hcg rg ex1 ex2 ex3 hk
      go_wp2_with (first | (refine wpList_load_row (by rfl) 43 _ (by rfl) w.heap.size _ (by rfl) P1.out.2 _ Try.underlying43 rfl 6 Try.infoZ (by rfl) ?_))
      refine Calls.mono (margin_any z x1 x2 x3 _ _ (HZ.out _ P1.out.1) HD.out RG.out) ?_
      rintro e w3 ⟨v, b, rfl, hm, b3⟩
      have HM : Hid (MgR z (css[k]?.getD []) v b) := hm
      have P2 : Hid (Below w.heap.size w w3 ∧ w3.heap[w.heap.size]? = some (.cells #[.int .i64 z.N, .slice z.co z.cn z.cc, .slice z.io z.dn z.dc, .slice z.go z.gn z.gc, .slice z.ro z.rn z.rc, .bool z.bad] 43)) := ⟨to_call P1.out.1 b3, kept b3 P1.out.2⟩
      clear hm b3 P1 RG gg
      cases b with
      | false =>
        go_wp2_with fail
        refine bodyPost_ret (v := .tuple #[.int .i64 0, .float .f64 0, .bool false]) (res_tmp3M _ 4 5 6 (by kernel_rfl) _ _ _ _ _ (by rfl) (by rfl) (by rfl)) rfl ?_
        exact ⟨⟨0, 0, false, rfl, .inl ⟨k, a, u, v, hlt, HWK.out, HM.out, rfl, rfl, rfl⟩⟩, P2.out.1⟩
      | true =>
        have hord := ltM HM.out.fin HWK.out.fin
        by_cases h0 : k = 0
        · subst h0
          have HW2 : Hid (WoK z css (0 + 1) 0 v) := ⟨a, u, v, HWK.out, HM.out, .inl ⟨rfl, rfl, .inl rfl⟩⟩
          clear hord
          go_wp2_with fail
          go_roundg g
          case measure => omega
          case rel => exact ⟨0 + 1, 0, v, by go_num, by go_num, rfl, by have := HIG.out; omega, P2, HW2⟩
        · have hk0 : ((k : Int) == 0) = false := by rw [beq_eq_false_iff_ne]; omega
          by_cases hs : srung v < srung u
          · rw [decide_eq_true hs] at hord
            have HW2 : Hid (WoK z css (k + 1) k v) := ⟨a, u, v, HWK.out, HM.out, .inl ⟨rfl, rfl, .inr hs⟩⟩
            clear hs
            go_wp2_with fail
            go_roundg g
            case measure => omega
            case rel => exact ⟨k + 1, k, v, by go_num, rfl, rfl, by have := HIG.out; omega, P2, HW2⟩
          · rw [decide_eq_false hs] at hord
            have HW2 : Hid (WoK z css (k + 1) a u) := ⟨a, u, v, HWK.out, HM.out, .inr ⟨rfl, rfl, fun h => by rcases h with h | h; exact h0 h; exact hs h⟩⟩
            clear hs
            go_wp2_with fail
            go_roundg g
            case measure => omega
            case rel => exact ⟨k + 1, a, u, by go_num, rfl, rfl, by have := HIG.out; omega, P2, HW2⟩
    · have hd : decide ((k : Int) < (l : Int)) = false := decide_eq_false (by omega)
      have hd' : decide (k < l) = false := decide_eq_false (by omega)
      have HW2 : Hid (WoK z css l a u) := by have e : k = l := by omega
                                             exact e ▸ HWK.out
      have e9 : decide ((l : Int) > 0) = decide (0 < l) := by
        by_cases h : 0 < l
        · rw [decide_eq_true h, decide_eq_true (by omega)]
        · rw [decide_eq_false h, decide_eq_false (by omega)]
      have HE : Hid _ := e9
      clear e9 hk
      go_wp2_with fail
      refine bodyPost_ret (v := .tuple #[.int .i64 (a : Int), .float .f64 u, .bool (decide (0 < l))]) (res_tmp3M _ 4 5 6 (by kernel_rfl) _ _ _ _ _ (by rfl) (by rfl) (by simp)) rfl ?_
      exact ⟨⟨a, u, _, rfl, .inr ⟨HW2.out, rfl⟩⟩, P1.out.1⟩
end Go.Proofs.Ytcpbccckjlnkaaa

namespace Go.Proofs.Ytcpbccckjlnkaaa
open Go.RowKit Go.Shelf
set_option linter.unusedVariables false
set_option linter.unusedSimpArgs false

theorem index0M_any (f : Value) (w : World) : Calls Try.prog 45 #[.slice none 0 0, f] w fun e w' => e = .returned (.int .i64 (-1)) ∧ w' = w := by
  go_enter Try.func45, Try.ntmps45
  go_wp2_with fail
  go_loopg [8] 0 (fun g iv wx => iv = .int .i64 0 ∧ g = 0 ∧ Hid (wx = w))
  case atStart => exact ⟨rfl, rfl, rfl⟩
  case round =>
    obtain ⟨rfl, hg, HW⟩ := hrel
    go_wp2_with fail
    go_ret
    exact ⟨rfl, HW.out⟩
theorem contains0M_any (f : Value) (w : World) : Calls Try.prog 29 #[.slice none 0 0, f] w fun e w' => e = .returned (.bool false) ∧ w' = w := by
  go_enter Try.func29, Try.ntmps29
  go_wp2_with (go_at_call 45; refine (index0M_any f _).mono ?_; rintro e w' ⟨rfl, rfl⟩)
  go_ret
  exact ⟨rfl, rfl⟩
set_option maxRecDepth 100000 in
set_option maxHeartbeats 2000000 in
theorem may0_any (w : World) : Calls Try.prog 14 #[.agg #[.slice none 0 0, .slice none 0 0, .int .i64 0, .slice none 0 0, .int .i64 0, .int .i64 0, .int .i64 0], .int .i64 2] w fun e w' => e = .returned (.int .i64 0) ∧ Below w.heap.size w w' := by
  have X0 : Below w.heap.size w ((w.alloc (.cells #[.slice none 0 0, .slice none 0 0, .int .i64 0, .slice none 0 0, .int .i64 0, .int .i64 0, .int .i64 0] 25)).alloc (.cells #[.int .i64 2] 3)) := ((Below.refl _ w).alloc (Nat.le_refl _) _).alloc (by simp only [alloc_size]; omega) _
  have Y0 : ((w.alloc (.cells #[.slice none 0 0, .slice none 0 0, .int .i64 0, .slice none 0 0, .int .i64 0, .int .i64 0, .int .i64 0] 25)).alloc (.cells #[.int .i64 2] 3)).heap[w.heap.size]? = some (.cells #[.slice none 0 0, .slice none 0 0, .int .i64 0, .slice none 0 0, .int .i64 0, .int .i64 0, .int .i64 0] 25) := alloc_kept (heap_alloc_new w _) _
  have Y1 : ((w.alloc (.cells #[.slice none 0 0, .slice none 0 0, .int .i64 0, .slice none 0 0, .int .i64 0, .int .i64 0, .int .i64 0] 25)).alloc (.cells #[.int .i64 2] 3)).heap[w.heap.size + 1]? = some (.cells #[.int .i64 2] 3) := heap_at _ _ (w.heap.size + 1) (by simp only [alloc_size])
  go_enter Try.func14, Try.ntmps14
  go_upto_region 1 with fail
  obtain ⟨X, hX⟩ : ∃ X, ((w.alloc (.cells #[.slice none 0 0, .slice none 0 0, .int .i64 0, .slice none 0 0, .int .i64 0, .int .i64 0, .int .i64 0] 25)).alloc (.cells #[.int .i64 2] 3)) = X := ⟨_, rfl⟩
  rw [hX] at X0 Y0 Y1 ⊢
  clear hX
  have c2 := cellAtJ Y0 2 _ rfl
  have c3 := cellAtJ Y0 3 _ rfl
  have d0 := cellAtJ Y1 0 _ rfl
  go_wp2_with (go_at_call 29; refine (contains0M_any _ _).mono ?_; rintro e w' ⟨rfl, rfl⟩)
  go_ret
  exact ⟨rfl, X0⟩
theorem Try.szFM : (Try.prog.info? 40).map (·.size) = some 1 := by kernel_rfl
theorem one_flM (x : Nat) : ∀ u ∈ (Value.float .f64 x).cells.toList, u.oneCell' = true := by
  intro u hu
  have : u = .float .f64 x := by simpa [Value.cells] using hu
  rw [this]; rfl
set_option maxRecDepth 100000 in
set_option maxHeartbeats 2000000 in
theorem above0_any (w : World) : Calls Try.prog 15 #[.int .i64 0, .int .i64 1, .int .i64 2] w fun e w' => e = .returned (.slice (some ⟨w.heap.size, 0, none⟩) 3 3) ∧ w'.heap[w.heap.size]? = some (.cells #[.float .f64 4607182418800017408, .float .f64 13830554455654793216, .float .f64 0] 40) ∧ Below w.heap.size w w' := by
  have hmk : ∀ w : World, (Instr.makeSlice 22 (.int .i64 3) (.int .i64 3)).run Try.prog w = .ok (.slice (some ⟨w.heap.size, 0, none⟩) 3 3) (w.alloc (.cells (flN 3) 40)) := makeFJ 3 (by omega)
  have Y0 : (w.alloc (.cells (flN 3) 40)).heap[w.heap.size]? = some (.cells (flN 3) 40) := heap_alloc_new w _
  have X0 : Below w.heap.size w (w.alloc (.cells (flN 3) 40)) := (Below.refl _ w).alloc (Nat.le_refl _) _
  go_enter Try.func15, Try.ntmps15
  go_upto_region 2 with fail
  obtain ⟨X, hX⟩ : ∃ X, (w.alloc (.cells (flN 3) 40)) = X := ⟨_, rfl⟩
  rw [hX] at Y0 X0 ⊢
  clear hX hmk
  go_wp2_with (first
    | (refine wpList_store_at (by rfl) 40 _ _ (by rfl) w w.heap.size w.heap.size 0 (.float .f64 4607182418800017408) _ #[.float .f64 4607182418800017408, .float .f64 0, .float .f64 0] 40 (by kernel_rfl) (by kernel_rfl) Y0 X0 (Nat.le_refl _) 1 Try.szFM rfl (of_decide_eq_true (by kernel_rfl)) (one_flM _) (by kernel_rfl) ?_; intro W2 e2 b2 s2 o2)
    | (refine wpList_store_at (by rfl) 40 _ _ (by rfl) w w.heap.size w.heap.size 1 (.float .f64 13830554455654793216) _ #[.float .f64 4607182418800017408, .float .f64 13830554455654793216, .float .f64 0] 40 (by kernel_rfl) (by kernel_rfl) e2 b2 (Nat.le_refl _) 1 Try.szFM rfl (of_decide_eq_true (by kernel_rfl)) (one_flM _) (by kernel_rfl) ?_; intro W3 e3 b3 s3 o3))
  go_wp2_with fail
  go_ret
  exact ⟨rfl, e3, b3⟩
theorem Try.infoPM : (Try.prog.info? 25).map (·.size) = some 7 := by kernel_rfl
theorem Try.infoFsM : (Try.prog.info? 22).map (fun i => (i.zero, i.size, i.bytes)) = some (some (.slice none 0 0), 1, 24) := by kernel_rfl
def Cl0 (e : Ending) (W : World) : Prop := ∃ (G B c : Nat), e = .returned (.tuple #[.slice (some ⟨G, 0, none⟩) 1 c, .int .i64 0]) ∧ W.cell? ⟨G, 0, none⟩ = some (.slice (some ⟨B, 0, none⟩) 3 3) ∧ W.heap[B]? = some (.cells #[.float .f64 4607182418800017408, .float .f64 13830554455654793216, .float .f64 0] 40)
set_option maxRecDepth 100000 in
set_option maxHeartbeats 2000000 in
/-- Claims of the question with nothing in it, of two outputs. -/
theorem claims0_any (w : World) : Calls Try.prog 5 #[.agg #[.slice none 0 0, .slice none 0 0, .int .i64 0, .slice none 0 0, .int .i64 0, .int .i64 0, .int .i64 0], .int .i64 2] w fun e w' => Cl0 e w' ∧ Below w.heap.size w w' := by
  have X0 : Below w.heap.size w (w.alloc (.cells #[.slice none 0 0, .slice none 0 0, .int .i64 0, .slice none 0 0, .int .i64 0, .int .i64 0, .int .i64 0] 25)) := (Below.refl _ w).alloc (Nat.le_refl _) _
  have Y0 : (w.alloc (.cells #[.slice none 0 0, .slice none 0 0, .int .i64 0, .slice none 0 0, .int .i64 0, .int .i64 0, .int .i64 0] 25)).heap[w.heap.size]? = some (.cells #[.slice none 0 0, .slice none 0 0, .int .i64 0, .slice none 0 0, .int .i64 0, .int .i64 0, .int .i64 0] 25) := heap_alloc_new w _
  go_enter Try.func5, Try.ntmps5
  go_upto_region 1 with fail
  obtain ⟨X, hX⟩ : ∃ X, (w.alloc (.cells #[.slice none 0 0, .slice none 0 0, .int .i64 0, .slice none 0 0, .int .i64 0, .int .i64 0, .int .i64 0] 25)) = X := ⟨_, rfl⟩
  rw [hX] at X0 Y0 ⊢
  clear hX
  go_wp2_with (first | (refine wpList_load_row (by rfl) 25 _ (by rfl) w.heap.size _ (by rfl) Y0 _ Try.underlying25 rfl 7 Try.infoPM (by rfl) ?_) | (go_at_call 14; refine (may0_any _).mono ?_; rintro e w1 ⟨rfl, b1⟩))
  have P1 : Hid (Below w.heap.size w w1 ∧ w1.heap[w.heap.size]? = some (.cells #[.slice none 0 0, .slice none 0 0, .int .i64 0, .slice none 0 0, .int .i64 0, .int .i64 0, .int .i64 0] 25)) := ⟨to_call X0 b1, kept b1 Y0⟩
  clear X0 Y0 b1
  go_loopg [7, 18] 2 (fun g v7 iv wx => ∃ k : Nat, iv = .int .i64 k ∧ k + g = 2 ∧ Hid (Below w.heap.size w wx ∧ wx.heap[w.heap.size]? = some (.cells #[.slice none 0 0, .slice none 0 0, .int .i64 0, .slice none 0 0, .int .i64 0, .int .i64 0, .int .i64 0] 25)) ∧ ((k ≤ 1 ∧ v7 = .slice none 0 0) ∨ (k = 2 ∧ ∃ G B c, v7 = .slice (some ⟨G, 0, none⟩) 1 c ∧ Hid (wx.cell? ⟨G, 0, none⟩ = some (.slice (some ⟨B, 0, none⟩) 3 3) ∧ wx.heap[B]? = some (.cells #[.float .f64 4607182418800017408, .float .f64 13830554455654793216, .float .f64 0] 40)))))
  case atStart => exact ⟨0, rfl, rfl, P1, .inl ⟨by omega, rfl⟩⟩
  case round =>
    clear P1
    obtain ⟨k, rfl, hk, P1, hv⟩ := hrel
    have c2 := cellAtJ P1.out.2 2 _ rfl
    have c3 := cellAtJ P1.out.2 3 _ rfl
    rcases hv with ⟨h1, rfl⟩ | ⟨rfl, G, B, c, rfl, HG⟩
    · obtain ⟨g, rfl⟩ : ∃ g, gk = g + 1 := ⟨gk - 1, by omega⟩
      rcases Nat.lt_or_eq_of_le h1 with h2 | h2
      · have h3 : k = 0 := by omega
        subst h3
        clear h1 h2
        go_wp2_with fail
        go_roundg g
        case measure => omega
        case rel => exact ⟨1, by go_num, by omega, P1, .inl ⟨by omega, rfl⟩⟩
      · subst h2
        go_upto_region 9 with fail
        go_wp2_with (first
          | (go_at_call 15; refine (above0_any _).mono ?_; rintro e w3 ⟨rfl, e3, b3⟩)
          | (at_builtin; refine append_gr1M Try.underlying23 Try.infoFsM rfl (by decide) w3 (by rfl) _ _ (by rfl) w3.heap.size (.slice none 0 0) [] (by rfl) (World.ownsRow_nil _ _ _ _) (.slice (some ⟨wr.heap.size, 0, none⟩) 3 3) (by rfl) rfl (by decide) (Nat.le_refl _) ?_; intro v6 w6 o6 g6))
        rcases o6.2 with ⟨_, h0⟩ | ⟨G, cap, cur, rfl, hlo, hh, hr1, hr2, hr3, hr4⟩
        · cases h0
        have q6 : Below w3.heap.size w3 w6 := g6.below (fun k hk => by simp [Value.ownBlock] at hk) (Nat.le_refl _)
        have HG : Hid (w6.cell? ⟨G, 0, none⟩ = some (.slice (some ⟨wr.heap.size, 0, none⟩) 3 3) ∧ w6.heap[wr.heap.size]? = some (.cells #[.float .f64 4607182418800017408, .float .f64 13830554455654793216, .float .f64 0] 40)) := by
          refine ⟨?_, kept q6 e3⟩
          have h9 := World.ownsRow.cellAt o6 0 (by simp)
          exact h9
        have P2 : Hid (Below w.heap.size w w6 ∧ w6.heap[w.heap.size]? = some (.cells #[.slice none 0 0, .slice none 0 0, .int .i64 0, .slice none 0 0, .int .i64 0, .int .i64 0, .int .i64 0] 25)) := ⟨to_call (to_call P1.out.1 b3) q6, kept q6 (kept b3 P1.out.2)⟩
        clear o6 g6 q6 hh hr1 hr2 hr3 hr4 hlo e3 b3 P1 c2 c3
        go_roundg g
        case measure => omega
        case rel => exact ⟨2, by go_num, by omega, P2, .inr ⟨rfl, G, wr.heap.size, cap, rfl, HG⟩⟩
    · go_wp2_with fail
      clear c2 c3
      go_loopg [7, 42] 0 (fun g v7 iv wx => iv = .int .i64 0 ∧ g = 0 ∧ v7 = .slice (some ⟨G, 0, none⟩) 1 c ∧ Hid (wx = wr))
      case atStart => exact ⟨rfl, rfl, rfl, rfl⟩
      case round =>
        obtain ⟨rfl, hg, rfl, HW⟩ := hrel
        have e9 := HW.out
        subst e9
        go_wp2_with fail
        refine bodyPost_ret (v := .tuple #[.slice (some ⟨G, 0, none⟩) 1 c, .int .i64 0]) (res_tmp2J _ 4 5 (by kernel_rfl) _ _ _ _ (by rfl) (by rfl)) rfl ?_
        exact ⟨⟨G, B, c, rfl, HG.out.1, HG.out.2⟩, P1.out.1⟩
end Go.Proofs.Ytcpbccckjlnkaaa

namespace Go.Proofs.Ytcpbccckjlnkaaa
open Go.RowKit Go.Shelf
set_option linter.unusedVariables false
set_option linter.unusedSimpArgs false

/-- The example of chapter 17, wherever its lists lie. -/
def exM (a i gb g r : Nat) : ZD := ⟨2, some ⟨a, 0, none⟩, 2, 2, some ⟨i, 0, none⟩, 1, 1, some ⟨g, 0, none⟩, 1, 1, some ⟨r, 0, none⟩, 2, 2, false, [4604930618986332160, 4598175219545276416], [0], fun _ => (some ⟨gb, 0, none⟩, 2, 2), [[4607182418800017408, 4607182418800017408]], [0, 0]⟩
theorem exM_cl1 (a i gb g r : Nat) : clB (exM a i gb g r) [4607182418800017408, 13830554455654793216, 0] = true := by kernel_rfl
theorem exM_cl2 (a i gb g r : Nat) : clB (exM a i gb g r) [4607182418800017408, 0, 0] = true := by kernel_rfl
theorem exM_le1 (a i gb g r : Nat) : leO (exM a i gb g r) [4607182418800017408, 13830554455654793216, 0] = some (fval 4602678819172646912 * ((2 ^ 1166 : Nat) : Int)) := of_decide_eq_true (by kernel_rfl)
theorem exM_le2 (a i gb g r : Nat) : leO (exM a i gb g r) [4607182418800017408, 0, 0] = some (fval 13821547256400052224 * ((2 ^ 1166 : Nat) : Int)) := of_decide_eq_true (by kernel_rfl)
theorem exM_sg (a i gb g r : Nat) : sgL (exM a i gb g r) [4607182418800017408, 0, 0] 1 = [-1] := of_decide_eq_true (by kernel_rfl)
theorem rnd_exM {r : Nat} (hr : r < 18446744073709551616) (hf : Fin r) : RndO 2 (some (fval r * ((2 ^ 1166 : Nat) : Int))) (plainM r) true := by
  intro a ha
  have h2 := (RndZ.plain 2 hr hf (.inr (.inr rfl))).rescale (2 ^ a) (Nat.two_pow_pos _)
  rw [Nat.one_mul] at h2
  rw [← ha]
  exact h2
theorem exM_m1 (a i gb g r : Nat) : MgR (exM a i gb g r) [4607182418800017408, 13830554455654793216, 0] 4602678819172646912 true := by
  refine ⟨fun _ => ?_, fun h => absurd ((exM_cl1 a i gb g r).symm.trans h) (by decide)⟩
  rw [exM_le1]
  have h := rnd_exM (r := 4602678819172646912) (by decide) (by decide)
  rwa [show plainM 4602678819172646912 = 4602678819172646912 by decide] at h
theorem exM_m2 (a i gb g r : Nat) : MgR (exM a i gb g r) [4607182418800017408, 0, 0] 13821547256400052224 true := by
  refine ⟨fun _ => ?_, fun h => absurd ((exM_cl2 a i gb g r).symm.trans h) (by decide)⟩
  rw [exM_le2]
  have h := rnd_exM (r := 13821547256400052224) (by decide) (by decide)
  rwa [show plainM 13821547256400052224 = 13821547256400052224 by decide] at h
theorem exM_wo (a i gb g r : Nat) : WoR (exM a i gb g r) [[4607182418800017408, 13830554455654793216, 0], [4607182418800017408, 0, 0]] 2 1 13821547256400052224 true :=
  .inr ⟨⟨0, 4602678819172646912, 13821547256400052224, ⟨0, 0, 4602678819172646912, ⟨rfl, rfl⟩, exM_m1 a i gb g r, .inl ⟨rfl, rfl, .inl rfl⟩⟩, exM_m2 a i gb g r, .inl ⟨rfl, rfl, .inr (by decide)⟩⟩, rfl⟩
theorem rdF3M {W : World} {B x y u : Nat} {t : TypeId} (h : W.heap[B]? = some (.cells #[.float .f64 x, .float .f64 y, .float .f64 u] t)) (hx : x < 18446744073709551616) (hy : y < 18446744073709551616) (hu : u < 18446744073709551616) : RdF W (some ⟨B, 0, none⟩) 3 3 [x, y, u] := by
  refine ⟨rfl, by decide, fun v hv => ?_, .inr ⟨B, 0, rfl, fun j hj => ?_⟩⟩
  · simp only [List.mem_cons, List.not_mem_nil, or_false] at hv
    rcases hv with rfl | rfl | rfl <;> assumption
  · match j, hj with
    | 0, _ => exact cellAtJ h 0 _ rfl
    | 1, _ => exact cellAtJ h 1 _ rfl
    | 2, _ => exact cellAtJ h 2 _ rfl
theorem rdI1M {W : World} {B : Nat} {x : Int} {t : TypeId} (h : W.heap[B]? = some (.cells #[.int .i64 x] t)) : RdIs W (some ⟨B, 0, none⟩) 1 1 [x] := by
  refine ⟨rfl, by decide, .inr ⟨B, 0, rfl, fun j hj => ?_⟩⟩
  match j, hj with
  | 0, _ => exact cellAtJ h 0 _ rfl
theorem rdG1M {W : World} {B : Nat} {p : Option Addr × Nat × Nat} {us : List Nat} {t : TypeId} (h : W.heap[B]? = some (.cells #[.slice p.1 p.2.1 p.2.2] t)) (hp : RdF W p.1 p.2.1 p.2.2 us) : RdGs W (some ⟨B, 0, none⟩) 1 1 (fun _ => p) [us] := by
  refine ⟨rfl, by decide, .inr ⟨B, 0, rfl, fun j hj => ?_⟩, fun j hj => ?_⟩
  · match j, hj with
    | 0, _ => exact cellAtJ h 0 _ rfl
  · match j, hj with
    | 0, _ => exact hp
set_option maxRecDepth 100000 in
set_option maxHeartbeats 4000000 in
theorem awake_any (w : World) : Calls Try.prog 4 #[] w fun e w' => e = .returned (.bool true) ∧ Below w.heap.size w w' := by
  have hb : Below w.heap.size w ((((((w.alloc (.cells #[.float .f64 4604930618986332160, .float .f64 4598175219545276416] 40)).alloc (.cells #[.int .i64 0] 3)).alloc (.cells #[.float .f64 4607182418800017408, .float .f64 4607182418800017408] 40)).alloc (.cells #[.slice (some ⟨w.heap.size + 1 + 1, 0, none⟩) 2 2] 22)).alloc (.cells #[.float .f64 0, .float .f64 0] 40)).alloc (.cells #[.int .i64 2, .slice (some ⟨w.heap.size, 0, none⟩) 2 2, .slice (some ⟨w.heap.size + 1, 0, none⟩) 1 1, .slice (some ⟨w.heap.size + 1 + 1 + 1, 0, none⟩) 1 1, .slice (some ⟨w.heap.size + 1 + 1 + 1 + 1, 0, none⟩) 2 2, .bool false] 43)) := (((((((Below.refl _ w).alloc (Nat.le_refl _) _).alloc (by simp only [alloc_size]; omega) _).alloc (by simp only [alloc_size]; omega) _).alloc (by simp only [alloc_size]; omega) _).alloc (by simp only [alloc_size]; omega) _).alloc (by simp only [alloc_size]; omega) _)
  have h0 : ((((((w.alloc (.cells #[.float .f64 4604930618986332160, .float .f64 4598175219545276416] 40)).alloc (.cells #[.int .i64 0] 3)).alloc (.cells #[.float .f64 4607182418800017408, .float .f64 4607182418800017408] 40)).alloc (.cells #[.slice (some ⟨w.heap.size + 1 + 1, 0, none⟩) 2 2] 22)).alloc (.cells #[.float .f64 0, .float .f64 0] 40)).alloc (.cells #[.int .i64 2, .slice (some ⟨w.heap.size, 0, none⟩) 2 2, .slice (some ⟨w.heap.size + 1, 0, none⟩) 1 1, .slice (some ⟨w.heap.size + 1 + 1 + 1, 0, none⟩) 1 1, .slice (some ⟨w.heap.size + 1 + 1 + 1 + 1, 0, none⟩) 2 2, .bool false] 43)).heap[w.heap.size]? = some (.cells #[.float .f64 4604930618986332160, .float .f64 4598175219545276416] 40) := alloc_kept (alloc_kept (alloc_kept (alloc_kept (alloc_kept (heap_alloc_new w _) _) _) _) _) _
  have h1 : ((((((w.alloc (.cells #[.float .f64 4604930618986332160, .float .f64 4598175219545276416] 40)).alloc (.cells #[.int .i64 0] 3)).alloc (.cells #[.float .f64 4607182418800017408, .float .f64 4607182418800017408] 40)).alloc (.cells #[.slice (some ⟨w.heap.size + 1 + 1, 0, none⟩) 2 2] 22)).alloc (.cells #[.float .f64 0, .float .f64 0] 40)).alloc (.cells #[.int .i64 2, .slice (some ⟨w.heap.size, 0, none⟩) 2 2, .slice (some ⟨w.heap.size + 1, 0, none⟩) 1 1, .slice (some ⟨w.heap.size + 1 + 1 + 1, 0, none⟩) 1 1, .slice (some ⟨w.heap.size + 1 + 1 + 1 + 1, 0, none⟩) 2 2, .bool false] 43)).heap[w.heap.size + 1]? = some (.cells #[.int .i64 0] 3) := alloc_kept (alloc_kept (alloc_kept (alloc_kept (heap_at _ _ (w.heap.size + 1) (by simp only [alloc_size])) _) _) _) _
  have h2 : ((((((w.alloc (.cells #[.float .f64 4604930618986332160, .float .f64 4598175219545276416] 40)).alloc (.cells #[.int .i64 0] 3)).alloc (.cells #[.float .f64 4607182418800017408, .float .f64 4607182418800017408] 40)).alloc (.cells #[.slice (some ⟨w.heap.size + 1 + 1, 0, none⟩) 2 2] 22)).alloc (.cells #[.float .f64 0, .float .f64 0] 40)).alloc (.cells #[.int .i64 2, .slice (some ⟨w.heap.size, 0, none⟩) 2 2, .slice (some ⟨w.heap.size + 1, 0, none⟩) 1 1, .slice (some ⟨w.heap.size + 1 + 1 + 1, 0, none⟩) 1 1, .slice (some ⟨w.heap.size + 1 + 1 + 1 + 1, 0, none⟩) 2 2, .bool false] 43)).heap[w.heap.size + 1 + 1]? = some (.cells #[.float .f64 4607182418800017408, .float .f64 4607182418800017408] 40) := alloc_kept (alloc_kept (alloc_kept (heap_at _ _ (w.heap.size + 1 + 1) (by simp only [alloc_size])) _) _) _
  have h3 : ((((((w.alloc (.cells #[.float .f64 4604930618986332160, .float .f64 4598175219545276416] 40)).alloc (.cells #[.int .i64 0] 3)).alloc (.cells #[.float .f64 4607182418800017408, .float .f64 4607182418800017408] 40)).alloc (.cells #[.slice (some ⟨w.heap.size + 1 + 1, 0, none⟩) 2 2] 22)).alloc (.cells #[.float .f64 0, .float .f64 0] 40)).alloc (.cells #[.int .i64 2, .slice (some ⟨w.heap.size, 0, none⟩) 2 2, .slice (some ⟨w.heap.size + 1, 0, none⟩) 1 1, .slice (some ⟨w.heap.size + 1 + 1 + 1, 0, none⟩) 1 1, .slice (some ⟨w.heap.size + 1 + 1 + 1 + 1, 0, none⟩) 2 2, .bool false] 43)).heap[w.heap.size + 1 + 1 + 1]? = some (.cells #[.slice (some ⟨w.heap.size + 1 + 1, 0, none⟩) 2 2] 22) := alloc_kept (alloc_kept (heap_at _ _ (w.heap.size + 1 + 1 + 1) (by simp only [alloc_size])) _) _
  have h4 : ((((((w.alloc (.cells #[.float .f64 4604930618986332160, .float .f64 4598175219545276416] 40)).alloc (.cells #[.int .i64 0] 3)).alloc (.cells #[.float .f64 4607182418800017408, .float .f64 4607182418800017408] 40)).alloc (.cells #[.slice (some ⟨w.heap.size + 1 + 1, 0, none⟩) 2 2] 22)).alloc (.cells #[.float .f64 0, .float .f64 0] 40)).alloc (.cells #[.int .i64 2, .slice (some ⟨w.heap.size, 0, none⟩) 2 2, .slice (some ⟨w.heap.size + 1, 0, none⟩) 1 1, .slice (some ⟨w.heap.size + 1 + 1 + 1, 0, none⟩) 1 1, .slice (some ⟨w.heap.size + 1 + 1 + 1 + 1, 0, none⟩) 2 2, .bool false] 43)).heap[w.heap.size + 1 + 1 + 1 + 1]? = some (.cells #[.float .f64 0, .float .f64 0] 40) := alloc_kept (heap_at _ _ (w.heap.size + 1 + 1 + 1 + 1) (by simp only [alloc_size])) _
  have h5 : ((((((w.alloc (.cells #[.float .f64 4604930618986332160, .float .f64 4598175219545276416] 40)).alloc (.cells #[.int .i64 0] 3)).alloc (.cells #[.float .f64 4607182418800017408, .float .f64 4607182418800017408] 40)).alloc (.cells #[.slice (some ⟨w.heap.size + 1 + 1, 0, none⟩) 2 2] 22)).alloc (.cells #[.float .f64 0, .float .f64 0] 40)).alloc (.cells #[.int .i64 2, .slice (some ⟨w.heap.size, 0, none⟩) 2 2, .slice (some ⟨w.heap.size + 1, 0, none⟩) 1 1, .slice (some ⟨w.heap.size + 1 + 1 + 1, 0, none⟩) 1 1, .slice (some ⟨w.heap.size + 1 + 1 + 1 + 1, 0, none⟩) 2 2, .bool false] 43)).heap[w.heap.size + 1 + 1 + 1 + 1 + 1]? = some (.cells #[.int .i64 2, .slice (some ⟨w.heap.size, 0, none⟩) 2 2, .slice (some ⟨w.heap.size + 1, 0, none⟩) 1 1, .slice (some ⟨w.heap.size + 1 + 1 + 1, 0, none⟩) 1 1, .slice (some ⟨w.heap.size + 1 + 1 + 1 + 1, 0, none⟩) 2 2, .bool false] 43) := heap_at _ _ (w.heap.size + 1 + 1 + 1 + 1 + 1) (by simp only [alloc_size])
  go_enter Try.func4, Try.ntmps4
  go_upto_region 2 with fail
  obtain ⟨X, hX⟩ : ∃ X, ((((((w.alloc (.cells #[.float .f64 4604930618986332160, .float .f64 4598175219545276416] 40)).alloc (.cells #[.int .i64 0] 3)).alloc (.cells #[.float .f64 4607182418800017408, .float .f64 4607182418800017408] 40)).alloc (.cells #[.slice (some ⟨w.heap.size + 1 + 1, 0, none⟩) 2 2] 22)).alloc (.cells #[.float .f64 0, .float .f64 0] 40)).alloc (.cells #[.int .i64 2, .slice (some ⟨w.heap.size, 0, none⟩) 2 2, .slice (some ⟨w.heap.size + 1, 0, none⟩) 1 1, .slice (some ⟨w.heap.size + 1 + 1 + 1, 0, none⟩) 1 1, .slice (some ⟨w.heap.size + 1 + 1 + 1 + 1, 0, none⟩) 2 2, .bool false] 43)) = X := ⟨_, rfl⟩
  rw [hX] at hb h0 h1 h2 h3 h4 h5 ⊢
  have HX : Hid (Below w.heap.size w X ∧ X.heap[w.heap.size + 1 + 1 + 1 + 1 + 1]? = some (.cells #[.int .i64 2, .slice (some ⟨w.heap.size, 0, none⟩) 2 2, .slice (some ⟨w.heap.size + 1, 0, none⟩) 1 1, .slice (some ⟨w.heap.size + 1 + 1 + 1, 0, none⟩) 1 1, .slice (some ⟨w.heap.size + 1 + 1 + 1 + 1, 0, none⟩) 2 2, .bool false] 43) ∧ ZR X (exM (w.heap.size) (w.heap.size + 1) (w.heap.size + 1 + 1) (w.heap.size + 1 + 1 + 1) (w.heap.size + 1 + 1 + 1 + 1))) := ⟨hb, h5, ⟨rdF2 h0 (by decide) (by decide), rdI1M h1, rdG1M (p := (some ⟨w.heap.size + 1 + 1, 0, none⟩, 2, 2)) h3 (rdF2 h2 (by decide) (by decide)), rdF2 h4 (by decide) (by decide)⟩⟩
  clear hX hb h0 h1 h2 h3 h4 h5
  have HM1 : Hid (∀ W D, Below X.heap.size X W → W.heap[D]? = some (.cells #[.float .f64 4607182418800017408, .float .f64 13830554455654793216, .float .f64 0] 40) → Calls Try.prog 10 #[.agg #[.int .i64 2, .slice (some ⟨w.heap.size, 0, none⟩) 2 2, .slice (some ⟨w.heap.size + 1, 0, none⟩) 1 1, .slice (some ⟨w.heap.size + 1 + 1 + 1, 0, none⟩) 1 1, .slice (some ⟨w.heap.size + 1 + 1 + 1 + 1, 0, none⟩) 2 2, .bool false], .slice (some ⟨D, 0, none⟩) 3 3] W fun e w' => e = .returned (.tuple #[.float .f64 4602678819172646912, .bool true]) ∧ Below W.heap.size W w') := by
    intro W D hb hD
    refine (margin_any (exM (w.heap.size) (w.heap.size + 1) (w.heap.size + 1 + 1) (w.heap.size + 1 + 1 + 1) (w.heap.size + 1 + 1 + 1 + 1)) _ 3 3 [4607182418800017408, 13830554455654793216, 0] W (HX.out.2.2.later hb) (show (1 : Nat) ≤ 1050000 by decide) (rdF3M hD (by decide) (by decide) (by decide))).mono ?_
    rintro e w' ⟨u, b, rfl, hm, bw⟩
    obtain ⟨rfl, rfl⟩ := hm.uniq (exM_m1 _ _ _ _ _)
    exact ⟨rfl, bw⟩
  have HM2 : Hid (∀ W D, Below X.heap.size X W → W.heap[D]? = some (.cells #[.float .f64 4607182418800017408, .float .f64 0, .float .f64 0] 40) → Calls Try.prog 10 #[.agg #[.int .i64 2, .slice (some ⟨w.heap.size, 0, none⟩) 2 2, .slice (some ⟨w.heap.size + 1, 0, none⟩) 1 1, .slice (some ⟨w.heap.size + 1 + 1 + 1, 0, none⟩) 1 1, .slice (some ⟨w.heap.size + 1 + 1 + 1 + 1, 0, none⟩) 2 2, .bool false], .slice (some ⟨D, 0, none⟩) 3 3] W fun e w' => e = .returned (.tuple #[.float .f64 13821547256400052224, .bool true]) ∧ Below W.heap.size W w') := by
    intro W D hb hD
    refine (margin_any (exM (w.heap.size) (w.heap.size + 1) (w.heap.size + 1 + 1) (w.heap.size + 1 + 1 + 1) (w.heap.size + 1 + 1 + 1 + 1)) _ 3 3 [4607182418800017408, 0, 0] W (HX.out.2.2.later hb) (show (1 : Nat) ≤ 1050000 by decide) (rdF3M hD (by decide) (by decide) (by decide))).mono ?_
    rintro e w' ⟨u, b, rfl, hm, bw⟩
    obtain ⟨rfl, rfl⟩ := hm.uniq (exM_m2 _ _ _ _ _)
    exact ⟨rfl, bw⟩
  have HW : Hid (∀ W D1 D2 D3, Below X.heap.size X W → W.heap[D1]? = some (.cells #[.float .f64 4607182418800017408, .float .f64 13830554455654793216, .float .f64 0] 40) → W.heap[D2]? = some (.cells #[.float .f64 4607182418800017408, .float .f64 0, .float .f64 0] 40) → W.heap[D3]? = some (.cells #[.slice (some ⟨D1, 0, none⟩) 3 3, .slice (some ⟨D2, 0, none⟩) 3 3] 22) → Calls Try.prog 11 #[.agg #[.int .i64 2, .slice (some ⟨w.heap.size, 0, none⟩) 2 2, .slice (some ⟨w.heap.size + 1, 0, none⟩) 1 1, .slice (some ⟨w.heap.size + 1 + 1 + 1, 0, none⟩) 1 1, .slice (some ⟨w.heap.size + 1 + 1 + 1 + 1, 0, none⟩) 2 2, .bool false], .slice (some ⟨D3, 0, none⟩) 2 2] W fun e w' => e = .returned (.tuple #[.int .i64 1, .float .f64 13821547256400052224, .bool true]) ∧ Below W.heap.size W w') := by
    intro W D1 D2 D3 hb h1 h2 h3
    refine (worst_any (exM (w.heap.size) (w.heap.size + 1) (w.heap.size + 1 + 1) (w.heap.size + 1 + 1 + 1) (w.heap.size + 1 + 1 + 1 + 1)) _ 2 2 _ [[4607182418800017408, 13830554455654793216, 0], [4607182418800017408, 0, 0]] W (HX.out.2.2.later hb) (show (1 : Nat) ≤ 1050000 by decide) (rdG2 (p := (some ⟨D1, 0, none⟩, 3, 3)) (q := (some ⟨D2, 0, none⟩, 3, 3)) h3 (rdF3M h1 (by decide) (by decide) (by decide)) (rdF3M h2 (by decide) (by decide) (by decide)))).mono ?_
    rintro e w' ⟨⟨a, u, b, rfl, hm⟩, bw⟩
    obtain ⟨rfl, rfl, rfl⟩ := hm.uniq (exM_wo _ _ _ _ _)
    exact ⟨rfl, bw⟩
  have HS : Hid (∀ W D, Below X.heap.size X W → W.heap[D]? = some (.cells #[.float .f64 4607182418800017408, .float .f64 0, .float .f64 0] 40) → Calls Try.prog 13 #[.agg #[.int .i64 2, .slice (some ⟨w.heap.size, 0, none⟩) 2 2, .slice (some ⟨w.heap.size + 1, 0, none⟩) 1 1, .slice (some ⟨w.heap.size + 1 + 1 + 1, 0, none⟩) 1 1, .slice (some ⟨w.heap.size + 1 + 1 + 1 + 1, 0, none⟩) 2 2, .bool false], .slice (some ⟨D, 0, none⟩) 3 3, .int .i64 1] W fun e w' => (∃ o, e = .returned (.slice o 1 1) ∧ Hid (RdIs w' o 1 1 [-1])) ∧ Below W.heap.size W w') := by
    intro W D hb hD
    refine (signs_any (exM (w.heap.size) (w.heap.size + 1) (w.heap.size + 1 + 1) (w.heap.size + 1 + 1 + 1) (w.heap.size + 1 + 1 + 1 + 1)) _ 3 3 [4607182418800017408, 0, 0] 1 W (HX.out.2.2.later hb) (show (1 : Nat) ≤ 1050000 by decide) (rdF3M hD (by decide) (by decide) (by decide)) (fun _ j hj => ?_)).mono ?_
    · match j, hj with
      | 0, _ => exact Int.le_refl 0
    · rintro e w' ⟨⟨o, n, rfl, hm⟩, bw⟩
      have hr := hm.rd
      unfold SgR at hm
      rw [if_pos (by decide)] at hm
      have hn : n = 1 := hm.1
      subst hn
      rw [if_pos (by decide)] at hr
      have e9 : sgL (exM (w.heap.size) (w.heap.size + 1) (w.heap.size + 1 + 1) (w.heap.size + 1 + 1 + 1) (w.heap.size + 1 + 1 + 1 + 1)) [4607182418800017408, 0, 0] (Int.toNat 1) = [-1] := exM_sg _ _ _ _ _
      rw [e9] at hr
      exact ⟨⟨o, rfl, hr⟩, bw⟩
  go_wp2_with (first | (refine wpList_load_row (by rfl) 43 _ (by rfl) (w.heap.size + 1 + 1 + 1 + 1 + 1) _ (by rfl) HX.out.2.1 _ Try.underlying43 rfl 6 Try.infoZ (by rfl) ?_))
  refine Calls.mono (HM1.out _ _ ((Below.refl _ X).alloc (Nat.le_refl _) _) (heap_alloc_new X _)) ?_
  rintro e w2 ⟨rfl, b2⟩
  have HX2 : Hid (Below X.heap.size X w2) := ((Below.refl _ X).alloc (Nat.le_refl _) _).trans (b2.mono (by simp only [alloc_size]; omega))
  clear b2
  go_wp2_with (first | (refine wpList_load_row (by rfl) 43 _ (by rfl) (w.heap.size + 1 + 1 + 1 + 1 + 1) _ (by rfl) (kept HX2.out HX.out.2.1) _ Try.underlying43 rfl 6 Try.infoZ (by rfl) ?_))
  refine Calls.mono (HM2.out _ _ (HX2.out.alloc HX2.out.size _) (heap_alloc_new w2 _)) ?_
  rintro e w3 ⟨rfl, b3⟩
  have HX3 : Hid (Below X.heap.size X w3) := (HX2.out.alloc HX2.out.size _).trans (b3.mono (by have := HX2.out.size; simp only [alloc_size]; omega))
  clear b3
  go_wp2_with (first | (refine wpList_load_row (by rfl) 43 _ (by rfl) (w.heap.size + 1 + 1 + 1 + 1 + 1) _ (by rfl) (kept HX3.out HX.out.2.1) _ Try.underlying43 rfl 6 Try.infoZ (by rfl) ?_))
  refine Calls.mono (HW.out _ w3.heap.size (w3.heap.size + 1) _ (((HX3.out.alloc HX3.out.size _).alloc (by have := HX3.out.size; simp only [alloc_size]; omega) _).alloc (by have := HX3.out.size; simp only [alloc_size]; omega) _) (alloc_kept (alloc_kept (heap_alloc_new w3 _) _) _) (alloc_kept (heap_at _ _ (w3.heap.size + 1) (by simp only [alloc_size])) _) (heap_at _ _ (w3.heap.size + 1 + 1) (by simp only [alloc_size]))) ?_
  rintro e w4 ⟨rfl, b4⟩
  have HX4 : Hid (Below X.heap.size X w4) := (((HX3.out.alloc HX3.out.size _).alloc (by have := HX3.out.size; simp only [alloc_size]; omega) _).alloc (by have := HX3.out.size; simp only [alloc_size]; omega) _).trans (b4.mono (by have := HX3.out.size; simp only [alloc_size]; omega))
  clear b4
  go_wp2_with fail
  refine Calls.mono (claims0_any _) ?_
  rintro e w5 ⟨⟨G, D, c, rfl, hG, hD⟩, b5⟩
  have HX5 : Hid (Below X.heap.size X w5) := to_call HX4.out b5
  have d0 := cellAtJ hD 0 _ rfl
  have d1 := cellAtJ hD 1 _ rfl
  have d2 := cellAtJ hD 2 _ rfl
  clear b5 hD
  have f1 : (FloatKind.f64.format.order 4602678819172646912 4602678819172646912 != some Ordering.eq) = false := by kernel_rfl
  have f2 : (FloatKind.f64.format.order 13821547256400052224 13821547256400052224 != some Ordering.eq) = false := by kernel_rfl
  have f3 : (FloatKind.f64.format.order 4607182418800017408 4607182418800017408 == some Ordering.eq) = true := by kernel_rfl
  have f4 : (FloatKind.f64.format.order 13830554455654793216 13830554455654793216 == some Ordering.eq) = true := by kernel_rfl
  have f5 : (FloatKind.f64.format.order 0 0 == some Ordering.eq) = true := by kernel_rfl
  go_upto_region 8 with fail
  go_wp2_with (first | (refine wpList_load_rowG (by kernel_rfl) 43 _ (by rfl) (w.heap.size + 1 + 1 + 1 + 1 + 1) _ (by rfl) (kept HX5.out HX.out.2.1) _ Try.underlying43 rfl 6 Try.infoZ (by rfl) ?_))
  refine Calls.mono (HS.out _ _ (HX5.out.alloc HX5.out.size _) (heap_alloc_new w5 _)) ?_
  rintro e w6 ⟨⟨o, rfl, HO⟩, b6⟩
  have HX6 : Hid (Below X.heap.size X w6) := (HX5.out.alloc HX5.out.size _).trans (b6.mono (by have := HX5.out.size; simp only [alloc_size]; omega))
  clear b6
  go_wp2_with fail
  refine Calls.mono (sameIntsM_any _ _ 1 1 1 1 [-1] [-1] _ (HO.out.later ((Below.refl _ w6).alloc (Nat.le_refl _) _)) (rdI1M (heap_alloc_new w6 _))) ?_
  rintro e w7 ⟨rfl, b7⟩
  have HX7 : Hid (Below X.heap.size X w7) := (HX6.out.alloc HX6.out.size _).trans (b7.mono (by have := HX6.out.size; simp only [alloc_size]; omega))
  clear b7
  go_wp2_with fail
  go_ret
  exact ⟨by kernel_rfl, HX.out.1.trans (HX7.out.mono HX.out.1.size)⟩
end Go.Proofs.Ytcpbccckjlnkaaa
