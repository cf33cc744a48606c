import Derived.Test.YtfepcpkfbnpbjaaGreatGJc
namespace Go.Proofs.YtfepcpkfbnpbjaaGreat
open Go.RowKit Go.Shelf
set_option linter.unusedVariables false
set_option linter.unusedSimpArgs false

theorem gt0_ord {u : Nat} (hu : Fin u) : (FloatKind.f64.format.order u 0 == some Ordering.gt) = decide (0 < srung u) := by
  have ho := order_rung (x := u) (y := 0) (Nat.le_of_lt hu) (by decide)
  have hs : srung 0 = 0 := by decide
  rw [f64_fmtJ, ho, hs]
  by_cases h : 0 < srung u
  · rw [Int.compare_eq_gt.2 h, decide_eq_true h]; rfl
  · rw [decide_eq_false h]
    by_cases h2 : srung u = 0
    · rw [Int.compare_eq_eq.2 h2]; rfl
    · rw [Int.compare_eq_lt.2 (by omega)]; rfl
/-- How many columns Lift makes. -/
def madeN (rs : List Nat) : Nat := rs.countP fun u => decide (0 < srung u)
theorem madeN_take {rs : List Nat} {k : Nat} (h : k < rs.length) : madeN (rs.take (k + 1)) = madeN (rs.take k) + (if 0 < srung (rs[k]?.getD 0) then 1 else 0) := by
  unfold madeN
  rw [List.take_add_one, List.getElem?_eq_getElem h, List.countP_append]
  simp [List.countP_cons, List.countP_nil]
def lastB (z : ZD) (next : Int) : Bool := decide (0 < z.dn) && decide (next ≤ z.ids[z.dn - 1]?.getD 0)
def mayB (z : ZD) (next : Int) : Bool := !(decide (next < 0) || lastB z next) && (decide (madeN z.rs = 0) || decide (next ≤ 1073741824 - (madeN z.rs : Int) + 1))
set_option maxRecDepth 100000 in
set_option maxHeartbeats 1500000 in
theorem mayNumber_any (z : ZD) (next : Int) (hnx : -9223372036854775808 ≤ next ∧ next < 9223372036854775808) (w : World) (hz : ZR w z) (hf : ∀ u ∈ z.rs, Fin u) (hrn : z.rn ≤ 1000000) (hdn : z.dn ≤ 1000000000) :
    Calls Tryz.prog 70 #[.agg #[.int .i64 z.N, .slice z.co z.cn z.cc, .slice z.io z.dn z.dc, .slice z.go z.gn z.gc, .slice z.ro z.rn z.rc, .bool z.bad], .int .i64 next] w fun e w' => e = .returned (.bool (mayB z next)) ∧ Below w.heap.size w w' := by
  have X0 : Below w.heap.size w (w.alloc (.cells #[.int .i64 z.N, .slice z.co z.cn z.cc, .slice z.io z.dn z.dc, .slice z.go z.gn z.gc, .slice z.ro z.rn z.rc, .bool z.bad] 26)) := (Below.refl _ w).alloc (Nat.le_refl _) _
  have HZ := hz.later X0
  have HE : Hid (mayB z next = (!(decide (next < 0) || lastB z next) && (decide (madeN z.rs = 0) || decide (next ≤ 1073741824 - (madeN z.rs : Int) + 1)))) := rfl
  obtain ⟨mb, hmb⟩ : ∃ mb, mayB z next = mb := ⟨_, rfl⟩
  rw [hmb] at HE ⊢
  have HL : Hid (lastB z next = (decide (0 < z.dn) && decide (next ≤ z.ids[z.dn - 1]?.getD 0))) := rfl
  obtain ⟨lb, hlb⟩ : ∃ lb, lastB z next = lb := ⟨_, rfl⟩
  rw [hlb] at HE HL
  have HRr : Hid _ := HZ.r
  have HRi : Hid _ := HZ.i
  have HXB : Hid _ := X0
  have HF : Hid _ := hf
  clear hz hmb hlb HZ hf X0
  obtain ⟨N, co, cn, cc, io, dn, dc, go, gn, gc, ro, rn, rc, bad, cs, ids, gv, gs, rs⟩ := z
  dsimp only at HE HL HRr HRi HXB HF hrn hdn ⊢
  by_cases q0 : next < 0
  case pos =>
    have d0 : decide (next < 0) = true := decide_eq_true q0
    have HS : Hid (mb = false) := by unfold Hid; rw [HE.out]; simp [q0]
    go_enter Tryz.func70, Tryz.ntmps70
    go_wp2_with fail
    go_ret
    exact ⟨by rw [HS.out]; rfl, HXB.out⟩
  have d0 : decide (next < 0) = false := decide_eq_false q0
  by_cases q1 : 0 < dn
  case neg =>
    have d1 : decide ((0 : Int) < (dn : Int)) = false := decide_eq_false (by omega)
    have d1' : decide (0 < dn) = false := decide_eq_false q1
    have HS : Hid (mb = (decide (madeN rs = 0) || decide (next ≤ 1073741824 - (madeN rs : Int) + 1))) := by unfold Hid; rw [HE.out, HL.out]; simp [q0, q1]
    clear HE HL
    go_enter Tryz.func70, Tryz.ntmps70
    go_wp2_with fail
    go_loopg [5, 31] rn (fun g mv iv wx => ∃ k m : Nat, iv = .int .i64 k ∧ mv = .int .i64 m ∧ k + g = rn ∧ m ≤ k ∧ Hid (wx = (w.alloc (.cells #[.int .i64 N, .slice co cn cc, .slice io dn dc, .slice go gn gc, .slice ro rn rc, .bool bad] 26))) ∧ Hid (m = madeN (rs.take k)))
    case atStart => exact ⟨0, 0, rfl, rfl, by omega, Nat.le_refl _, rfl, rfl⟩
    case round =>
      obtain ⟨k, m, rfl, rfl, hk, hmk, HW, HM⟩ := hrel
      have hww := HW.out
      by_cases hlt : k < rn
      · have hd : decide ((k : Int) < (rn : Int)) = true := decide_eq_true (by omega)
        obtain ⟨g, rfl⟩ : ∃ g, gk = g + 1 := ⟨gk - 1, by omega⟩
        rw [← hww] at HRr
        rcases HRr.out.cells with h0 | ⟨ab, aoff, rfl, hca⟩
        · omega
        have ga := hca k hlt
        have hkl : k < rs.length := by rw [HRr.out.length]; exact hlt
        have hox := gt0_ord (HF.out _ (getD_mem (us := rs) (j := k) hkl))
        have HMs : Hid (_ = _) := madeN_take (rs := rs) (k := k) hkl
        obtain ⟨x, hx⟩ : ∃ x, rs[k]?.getD 0 = x := ⟨_, rfl⟩
        rw [hx] at ga hox HMs
        have HIG : Hid (k + (g + 1) = rn) := hk
        clear hca hx hk hww hkl
        by_cases hxp : 0 < srung x
        · rw [decide_eq_true hxp] at hox
          rw [if_pos hxp] at HMs
          clear hxp
          go_wp2_with fail
          go_roundg g
          case measure => omega
          case rel => exact ⟨k + 1, m + 1, by go_num, by go_num, by have := HIG.out; omega, by omega, HW, by unfold Hid; rw [HMs.out, ← HM.out]⟩
        · rw [decide_eq_false hxp] at hox
          rw [if_neg hxp] at HMs
          clear hxp
          go_wp2_with fail
          go_roundg g
          case measure => omega
          case rel => exact ⟨k + 1, m, by go_num, rfl, by have := HIG.out; omega, by omega, HW, by unfold Hid; rw [HMs.out, ← HM.out]; rfl⟩
      · have hd : decide ((k : Int) < (rn : Int)) = false := decide_eq_false (by omega)
        have hd' : decide (k < rn) = false := decide_eq_false (by omega)
        have HM2 : Hid (m = madeN rs) := by
          have h1 := HM.out
          rw [List.take_of_length_le (by rw [HRr.out.length]; omega)] at h1
          exact h1
        have HXB2 : Hid (Below w.heap.size w wr) := by unfold Hid; rw [HW.out]; exact HXB.out
        clear hww HW
        rw [← HM2.out] at HS
        by_cases hm0 : m = 0
        · have HS2 : Hid (mb = true) := by unfold Hid; rw [HS.out]; simp [hm0]
          have dm : ((m : Int) == 0) = true := by simp [hm0]
          subst hm0
          go_wp2_with fail
          go_ret
          exact ⟨by rw [HS2.out]; rfl, HXB2.out⟩
        · have dm : ((m : Int) == 0) = false := by simpa using (show ¬ ((m : Nat) : Int) = 0 by omega)
          have HS2 : Hid (mb = decide (next ≤ 1073741824 - (m : Int) + 1)) := by unfold Hid; rw [HS.out]; simp [hm0]
          go_wp2_with fail
          go_ret
          exact ⟨by rw [HS2.out]; rfl, HXB2.out⟩
  obtain ⟨t, rfl⟩ : ∃ t, dn = t + 1 := ⟨dn - 1, by omega⟩
  have d1 : decide ((0 : Int) < ((t + 1 : Nat) : Int)) = true := decide_eq_true (by omega)
  rcases HRi.out.cells with h0 | ⟨ib, ioff, rfl, hci⟩
  · omega
  have gi := hci t (by omega)
  rw [Nat.add_sub_cancel] at HL
  obtain ⟨y, hy⟩ : ∃ y, ids[t]?.getD 0 = y := ⟨_, rfl⟩
  rw [hy] at gi HL
  clear hci hy
  by_cases q2 : next ≤ y
  case pos =>
    have d2 : decide (next ≤ y) = true := decide_eq_true q2
    have HS : Hid (mb = false) := by unfold Hid; rw [HE.out, HL.out]; simp [q2]
    go_enter Tryz.func70, Tryz.ntmps70
    go_wp2_with fail
    go_ret
    exact ⟨by rw [HS.out]; rfl, HXB.out⟩
  have d2 : decide (next ≤ y) = false := decide_eq_false q2
  have HS : Hid (mb = (decide (madeN rs = 0) || decide (next ≤ 1073741824 - (madeN rs : Int) + 1))) := by unfold Hid; rw [HE.out, HL.out]; simp [q0, q2]
  clear HE HL
  go_enter Tryz.func70, Tryz.ntmps70
  go_wp2_with fail
  go_loopg [5, 31] rn (fun g mv iv wx => ∃ k m : Nat, iv = .int .i64 k ∧ mv = .int .i64 m ∧ k + g = rn ∧ m ≤ k ∧ Hid (wx = (w.alloc (.cells #[.int .i64 N, .slice co cn cc, .slice (some ⟨ib, ioff, none⟩) (t + 1) dc, .slice go gn gc, .slice ro rn rc, .bool bad] 26))) ∧ Hid (m = madeN (rs.take k)))
  case atStart => exact ⟨0, 0, rfl, rfl, by omega, Nat.le_refl _, rfl, rfl⟩
  case round =>
    obtain ⟨k, m, rfl, rfl, hk, hmk, HW, HM⟩ := hrel
    have hww := HW.out
    by_cases hlt : k < rn
    · have hd : decide ((k : Int) < (rn : Int)) = true := decide_eq_true (by omega)
      obtain ⟨g, rfl⟩ : ∃ g, gk = g + 1 := ⟨gk - 1, by omega⟩
      rw [← hww] at HRr
      rcases HRr.out.cells with h0 | ⟨ab, aoff, rfl, hca⟩
      · omega
      have ga := hca k hlt
      have hkl : k < rs.length := by rw [HRr.out.length]; exact hlt
      have hox := gt0_ord (HF.out _ (getD_mem (us := rs) (j := k) hkl))
      have HMs : Hid (_ = _) := madeN_take (rs := rs) (k := k) hkl
      obtain ⟨x, hx⟩ : ∃ x, rs[k]?.getD 0 = x := ⟨_, rfl⟩
      rw [hx] at ga hox HMs
      have HIG : Hid (k + (g + 1) = rn) := hk
      clear hca hx hk hww hkl
      by_cases hxp : 0 < srung x
      · rw [decide_eq_true hxp] at hox
        rw [if_pos hxp] at HMs
        clear hxp
        go_wp2_with fail
        go_roundg g
        case measure => omega
        case rel => exact ⟨k + 1, m + 1, by go_num, by go_num, by have := HIG.out; omega, by omega, HW, by unfold Hid; rw [HMs.out, ← HM.out]⟩
      · rw [decide_eq_false hxp] at hox
        rw [if_neg hxp] at HMs
        clear hxp
        go_wp2_with fail
        go_roundg g
        case measure => omega
        case rel => exact ⟨k + 1, m, by go_num, rfl, by have := HIG.out; omega, by omega, HW, by unfold Hid; rw [HMs.out, ← HM.out]; rfl⟩
    · have hd : decide ((k : Int) < (rn : Int)) = false := decide_eq_false (by omega)
      have hd' : decide (k < rn) = false := decide_eq_false (by omega)
      have HM2 : Hid (m = madeN rs) := by
        have h1 := HM.out
        rw [List.take_of_length_le (by rw [HRr.out.length]; omega)] at h1
        exact h1
      have HXB2 : Hid (Below w.heap.size w wr) := by unfold Hid; rw [HW.out]; exact HXB.out
      clear hww HW
      rw [← HM2.out] at HS
      by_cases hm0 : m = 0
      · have HS2 : Hid (mb = true) := by unfold Hid; rw [HS.out]; simp [hm0]
        have dm : ((m : Int) == 0) = true := by simp [hm0]
        subst hm0
        go_wp2_with fail
        go_ret
        exact ⟨by rw [HS2.out]; rfl, HXB2.out⟩
      · have dm : ((m : Int) == 0) = false := by simpa using (show ¬ ((m : Nat) : Int) = 0 by omega)
        have HS2 : Hid (mb = decide (next ≤ 1073741824 - (m : Int) + 1)) := by unfold Hid; rw [HS.out]; simp [hm0]
        go_wp2_with fail
        go_ret
        exact ⟨by rw [HS2.out]; rfl, HXB2.out⟩
end Go.Proofs.YtfepcpkfbnpbjaaGreat


namespace Go.Proofs.YtfepcpkfbnpbjaaGreat
open Go.RowKit Go.Shelf
set_option linter.unusedVariables false
set_option linter.unusedSimpArgs false

set_option maxRecDepth 100000 in
set_option maxHeartbeats 1500000 in
theorem bounds_no (z : ZD) (w : World) (hz : ZR w z) (hb : (tkZ z).bad = true) :
    Calls Tryz.prog 7 #[.agg #[.int .i64 z.N, .slice z.co z.cn z.cc, .slice z.io z.dn z.dc, .slice z.go z.gn z.gc, .slice z.ro z.rn z.rc, .bool z.bad]] w fun e w' => e = .returned (.slice none 0 0) ∧ Below w.heap.size w w' := by
  have X0 : Below w.heap.size w (w.alloc (.cells #[.int .i64 z.N, .slice z.co z.cn z.cc, .slice z.io z.dn z.dc, .slice z.go z.gn z.gc, .slice z.ro z.rn z.rc, .bool z.bad] 26)) := (Below.refl _ w).alloc (Nat.le_refl _) _
  have HT := takenZ_any z _ (hz.later X0)
  obtain ⟨a1, hea⟩ : ∃ a1, tkZ z = a1 := ⟨_, rfl⟩
  rw [hea] at HT hb
  clear hz hea
  obtain ⟨N1, co1, cn1, cc1, io1, dn1, dc1, go1, gn1, gc1, ro1, rn1, rc1, bad1, cs1, ids1, gv1, gs1, rs1⟩ := a1
  dsimp only at hb
  subst hb
  unfold zRow at HT
  dsimp only at HT
  have HT' : Hid _ := HT
  clear HT
  go_enter Tryz.func7, Tryz.ntmps7
  go_upto_region 2 with (first
    | (go_at_call 21; refine Calls.mono HT'.out ?_; rintro e w1 ⟨rfl, hb1⟩)
    | (refine wpList_store_row (by rfl) 26 _ _ (by rfl) w w.heap.size w.heap.size _ _ (by rfl) (by rfl) (kept hb1 (heap_alloc_new w _)) (to_call X0 hb1) (Nat.le_refl _) 6 Tryz.infoZ (by rfl) (by rfl) (oneZ _ _ _ _ _ rfl rfl rfl rfl _) ?_; intro W2 e2 b2 s2 o2))
  obtain ⟨c0, c1, c2, c3, c4, c5⟩ := cells6 e2
  clear hb1 X0 HT' s2 o2
  go_wp2_with fail
  go_ret
  exact ⟨rfl, b2⟩
set_option maxRecDepth 100000 in
set_option maxHeartbeats 1500000 in
theorem support_no (z : ZD) (dO : Option Addr) (dl dcap : Nat) (ds : List Nat) (w : World) (hz : ZR w z) (hdr : RdF w dO dl dcap ds) (hb : (tkZ z).bad = true ∨ numN ds (tkZ z).N = false) :
    Calls Tryz.prog 6 #[.agg #[.int .i64 z.N, .slice z.co z.cn z.cc, .slice z.io z.dn z.dc, .slice z.go z.gn z.gc, .slice z.ro z.rn z.rc, .bool z.bad], .slice dO dl dcap] w fun e w' => e = .returned (.tuple #[.float .f64 0, .bool false]) ∧ Below w.heap.size w w' := by
  have X0 : Below w.heap.size w ((w.alloc (.cells #[.int .i64 z.N, .slice z.co z.cn z.cc, .slice z.io z.dn z.dc, .slice z.go z.gn z.gc, .slice z.ro z.rn z.rc, .bool z.bad] 26)).alloc (.cells #[.slice dO dl dcap] 22)) := ((Below.refl _ w).alloc (Nat.le_refl _) _).alloc (by simp only [alloc_size]; omega) _
  have Y0 : ((w.alloc (.cells #[.int .i64 z.N, .slice z.co z.cn z.cc, .slice z.io z.dn z.dc, .slice z.go z.gn z.gc, .slice z.ro z.rn z.rc, .bool z.bad] 26)).alloc (.cells #[.slice dO dl dcap] 22)).heap[w.heap.size]? = _ := alloc_kept (heap_alloc_new w _) _
  have Y1 : ((w.alloc (.cells #[.int .i64 z.N, .slice z.co z.cn z.cc, .slice z.io z.dn z.dc, .slice z.go z.gn z.gc, .slice z.ro z.rn z.rc, .bool z.bad] 26)).alloc (.cells #[.slice dO dl dcap] 22)).heap[w.heap.size + 1]? = _ := heap_at _ _ (w.heap.size + 1) (by simp only [alloc_size])
  have HT := takenZ_any z _ (hz.later X0)
  have HDR : Hid (∀ W', Below w.heap.size w W' → RdF W' dO dl dcap ds) := fun W' hb => hdr.later hb
  obtain ⟨a1, hea⟩ : ∃ a1, tkZ z = a1 := ⟨_, rfl⟩
  rw [hea] at HT hb
  clear hz hdr hea
  obtain ⟨N1, co1, cn1, cc1, io1, dn1, dc1, go1, gn1, gc1, ro1, rn1, rc1, bad1, cs1, ids1, gv1, gs1, rs1⟩ := a1
  dsimp only at hb
  unfold zRow at HT
  dsimp only at HT
  have HT' : Hid _ := HT
  have HBD : Hid (bad1 = true ∨ numN ds N1 = false) := hb
  clear HT hb
  refine (callsIn_wide (n := 3)).1 ?_
  refine callsIn_of_wp_marks Tryz.func6 rfl trivial ?_ rfl
  refine wpIn_wide.2 ?_
  simp only [Tryz.ntmps6, List.size_toArray, List.length_cons, List.length_nil, Nat.reduceAdd, Nat.reduceSub, Array.replicate_succ, Array.replicate_zero, List.push_toArray, List.append_toArray, List.nil_append, List.cons_append]
  go_upto_region 2 with (first
    | (go_at_call 21; refine Calls.mono HT'.out ?_; rintro e w1 ⟨rfl, hb1⟩)
    | (refine wpList_store_row (by rfl) 26 _ _ (by rfl) w w.heap.size w.heap.size _ _ (by rfl) (by rfl) (kept hb1 Y0) (to_call X0 hb1) (Nat.le_refl _) 6 Tryz.infoZ (by rfl) (by rfl) (oneZ _ _ _ _ _ rfl rfl rfl rfl _) ?_; intro W2 e2 b2 s2 o2))
  obtain ⟨c0, c1, c2, c3, c4, c5⟩ := cells6 e2
  have cd := cellAtJ ((o2 (w.heap.size + 1) (by omega)).trans (kept hb1 Y1)) 0 _ rfl
  clear hb1 X0 Y0 Y1 HT' s2 o2 e2
  cases bad1 with
  | true =>
    clear HBD
    go_wp2_with fail
    show ∃ v : Value, (results _ _).run _ _ = .ok v _ ∧ _
    exact ⟨_, res_tmp2J _ 4 5 (by kernel_rfl) _ _ _ _ (by rfl) (by rfl), rfl, b2⟩
  | false =>
    have hn : numN ds N1 = false := by rcases HBD.out with h | h <;> first | exact h | cases h
    go_wp2_with (go_at_call 22; refine Calls.mono (areNumbers_any dO dl dcap ds N1 _ (HDR.out _ b2)) ?_; rintro e w' ⟨rfl, hw⟩; rw [hw]; clear hw)
    show ∃ v : Value, (results _ _).run _ _ = .ok v _ ∧ _
    exact ⟨_, res_tmp2J _ 4 5 (by kernel_rfl) _ _ _ _ (by rfl) (by rfl), rfl, b2⟩
end Go.Proofs.YtfepcpkfbnpbjaaGreat

namespace Go.Proofs.YtfepcpkfbnpbjaaGreat
open Go.RowKit Go.Shelf
set_option linter.unusedVariables false
set_option linter.unusedSimpArgs false

theorem res_ctJ (f : Func) (i j : Nat) (ty : TypeId) (hf : f.results = #[ResultVar.cell i ty, ResultVar.tmp j]) (tmps : Array Value) (W : World) (B : Nat) (c : Array Value) (v : Value) (hp : tmps[i]? = some (.pointer (some ⟨B, 0, none⟩))) (hv : tmps[j]? = some v)
    (u : TypeDesc) (hu : Tryz.prog.underlying ty = some u) (hd : u.isRow = true) (n : Nat) (hi : (Tryz.prog.info? ty).map (·.size) = some n)
    (hc : c.size = n) (h : W.heap[B]? = some (.cells c ty)) : (results f tmps).run Tryz.prog W = .ok (.tuple #[.agg c, v]) W := by
  have hr : W.rangeAt B 0 c.toList := by
    have := World.rangeAt_of_block h 0 c.size
    simpa using this
  have hl := run_loadVar_mid (P := Tryz.prog) W B 0 ty c.toList _ hr hu hd (by rw [hi]; simp [hc])
  have hl2 : (loadVar ty ⟨B, 0, none⟩).run Tryz.prog W = .ok (.agg c) W := by simpa using hl
  simp [results, hf, hp, hv, hl2, asAddr]
end Go.Proofs.YtfepcpkfbnpbjaaGreat


namespace Go.Proofs.YtfepcpkfbnpbjaaGreat
open Go.RowKit Go.Shelf
set_option linter.unusedVariables false
set_option linter.unusedSimpArgs false

theorem wpList_load_rowG {P : Program} {ops : Array Oper} {rest : List Oper} {op : Oper} {a : Act} {w : World} {Q : Exit → Act → World → Prop} (hgd : Region.wanted op (yielded ops a.tmps) = true) (ty : TypeId) (x : Operand) (ho : op.op = .load ty x)
    (B : Nat) (c : Array Value) (hx : a.eval x = .pointer (some ⟨B, 0, none⟩)) (hB : w.heap[B]? = some (.cells c ty)) (d : TypeDesc) (hu : P.underlying ty = some d) (hd : d.isRow = true)
    (n : Nat) (hi : (P.info? ty).map (·.size) = some n) (hn : c.size = n)
    (h : wpList P ops Q rest (a.put op.dst (.agg c)) w) : wpList P ops Q (op :: rest) a w := by
  have hr : w.rangeAt B 0 c.toList := by
    have := World.rangeAt_of_block hB 0 c.size
    simpa using this
  refine wpList_step fun K hK => ?_
  rw [if_pos hgd]
  refine wp_load_mid ty x ho B 0 hx c.toList d hr hu hd (by simpa [hn] using hi) ?_
  refine hK _ _ ?_
  simpa using h
end Go.Proofs.YtfepcpkfbnpbjaaGreat


namespace Go.Proofs.YtfepcpkfbnpbjaaGreat
open Go.RowKit Go.Shelf
set_option linter.unusedVariables false
set_option linter.unusedSimpArgs false

theorem sevenJ (w : World) (o0 o1 o2 o3 o4 o5 o6 : Obj) : (((((((w.alloc o0).alloc o1).alloc o2).alloc o3).alloc o4).alloc o5).alloc o6).heap[w.heap.size + 1]? = some o1 ∧ (((((((w.alloc o0).alloc o1).alloc o2).alloc o3).alloc o4).alloc o5).alloc o6).heap[w.heap.size + 1 + 1]? = some o2 ∧ (((((((w.alloc o0).alloc o1).alloc o2).alloc o3).alloc o4).alloc o5).alloc o6).heap[w.heap.size + 1 + 1 + 1]? = some o3 ∧ (((((((w.alloc o0).alloc o1).alloc o2).alloc o3).alloc o4).alloc o5).alloc o6).heap[w.heap.size + 1 + 1 + 1 + 1]? = some o4 ∧ (((((((w.alloc o0).alloc o1).alloc o2).alloc o3).alloc o4).alloc o5).alloc o6).heap[w.heap.size + 1 + 1 + 1 + 1 + 1]? = some o5 ∧ (((((((w.alloc o0).alloc o1).alloc o2).alloc o3).alloc o4).alloc o5).alloc o6).heap[w.heap.size + 1 + 1 + 1 + 1 + 1 + 1]? = some o6 ∧ Below w.heap.size w (((((((w.alloc o0).alloc o1).alloc o2).alloc o3).alloc o4).alloc o5).alloc o6) :=
  ⟨alloc_kept (alloc_kept (alloc_kept (alloc_kept (alloc_kept (heap_at (w.alloc o0) o1 (w.heap.size + 1) (by simp only [alloc_size])) _) _) _) _) _, alloc_kept (alloc_kept (alloc_kept (alloc_kept (heap_at ((w.alloc o0).alloc o1) o2 (w.heap.size + 1 + 1) (by simp only [alloc_size])) _) _) _) _, alloc_kept (alloc_kept (alloc_kept (heap_at (((w.alloc o0).alloc o1).alloc o2) o3 (w.heap.size + 1 + 1 + 1) (by simp only [alloc_size])) _) _) _, alloc_kept (alloc_kept (heap_at ((((w.alloc o0).alloc o1).alloc o2).alloc o3) o4 (w.heap.size + 1 + 1 + 1 + 1) (by simp only [alloc_size])) _) _, alloc_kept (heap_at (((((w.alloc o0).alloc o1).alloc o2).alloc o3).alloc o4) o5 (w.heap.size + 1 + 1 + 1 + 1 + 1) (by simp only [alloc_size])) _, heap_at ((((((w.alloc o0).alloc o1).alloc o2).alloc o3).alloc o4).alloc o5) o6 (w.heap.size + 1 + 1 + 1 + 1 + 1 + 1) (by simp only [alloc_size]), ((((((((Below.refl _ w).alloc (Nat.le_refl _) _).alloc (by simp only [alloc_size]; omega) _).alloc (by simp only [alloc_size]; omega) _).alloc (by simp only [alloc_size]; omega) _).alloc (by simp only [alloc_size]; omega) _).alloc (by simp only [alloc_size]; omega) _).alloc (by simp only [alloc_size]; omega) _)⟩
theorem rdF2 {W : World} {B x y : Nat} {t : TypeId} (h : W.heap[B]? = some (.cells #[.float .f64 x, .float .f64 y] t)) (hx : x < 18446744073709551616) (hy : y < 18446744073709551616) : RdF W (some ⟨B, 0, none⟩) 2 2 [x, y] := by
  refine ⟨rfl, by decide, fun u hu => ?_, .inr ⟨B, 0, rfl, fun j hj => ?_⟩⟩
  · simp only [List.mem_cons, List.not_mem_nil, or_false] at hu
    rcases hu with rfl | rfl <;> assumption
  · match j, hj with
    | 0, _ => exact cellAtJ h 0 _ rfl
    | 1, _ => exact cellAtJ h 1 _ rfl
theorem rdI2 {W : World} {B : Nat} {x y : Int} {t : TypeId} (h : W.heap[B]? = some (.cells #[.int .i64 x, .int .i64 y] t)) : RdIs W (some ⟨B, 0, none⟩) 2 2 [x, y] := by
  refine ⟨rfl, by decide, .inr ⟨B, 0, rfl, fun j hj => ?_⟩⟩
  match j, hj with
  | 0, _ => exact cellAtJ h 0 _ rfl
  | 1, _ => exact cellAtJ h 1 _ rfl
theorem rdG2 {W : World} {B : Nat} {p q : Option Addr × Nat × Nat} {us vs : List Nat} {t : TypeId} (h : W.heap[B]? = some (.cells #[.slice p.1 p.2.1 p.2.2, .slice q.1 q.2.1 q.2.2] t)) (hp : RdF W p.1 p.2.1 p.2.2 us) (hq : RdF W q.1 q.2.1 q.2.2 vs) : RdGs W (some ⟨B, 0, none⟩) 2 2 (fun j => if j = 0 then p else q) [us, vs] := by
  refine ⟨rfl, by decide, .inr ⟨B, 0, rfl, fun j hj => ?_⟩, fun j hj => ?_⟩
  · match j, hj with
    | 0, _ => exact cellAtJ h 0 _ rfl
    | 1, _ => exact cellAtJ h 1 _ rfl
  · match j, hj with
    | 0, _ => exact hp
    | 1, _ => exact hq
set_option maxRecDepth 100000 in
set_option maxHeartbeats 1500000 in
theorem first_any (w : World) :
    Calls Tryz.prog 32 #[] w fun e w' => ∃ z : ZD, e = .returned (.agg (zRow z)) ∧ ZR w' z ∧ z.N = 2 ∧ z.bad = false ∧ z.cn = 2 ∧ z.dn = 2 ∧ z.gn = 2 ∧ z.rn = 2 ∧ z.cs = [4607182418800017408, 4611686018427387904] ∧ z.ids = [0, 3] ∧ z.gs = [[4607182418800017408, 0], [4607182418800017408, 13830554455654793216]] ∧ z.rs = [0, 4602678819172646912] ∧ Below w.heap.size w w' := by
  go_enter Tryz.func32, Tryz.ntmps32
  go_wp2_with fail
  refine bodyPost_ret (res_oneJ _ 0 26 (by kernel_rfl) _ _ w.heap.size _ (by rfl) _ Tryz.underlying26 rfl 6 Tryz.infoZ rfl (alloc_kept (alloc_kept (alloc_kept (alloc_kept (alloc_kept (alloc_kept (heap_alloc_new w _) _) _) _) _) _) _)) rfl ?_
  obtain ⟨h1, h2, h3, h4, h5, h6, hb⟩ := sevenJ w _ _ _ _ _ _ _
  refine ⟨⟨2, some ⟨w.heap.size + 1, 0, none⟩, 2, 2, some ⟨w.heap.size + 1 + 1, 0, none⟩, 2, 2, some ⟨w.heap.size + 1 + 1 + 1 + 1 + 1, 0, none⟩, 2, 2, some ⟨w.heap.size + 1 + 1 + 1 + 1 + 1 + 1, 0, none⟩, 2, 2, false, [4607182418800017408, 4611686018427387904], [0, 3], fun j => if j = 0 then (some ⟨w.heap.size + 1 + 1 + 1, 0, none⟩, 2, 2) else (some ⟨w.heap.size + 1 + 1 + 1 + 1, 0, none⟩, 2, 2), [[4607182418800017408, 0], [4607182418800017408, 13830554455654793216]], [0, 4602678819172646912]⟩, rfl, ⟨rdF2 h1 (by decide) (by decide), rdI2 h2, rdG2 (p := (some ⟨w.heap.size + 1 + 1 + 1, 0, none⟩, 2, 2)) (q := (some ⟨w.heap.size + 1 + 1 + 1 + 1, 0, none⟩, 2, 2)) h5 (rdF2 h3 (by decide) (by decide)) (rdF2 h4 (by decide) (by decide)), rdF2 h6 (by decide) (by decide)⟩, rfl, rfl, rfl, rfl, rfl, rfl, rfl, rfl, rfl, rfl, hb⟩
end Go.Proofs.YtfepcpkfbnpbjaaGreat

namespace Go.Proofs.YtfepcpkfbnpbjaaGreat
open Go.RowKit Go.Shelf
set_option linter.unusedVariables false
set_option linter.unusedSimpArgs false

set_option maxRecDepth 100000 in
theorem num_any10 (x : Int) (hx : -9223372036854775808 ≤ x ∧ x < 9223372036854775808) (w : World) : Calls Tryz.prog 34 #[.int .i64 x] w fun e w' => e = .returned (.int .i64 x) ∧ w' = w := by
  go_enter Tryz.func34, Tryz.ntmps34
  go_wp2_with fail
  go_ret
  exact ⟨rfl, rfl⟩
def plainW (u : Nat) : Nat := if u = 9223372036854775808 then 0 else u
/-- The document's empty: what a bad one's bits must be. -/
def emptyB (bad : Bool) (N : Int) (cn dn gn rn : Nat) : Bool := bad && decide (0 ≤ N) && decide (N ≤ 256) && decide (cn + dn + gn + rn = 0)
end Go.Proofs.YtfepcpkfbnpbjaaGreat

