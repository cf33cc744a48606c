import Derived.Test.YtdfdljihbgdkaaaJXc
import Derived.Test.YtdfdljihbgdkaaaGJh
namespace Go.Proofs.Ytdfdljihbgdkaaa
open Go.RowKit Go.Shelf
set_option linter.unusedVariables false
set_option linter.unusedSimpArgs false

set_option maxRecDepth 100000 in
set_option maxHeartbeats 8000000 in
theorem zonoLifts_walk (z : ZD) (next : Int) (dO : Option Addr) (dl dcap : Nat) (ds : List Nat) (w : World) (hz : ZR w z) (hw : ZW z) (hdn : z.dn ≤ 1048576) (hnx : -9223372036854775808 ≤ next ∧ next < 9223372036854775808) (hds : RdF w dO dl dcap ds) :
    Calls Try.prog 3 #[.agg (zRow z), .int .i64 next, .slice dO dl dcap] w fun e w' => e = .returned (.bool true) ∧ Below w.heap.size w w' := by
  obtain ⟨E, hE⟩ : ∃ E : Nat, E = 1074 := ⟨_, rfl⟩
  have HE : Hid (E = 1074) := hE
  have HOF : Hid (∀ W', Below w.heap.size w W' → _) := fun W' hb => ofU z W' (hz.later hb) hw
  have HZ : Hid (∀ W', Below w.heap.size w W' → ZR W' z) := fun W' hb => hz.later hb
  have HDS : Hid (∀ W', Below w.heap.size w W' → RdF W' dO dl dcap ds) := fun W' hb => hds.later hb
  have HRE : Hid (∀ W' (u : ZD), ZU W' u → SmZ u z → _) := fun W' u hu k => realsU z u E hE W' hz hw hu k
  have HGZ : Hid (z.gs.length = z.gn ∧ z.ids.length = z.dn ∧ z.dn ≤ 1048576) := ⟨hz.g.length, hz.i.length, hdn⟩
  have HNX : Hid (-9223372036854775808 ≤ next ∧ next < 9223372036854775808) := hnx
  unfold zRow at HOF HRE ⊢
  clear hz hw hds hdn hnx hE
  have X0 : Below w.heap.size w (w.alloc (.cells #[.int .i64 z.N, .slice z.co z.cn z.cc, .slice z.io z.dn z.dc, .slice z.go z.gn z.gc, .slice z.ro z.rn z.rc, .bool z.bad] 26)) := (Below.refl _ w).alloc (Nat.le_refl _) _
  have Y0 : (w.alloc (.cells #[.int .i64 z.N, .slice z.co z.cn z.cc, .slice z.io z.dn z.dc, .slice z.go z.gn z.gc, .slice z.ro z.rn z.rc, .bool z.bad] 26)).heap[w.heap.size]? = some (.cells #[.int .i64 z.N, .slice z.co z.cn z.cc, .slice z.io z.dn z.dc, .slice z.go z.gn z.gc, .slice z.ro z.rn z.rc, .bool z.bad] 26) := heap_alloc_new w _
  have HX : Hid _ := And.intro X0 Y0
  clear X0 Y0
  go_enter Try.func3, Try.ntmps3
  go_upto_region 2 with (first
    | (refine wpList_load_row (by rfl) 26 _ (by rfl) w.heap.size _ (by rfl) HX.out.2 _ Try.underlying26 rfl 6 Try.infoZ (by rfl) ?_)
    | (go_at_call 5; refine Calls.mono (HOF.out _ HX.out.1) ?_; rintro e w1 ⟨u, rfl, hu, hsm, b1⟩)
    | (go_at_call 4; refine Calls.mono (HRE.out _ _ hu hsm) ?_; rintro e w2 ⟨N', a1, l1, c1, a2, l2, c2, a3, l3, c3, a4, l4, c4, rfl, hN, b2⟩; have HN : Hid _ := hN; clear hN))
  have A2 : Below w2.heap.size w2 (w2.alloc (.cells #[.int .i64 N', .slice a1 l1 c1, .slice a2 l2 c2, .slice a3 l3 c3, .slice a4 l4 c4] 30)) := (Below.refl _ w2).alloc (Nat.le_refl _) _
  have P2 : Hid (Below w.heap.size w (w2.alloc (.cells #[.int .i64 N', .slice a1 l1 c1, .slice a2 l2 c2, .slice a3 l3 c3, .slice a4 l4 c4] 30)) ∧ (w2.alloc (.cells #[.int .i64 N', .slice a1 l1 c1, .slice a2 l2 c2, .slice a3 l3 c3, .slice a4 l4 c4] 30)).heap[w.heap.size]? = some (.cells #[.int .i64 z.N, .slice z.co z.cn z.cc, .slice z.io z.dn z.dc, .slice z.go z.gn z.gc, .slice z.ro z.rn z.rc, .bool z.bad] 26) ∧ (w2.alloc (.cells #[.int .i64 N', .slice a1 l1 c1, .slice a2 l2 c2, .slice a3 l3 c3, .slice a4 l4 c4] 30)).heap[w2.heap.size]? = some (.cells #[.int .i64 N', .slice a1 l1 c1, .slice a2 l2 c2, .slice a3 l3 c3, .slice a4 l4 c4] 30) ∧ ((!z.bad && wholeB z) = true → N' = z.N ∧ ∃ gl, RlS (w2.alloc (.cells #[.int .i64 N', .slice a1 l1 c1, .slice a2 l2 c2, .slice a3 l3 c3, .slice a4 l4 c4] 30)) w1.heap.size E z.cs z.rs z.ids z.gs (.slice a1 l1 c1) (.slice a4 l4 c4) (.slice a2 l2 c2) (.slice a3 l3 c3) gl)) := ⟨to_call (to_call (to_call HX.out.1 b1) b2) A2, kept A2 (kept b2 (kept b1 HX.out.2)), heap_alloc_new w2 _, fun g => ⟨(HN.out g).1, by obtain ⟨gl, hr⟩ := (HN.out g).2; exact ⟨gl, hr.later A2⟩⟩⟩
  obtain ⟨X, hX⟩ : ∃ X, w2.alloc (.cells #[.int .i64 N', .slice a1 l1 c1, .slice a2 l2 c2, .slice a3 l3 c3, .slice a4 l4 c4] 30) = X := ⟨_, rfl⟩
  obtain ⟨B3, hB3⟩ : ∃ B3, w2.heap.size = B3 := ⟨_, rfl⟩
  rw [hX, hB3] at P2
  rw [hX, hB3]
  clear hX hB3 A2 b1 b2 hu hsm HX HOF HRE HN
  cases hgd : (!z.bad && wholeB z) with
  | false =>
    have HLB : Hid (∀ W', Below w.heap.size w W' → _) := fun W' hb => lift_bad z next W' (HZ.out W' hb) (tk_bad hgd)
    obtain ⟨N0, hN0⟩ : ∃ N0, (tkZ z).N = N0 := ⟨_, rfl⟩
    rw [hN0] at HLB
    clear hgd hN0
    go_upto_region 3 with (first
      | (refine wpList_load_row (by rfl) 26 _ (by rfl) w.heap.size _ (by rfl) P2.out.2.1 _ Try.underlying26 rfl 6 Try.infoZ (by rfl) ?_)
      | (go_at_call 6; refine Calls.mono (HLB.out _ P2.out.1) ?_; rintro e w3 ⟨rfl, b3⟩))
    have A3 : Below w3.heap.size w3 (w3.alloc (.cells #[.int .i64 N0, .slice none 0 0, .slice none 0 0, .slice none 0 0, .slice none 0 0, .bool true] 26)) := (Below.refl _ w3).alloc (Nat.le_refl _) _
    have P4 : Hid (Below w.heap.size w (w3.alloc (.cells #[.int .i64 N0, .slice none 0 0, .slice none 0 0, .slice none 0 0, .slice none 0 0, .bool true] 26))) := to_call (to_call P2.out.1 b3) A3
    have c5 : (w3.alloc (.cells #[.int .i64 N0, .slice none 0 0, .slice none 0 0, .slice none 0 0, .slice none 0 0, .bool true] 26)).cell? ⟨w3.heap.size, 5, none⟩ = some (.bool true) := cellAtJ (heap_alloc_new w3 _) 5 _ rfl
    obtain ⟨X4, hX4⟩ : ∃ X4, w3.alloc (.cells #[.int .i64 N0, .slice none 0 0, .slice none 0 0, .slice none 0 0, .slice none 0 0, .bool true] 26) = X4 := ⟨_, rfl⟩
    obtain ⟨B9, hB9⟩ : ∃ B9, w3.heap.size = B9 := ⟨_, rfl⟩
    rw [hX4] at P4 c5 ⊢
    rw [hB9] at c5 ⊢
    have dn : (next == next) = true := by simp
    clear hX4 hB9 A3 b3
    go_wp2_with (go_at_call 7; refine Calls.mono (started_any _) ?_; rintro e w9 ⟨rfl, b9⟩)
    go_ret
    exact ⟨rfl, to_call P4.out b9⟩
  | true =>
    obtain ⟨hb0, hwh, hck⟩ := tk_good hgd
    have HF : Hid (WhF z) := WhF.of (HZ.out w (Below.refl _ _)) (by have := HGZ.out.2.2; omega) hwh
    obtain ⟨hN', gl, hR⟩ := P2.out.2.2.2 hgd
    replace hN' := hN'.trans HF.out.N
    subst hN'
    have P3 : Hid (Below w.heap.size w X ∧ X.heap[w.heap.size]? = some (.cells #[.int .i64 z.N, .slice z.co z.cn z.cc, .slice z.io z.dn z.dc, .slice z.go z.gn z.gc, .slice z.ro z.rn z.rc, .bool z.bad] 26) ∧ X.heap[B3]? = some (.cells #[.int .i64 (z.rn : Int), .slice a1 l1 c1, .slice a2 l2 c2, .slice a3 l3 c3, .slice a4 l4 c4] 30) ∧ RlS X w1.heap.size E z.cs z.rs z.ids z.gs (.slice a1 l1 c1) (.slice a4 l4 c4) (.slice a2 l2 c2) (.slice a3 l3 c3) gl) := ⟨P2.out.1, P2.out.2.1, P2.out.2.2.1, hR⟩
    have HW0 : Hid (z.bad = false ∧ wholeB z = true) := ⟨hb0, hwh⟩
    obtain ⟨ia, ic, hi1, hi2, hi3⟩ := owns_slice hR.i
    rw [HGZ.out.2.1] at hi1 hi2 hi3
    have hl2 : l2 = z.dn := by injection hi1
    have ha2 : a2 = ia := by injection hi1
    subst ha2
    have HI : Hid (l2 = z.dn ∧ (z.dn = 0 ∨ ∃ g, a2 = some ⟨g, 0, none⟩ ∧ ∀ j, j < z.dn → X.cell? ⟨g, j, none⟩ = (z.ids.map (Value.int .i64))[j]?)) := ⟨hl2, hi3⟩
    clear hgd hb0 hwh hck hR P2 hi1 hi2 hi3 hl2
    by_cases hbad : next < 0 ∨ 536870912 < next ∨ (0 < z.dn ∧ next ≤ z.ids[z.dn - 1]?.getD 0)
    case pos =>
      have HBD : Hid _ := hbad
      clear hbad
      have HLA : Hid (∀ W', Below w.heap.size w W' → _) := fun W' hb => lift_any z next W' (HZ.out W' hb) HW0.out.1 HW0.out.2 HF.out (by have := HGZ.out.2.2; omega) HNX.out
      unfold zRow at HLA
      go_upto_region 3 with (first
        | (refine wpList_load_row (by rfl) 26 _ (by rfl) w.heap.size _ (by rfl) P3.out.2.1 _ Try.underlying26 rfl 6 Try.infoZ (by rfl) ?_)
        | (go_at_call 6; refine Calls.mono (HLA.out _ P3.out.1) ?_; rintro e w3 ⟨y, n, rfl, b3⟩))
      have A3 : Below w3.heap.size w3 (w3.alloc (.cells #[.int .i64 y.N, .slice y.co y.cn y.cc, .slice y.io y.dn y.dc, .slice y.go y.gn y.gc, .slice y.ro y.rn y.rc, .bool y.bad] 26)) := (Below.refl _ w3).alloc (Nat.le_refl _) _
      have P4 : Hid (Below w.heap.size w (w3.alloc (.cells #[.int .i64 y.N, .slice y.co y.cn y.cc, .slice y.io y.dn y.dc, .slice y.go y.gn y.gc, .slice y.ro y.rn y.rc, .bool y.bad] 26)) ∧ Below X.heap.size X (w3.alloc (.cells #[.int .i64 y.N, .slice y.co y.cn y.cc, .slice y.io y.dn y.dc, .slice y.go y.gn y.gc, .slice y.ro y.rn y.rc, .bool y.bad] 26))) := ⟨to_call (to_call P3.out.1 b3) A3, to_call b3 A3⟩
      have k2 : (w3.alloc (.cells #[.int .i64 y.N, .slice y.co y.cn y.cc, .slice y.io y.dn y.dc, .slice y.go y.gn y.gc, .slice y.ro y.rn y.rc, .bool y.bad] 26)).cell? ⟨B3, 2, none⟩ = some (.slice a2 l2 c2) := cellAtJ (kept P4.out.2 P3.out.2.2.1) 2 _ rfl
      obtain ⟨X4, hX4⟩ : ∃ X4, w3.alloc (.cells #[.int .i64 y.N, .slice y.co y.cn y.cc, .slice y.io y.dn y.dc, .slice y.go y.gn y.gc, .slice y.ro y.rn y.rc, .bool y.bad] 26) = X4 := ⟨_, rfl⟩
      rw [hX4] at P4 k2 ⊢
      clear hX4 A3 b3
      go_cut [62] (fun v wx => v = .bool true ∧ wx = X4)
      case first =>
        by_cases q0 : next < 0
        · have d0 : decide (next < 0) = true := decide_eq_true q0
          clear q0
          go_wp2_with fail
          go_meet
          exact ⟨rfl, rfl⟩
        have d0 : decide (next < 0) = false := decide_eq_false q0
        by_cases q1 : 536870912 < next
        · have d1 : decide (536870912 < next) = true := decide_eq_true q1
          clear q0 q1
          go_wp2_with fail
          go_meet
          exact ⟨rfl, rfl⟩
        have d1 : decide (536870912 < next) = false := decide_eq_false q1
        obtain ⟨h3, h4⟩ : 0 < z.dn ∧ next ≤ z.ids[z.dn - 1]?.getD 0 := by rcases HBD.out with h | h | h <;> first | exact absurd h q0 | exact absurd h q1 | exact h
        obtain ⟨hl2, hi3⟩ := HI.out
        obtain ⟨t, ht⟩ : ∃ t, z.dn = t + 1 := ⟨z.dn - 1, by omega⟩
        have htl : t < 1048576 := by have := HGZ.out.2.2; omega
        rw [ht, Nat.add_sub_cancel] at h4
        rw [ht] at hl2 hi3
        subst hl2
        rcases hi3 with h0 | ⟨g, rfl, hc⟩
        · omega
        have gi := hc t (by omega)
        have hil := HGZ.out.2.1
        rw [List.getElem?_map, List.getElem?_eq_getElem (show t < z.ids.length by omega)] at gi
        rw [List.getElem?_eq_getElem (show t < z.ids.length by omega)] at h4
        simp only [Option.map_some, Option.getD_some] at gi h4
        obtain ⟨x, hx⟩ : ∃ x, z.ids[t]'(by omega) = x := ⟨_, rfl⟩
        rw [hx] at gi h4
        have gi := (P4.out.2.cell (World.block_lt_of_cell? _ _ gi)).trans gi
        have d2 : decide ((0 : Int) < ((t + 1 : Nat) : Int)) = true := decide_eq_true (by omega)
        have d3 : decide (next ≤ x) = true := decide_eq_true h4
        clear hx hc hil ht h3 h4 q0 q1
        go_wp2_with fail
        go_meet
        exact ⟨rfl, rfl⟩
      case rest =>
        obtain ⟨rfl, rfl⟩ := hcut
        clear k2
        go_wp2_with fail
        go_ret
        exact ⟨rfl, P4.out.1⟩
    case neg =>
      have hmy : mayB z next = true := by
        unfold mayB lastB
        have h1 := madeN_le z.rs
        have h2 := HF.out.rl
        have h3 := HF.out.n2
        have q0 : ¬ next < 0 := fun h => hbad (.inl h)
        have q1 : ¬ 536870912 < next := fun h => hbad (.inr (.inl h))
        have q2 : (decide (0 < z.dn) && decide (next ≤ z.ids[z.dn - 1]?.getD 0)) = false := by
          rw [Bool.and_eq_false_iff]
          by_cases h : 0 < z.dn
          · exact .inr (decide_eq_false fun h' => hbad (.inr (.inr ⟨h, h'⟩)))
          · exact .inl (decide_eq_false h)
        rw [q2, decide_eq_false q0, decide_eq_true (p := next ≤ 1073741824 - (madeN z.rs : Int) + 1) (by omega)]
        simp
      have HBD : Hid _ := hbad
      have hq : 0 ≤ next ∧ next ≤ 536870912 := ⟨by have := mt Or.inl hbad; omega, by have h := fun h => hbad (.inr (.inl h)); exact Int.not_lt.1 h⟩
      clear hbad
      have HLO : Hid (∀ W', Below w.heap.size w W' → _) := fun W' hb => lift_okY z next W' (HZ.out W' hb) HW0.out.1 HW0.out.2 HF.out (by have := HGZ.out.2.2; omega) HNX.out hmy
      have HMY : Hid (mayB z next = true) := hmy
      clear hmy
      unfold zRow at HLO
      go_upto_region 3 with (first
        | (refine wpList_load_row (by rfl) 26 _ (by rfl) w.heap.size _ (by rfl) P3.out.2.1 _ Try.underlying26 rfl 6 Try.infoZ (by rfl) ?_)
        | (go_at_call 6; refine Calls.mono (HLO.out _ P3.out.1) ?_; rintro e w3 ⟨y, rfl, yr, yw, hlf, b3⟩))
      have hcn := hlf.count HF.out.rl HGZ.out.2.1
      have hml : madeN z.rs ≤ 256 := by have h1 := madeN_le z.rs; have h2 := HF.out.rl; have h3 := HF.out.n2; omega
      obtain ⟨n, hn⟩ : ∃ n : Int, next + ((madeN z.rs : Nat) : Int) = n := ⟨_, rfl⟩
      rw [hn]
      have HCN : Hid (y.dn = z.dn + madeN z.rs ∧ n = next + ((madeN z.rs : Nat) : Int) ∧ madeN z.rs ≤ 256 ∧ 0 ≤ next ∧ next ≤ 536870912) := ⟨hcn.1, hn.symm, hml, hq⟩
      have hyw : wholeB y = true := hlf.whole HW0.out.2 HF.out HGZ.out.2.1 HGZ.out.1 HMY.out
      have HY : Hid (WhF y ∧ y.bad = false ∧ wholeB y = true ∧ LfR z next y ∧ y.gs.length = y.gn) := ⟨WhF.of yr yw.il hyw, hlf.bad, hyw, hlf, yr.g.length⟩
      have A3 : Below w3.heap.size w3 (w3.alloc (.cells #[.int .i64 y.N, .slice y.co y.cn y.cc, .slice y.io y.dn y.dc, .slice y.go y.gn y.gc, .slice y.ro y.rn y.rc, .bool y.bad] 26)) := (Below.refl _ w3).alloc (Nat.le_refl _) _
      have P4 : Hid (Below w.heap.size w (w3.alloc (.cells #[.int .i64 y.N, .slice y.co y.cn y.cc, .slice y.io y.dn y.dc, .slice y.go y.gn y.gc, .slice y.ro y.rn y.rc, .bool y.bad] 26)) ∧ Below X.heap.size X (w3.alloc (.cells #[.int .i64 y.N, .slice y.co y.cn y.cc, .slice y.io y.dn y.dc, .slice y.go y.gn y.gc, .slice y.ro y.rn y.rc, .bool y.bad] 26)) ∧ (w3.alloc (.cells #[.int .i64 y.N, .slice y.co y.cn y.cc, .slice y.io y.dn y.dc, .slice y.go y.gn y.gc, .slice y.ro y.rn y.rc, .bool y.bad] 26)).heap[w3.heap.size]? = some (.cells #[.int .i64 y.N, .slice y.co y.cn y.cc, .slice y.io y.dn y.dc, .slice y.go y.gn y.gc, .slice y.ro y.rn y.rc, .bool y.bad] 26) ∧ ZR (w3.alloc (.cells #[.int .i64 y.N, .slice y.co y.cn y.cc, .slice y.io y.dn y.dc, .slice y.go y.gn y.gc, .slice y.ro y.rn y.rc, .bool y.bad] 26)) y) := ⟨to_call (to_call P3.out.1 b3) A3, to_call b3 A3, heap_alloc_new w3 _, yr.later A3⟩
      have k2 : (w3.alloc (.cells #[.int .i64 y.N, .slice y.co y.cn y.cc, .slice y.io y.dn y.dc, .slice y.go y.gn y.gc, .slice y.ro y.rn y.rc, .bool y.bad] 26)).cell? ⟨B3, 2, none⟩ = some (.slice a2 l2 c2) := cellAtJ (kept P4.out.2.1 P3.out.2.2.1) 2 _ rfl
      obtain ⟨X4, hX4⟩ : ∃ X4, w3.alloc (.cells #[.int .i64 y.N, .slice y.co y.cn y.cc, .slice y.io y.dn y.dc, .slice y.go y.gn y.gc, .slice y.ro y.rn y.rc, .bool y.bad] 26) = X4 := ⟨_, rfl⟩
      obtain ⟨B9, hB9⟩ : ∃ B9, w3.heap.size = B9 := ⟨_, rfl⟩
      rw [hX4] at P4 k2 ⊢
      rw [hB9] at P4 ⊢
      have HYW : Hid (ZW y) := yw
      clear hX4 hB9 A3 b3 yr yw hlf hyw hcn hml hn HLO
      go_cut [62] (fun v wx => v = .bool false ∧ wx = X4)
      case first =>
        have d0 : decide (next < 0) = false := decide_eq_false (by omega)
        have d1 : decide (536870912 < next) = false := decide_eq_false (by omega)
        obtain ⟨hl2, hi3⟩ := HI.out
        by_cases h3 : z.dn = 0
        · rw [h3] at hl2
          subst hl2
          clear h3 hi3 hq
          go_wp2_with fail
          go_meet
          exact ⟨rfl, rfl⟩
        have h4 : ¬ next ≤ z.ids[z.dn - 1]?.getD 0 := fun h => HBD.out (.inr (.inr ⟨by omega, h⟩))
        obtain ⟨t, ht⟩ : ∃ t, z.dn = t + 1 := ⟨z.dn - 1, by omega⟩
        have htl : t < 1048576 := by have := HGZ.out.2.2; omega
        rw [ht, Nat.add_sub_cancel] at h4
        rw [ht] at hl2 hi3
        subst hl2
        rcases hi3 with h0 | ⟨g, rfl, hc⟩
        · omega
        have gi := hc t (by omega)
        have hil := HGZ.out.2.1
        rw [List.getElem?_map, List.getElem?_eq_getElem (show t < z.ids.length by omega)] at gi
        rw [List.getElem?_eq_getElem (show t < z.ids.length by omega)] at h4
        simp only [Option.map_some, Option.getD_some] at gi h4
        obtain ⟨x, hx⟩ : ∃ x, z.ids[t]'(by omega) = x := ⟨_, rfl⟩
        rw [hx] at gi h4
        have gi := (P4.out.2.1.cell (World.block_lt_of_cell? _ _ gi)).trans gi
        have d2 : decide ((0 : Int) < ((t + 1 : Nat) : Int)) = true := decide_eq_true (by omega)
        have d3 : decide (next ≤ x) = false := decide_eq_false h4
        clear hx hc hil ht h3 h4 hq
        go_wp2_with fail
        go_meet
        exact ⟨rfl, rfl⟩
      case rest =>
        obtain ⟨rfl, hwc⟩ := hcut
        replace hwc := hwc.symm
        subst hwc
        clear k2 hq
        have HOY : Hid (∀ W', Below X4.heap.size X4 W' → _) := fun W' hb => ofU y W' (P4.out.2.2.2.later hb) HYW.out
        have HRY : Hid (∀ W' (u : ZD), ZU W' u → SmZ u y → _) := fun W' u hu k => realsU y u E HE.out W' P4.out.2.2.2 HYW.out hu k
        have hgy : (!y.bad && wholeB y) = true := by rw [HY.out.2.1, HY.out.2.2.1]; rfl
        rw [hgy] at HRY
        unfold zRow at HOY HRY
        clear hgy
        go_upto_region 6 with (first
          | (refine wpList_load_row (by rfl) 26 _ (by rfl) B9 _ (by rfl) P4.out.2.2.1 _ Try.underlying26 rfl 6 Try.infoZ (by rfl) ?_)
          | (go_at_call 5; refine Calls.mono (HOY.out _ (Below.refl _ _)) ?_; rintro e w5 ⟨u, rfl, hu, hsm, b5⟩)
          | (go_at_call 4; refine Calls.mono (HRY.out _ _ hu hsm) ?_; rintro e w6 ⟨M', e1, m1, f1, e2, m2, f2, e3, m3, f3, e4, m4, f4, rfl, hM, b6⟩; have HM : Hid _ := hM; clear hM))
        obtain ⟨hM1, gl', hR'⟩ := HM.out trivial
        replace hM1 := (hM1.trans HY.out.2.2.2.1.N).trans HF.out.N
        subst hM1
        clear HM
        have A6 : Below w6.heap.size w6 (w6.alloc (.cells #[.int .i64 (z.rn : Int), .slice e1 m1 f1, .slice e2 m2 f2, .slice e3 m3 f3, .slice e4 m4 f4] 30)) := (Below.refl _ w6).alloc (Nat.le_refl _) _
        have b56 := to_call (to_call b5 b6) A6
        have P6 : Hid (Below X4.heap.size X4 (w6.alloc (.cells #[.int .i64 (z.rn : Int), .slice e1 m1 f1, .slice e2 m2 f2, .slice e3 m3 f3, .slice e4 m4 f4] 30)) ∧ (w6.alloc (.cells #[.int .i64 (z.rn : Int), .slice e1 m1 f1, .slice e2 m2 f2, .slice e3 m3 f3, .slice e4 m4 f4] 30)).heap[w6.heap.size]? = some (.cells #[.int .i64 (z.rn : Int), .slice e1 m1 f1, .slice e2 m2 f2, .slice e3 m3 f3, .slice e4 m4 f4] 30) ∧ RlS (w6.alloc (.cells #[.int .i64 (z.rn : Int), .slice e1 m1 f1, .slice e2 m2 f2, .slice e3 m3 f3, .slice e4 m4 f4] 30)) w5.heap.size E y.cs y.rs y.ids y.gs (.slice e1 m1 f1) (.slice e4 m4 f4) (.slice e2 m2 f2) (.slice e3 m3 f3) gl') := ⟨b56, heap_alloc_new w6 _, hR'.later A6⟩
        obtain ⟨X6, hX6⟩ : ∃ X6, w6.alloc (.cells #[.int .i64 (z.rn : Int), .slice e1 m1 f1, .slice e2 m2 f2, .slice e3 m3 f3, .slice e4 m4 f4] 30) = X6 := ⟨_, rfl⟩
        obtain ⟨B11, hB11⟩ : ∃ B11, w6.heap.size = B11 := ⟨_, rfl⟩
        rw [hX6, hB11] at P6
        rw [hX6, hB11]
        clear hX6 hB11 A6 b56 b5 b6 hu hsm hR' HOY HRY
        have Q6 : Hid (Below w.heap.size w X6 ∧ X6.heap[w.heap.size]? = some (.cells #[.int .i64 z.N, .slice z.co z.cn z.cc, .slice z.io z.dn z.dc, .slice z.go z.gn z.gc, .slice z.ro z.rn z.rc, .bool z.bad] 26) ∧ X6.heap[B3]? = some (.cells #[.int .i64 (z.rn : Int), .slice a1 l1 c1, .slice a2 l2 c2, .slice a3 l3 c3, .slice a4 l4 c4] 30) ∧ X6.heap[B9]? = some (.cells #[.int .i64 y.N, .slice y.co y.cn y.cc, .slice y.io y.dn y.dc, .slice y.go y.gn y.gc, .slice y.ro y.rn y.rc, .bool y.bad] 26) ∧ ZR X6 y ∧ RlS X6 w1.heap.size E z.cs z.rs z.ids z.gs (.slice a1 l1 c1) (.slice a4 l4 c4) (.slice a2 l2 c2) (.slice a3 l3 c3) gl) := ⟨to_call P4.out.1 P6.out.1, kept P6.out.1 (kept P4.out.2.1 P3.out.2.1), kept P6.out.1 (kept P4.out.2.1 P3.out.2.2.1), kept P6.out.1 P4.out.2.2.1, P4.out.2.2.2.later P6.out.1, (P3.out.2.2.2.later P4.out.2.1).later P6.out.1⟩
        have k1 : X6.cell? ⟨B11, 0, none⟩ = some (.int .i64 (z.rn : Int)) := cellAtJ P6.out.2.1 0 _ rfl
        have k2 : X6.cell? ⟨B3, 0, none⟩ = some (.int .i64 (z.rn : Int)) := cellAtJ Q6.out.2.2.1 0 _ rfl
        have k3 : X6.cell? ⟨B9, 2, none⟩ = some (.slice y.io y.dn y.dc) := cellAtJ Q6.out.2.2.2.1 2 _ rfl
        have k4 : X6.cell? ⟨w.heap.size, 2, none⟩ = some (.slice z.io z.dn z.dc) := cellAtJ Q6.out.2.1 2 _ rfl
        have hzd : z.dn ≤ 1048576 := HGZ.out.2.2
        have hne : ((z.rn : Int) != (z.rn : Int)) = false := by simp
        have hnb : 0 ≤ n ∧ n ≤ 536871168 ∧ 0 ≤ next ∧ next ≤ 536870912 := by have := HCN.out; omega
        have hnd : ((y.dn : Int) != (z.dn : Int) + n - next) = false := by have := HCN.out; simp only [bne_eq_false_iff_eq]; omega
        go_wp2_with fail
        clear k1 k2 k3 k4 hne hnb hnd hzd
        go_loopg [13] z.rn (fun q v13 wx => ∃ (k : Nat), v13 = .int .i64 k ∧ k + q = z.rn ∧ Hid (Below X6.heap.size X6 wx))
        case atStart => exact ⟨0, rfl, by omega, Below.refl _ _⟩
        case round =>
          obtain ⟨k, rfl, hk, HQ⟩ := hrel
          have hn2 : z.rn ≤ 256 := HF.out.n2
          have k1 : wr.cell? ⟨B11, 0, none⟩ = some (.int .i64 (z.rn : Int)) := cellAtJ (kept HQ.out P6.out.2.1) 0 _ rfl
          by_cases h1 : k < z.rn
          · have hd1 : decide ((k : Int) < (z.rn : Int)) = true := decide_eq_true (by omega)
            obtain ⟨q, rfl⟩ : ∃ q, gk = q + 1 := ⟨gk - 1, by omega⟩
            have HIG : Hid _ := hk
            clear hk
            go_upto_region 11 with fail
            have hyl : y.rs.length = z.rn := HY.out.1.rl.trans HY.out.2.2.2.1.rn
            have hycl : y.cs.length = z.rn := HY.out.1.cl.trans HY.out.2.2.2.1.rn
            obtain ⟨g4, q4, n4, o4, t4, p4, x4, v4, r4, z4⟩ := RowN.range (RowN.later P6.out.2.2.r HQ.out) (k := k) (by rw [hyl]; exact h1)
            obtain ⟨g1, q1, n1, o1, t1, p1, x1, v1, r1, z1⟩ := RowN.range (RowN.later P6.out.2.2.c HQ.out) (k := k) (by rw [hycl]; exact h1)
            obtain ⟨h1', q0, n0, o0, t0, p0, x0, v0, r0, z0⟩ := RowN.range (RowN.later Q6.out.2.2.2.2.2.c HQ.out) (k := k) (by rw [HF.out.cl]; exact h1)
            rw [hyl] at v4
            rw [hycl] at v1
            rw [HF.out.cl] at v0
            have s4 : wr.cell? ⟨B11, 4, none⟩ = some (.slice e4 m4 f4) := cellAtJ (kept HQ.out P6.out.2.1) 4 _ rfl
            have s1 : wr.cell? ⟨B11, 1, none⟩ = some (.slice e1 m1 f1) := cellAtJ (kept HQ.out P6.out.2.1) 1 _ rfl
            have s0 : wr.cell? ⟨B3, 1, none⟩ = some (.slice a1 l1 c1) := cellAtJ (kept HQ.out Q6.out.2.2.1) 1 _ rfl
            rw [v4] at s4
            rw [v1] at s1
            rw [v0] at s0
            have HSG : Hid (∀ W', Below wr.heap.size wr W' → Calls Try.prog 8 #[.agg #[.bool n4, .slice o4 t4 p4, .int .i64 x4]] W' fun e w' => e = .returned (.int .i64 0) ∧ Below W'.heap.size W' w') := fun W' hb => by
              refine Calls.mono (signF_any _ E _ W' (NumZ.later z4 hb)) ?_
              rintro e w' ⟨⟨s, he, _, _, _, h0⟩, hb'⟩
              have hs : s = 0 := h0.2 (by rw [HY.out.2.2.2.1.rs]; exact zrL_none (by rw [List.length_map]; exact HF.out.rl) (fun j => by rw [getD_plain, fval_plainM]; exact HF.out.pos j) k)
              subst hs
              exact ⟨he, hb'⟩
            have HCM : Hid (∀ W', Below wr.heap.size wr W' → Calls Try.prog 9 #[.agg #[.bool n1, .slice o1 t1 p1, .int .i64 x1], .agg #[.bool n0, .slice o0 t0 p0, .int .i64 x0]] W' fun e w' => e = .returned (.int .i64 0) ∧ Below W'.heap.size W' w') := fun W' hb => by
              have h := cmpZ_any _ _ E 1024 _ _ W' (NumZ.later z1 hb) (NumZ.later z0 hb) (by rw [HE.out]; omega) (by omega)
              rw [HY.out.2.2.2.1.cs, getD_plain, fval_plainM, sgi_self] at h
              exact h
            have SW : (fun V => V.cell? ⟨B11, 4, none⟩ = some (.slice (some ⟨g4, 0, none⟩) z.rn q4) ∧ V.cell? ⟨B11, 1, none⟩ = some (.slice (some ⟨g1, 0, none⟩) z.rn q1) ∧ V.cell? ⟨B3, 1, none⟩ = some (.slice (some ⟨h1', 0, none⟩) z.rn q0) ∧ V.rangeAt g4 (k * 3) [.bool n4, .slice o4 t4 p4, .int .i64 x4] ∧ V.rangeAt g1 (k * 3) [.bool n1, .slice o1 t1 p1, .int .i64 x1] ∧ V.rangeAt h1' (k * 3) [.bool n0, .slice o0 t0 p0, .int .i64 x0]) wr := ⟨s4, s1, s0, r4, r1, r0⟩
            have SX : (fun V => V.cell? ⟨B11, 4, none⟩ = some (.slice (some ⟨g4, 0, none⟩) z.rn q4) ∧ V.cell? ⟨B11, 1, none⟩ = some (.slice (some ⟨g1, 0, none⟩) z.rn q1) ∧ V.cell? ⟨B3, 1, none⟩ = some (.slice (some ⟨h1', 0, none⟩) z.rn q0) ∧ V.rangeAt g4 (k * 3) [.bool n4, .slice o4 t4 p4, .int .i64 x4] ∧ V.rangeAt g1 (k * 3) [.bool n1, .slice o1 t1 p1, .int .i64 x1] ∧ V.rangeAt h1' (k * 3) [.bool n0, .slice o0 t0 p0, .int .i64 x0]) wr.drew := (⟨(((Below.refl _ wr).drew).cell (World.block_lt_of_cell? _ _ SW.1)).trans SW.1, (((Below.refl _ wr).drew).cell (World.block_lt_of_cell? _ _ SW.2.1)).trans SW.2.1, (((Below.refl _ wr).drew).cell (World.block_lt_of_cell? _ _ SW.2.2.1)).trans SW.2.2.1, range_later SW.2.2.2.1 ((Below.refl _ wr).drew), range_later SW.2.2.2.2.1 ((Below.refl _ wr).drew), range_later SW.2.2.2.2.2 ((Below.refl _ wr).drew)⟩)
            have hk0 : (k : Int) < (z.rn : Int) := by omega
            clear SW s4 s1 s0 v4 v1 v0 z4 z1 z0 r4 r1 r0 hyl hycl k1 hd1
            refine wp_region_noPanic ?_
            refine wp_region_held_drew (S := (fun V => V.cell? ⟨B11, 4, none⟩ = some (.slice (some ⟨g4, 0, none⟩) z.rn q4) ∧ V.cell? ⟨B11, 1, none⟩ = some (.slice (some ⟨g1, 0, none⟩) z.rn q1) ∧ V.cell? ⟨B3, 1, none⟩ = some (.slice (some ⟨h1', 0, none⟩) z.rn q0) ∧ V.rangeAt g4 (k * 3) [.bool n4, .slice o4 t4 p4, .int .i64 x4] ∧ V.rangeAt g1 (k * 3) [.bool n1, .slice o1 t1 p1, .int .i64 x1] ∧ V.rangeAt h1' (k * 3) [.bool n0, .slice o0 t0 p0, .int .i64 x0])) (by kernel_rfl) SX (fun _ => ?_)
            refine takeH 110 (i := 0) (v := ?_) rfl rfl (by kernel_rfl) (by kernel_rfl) (by kernel_rfl) (fun _ _ _ h => h) (Or.inl ⟨by kernel_rfl, ?_⟩) SX ?_
            rotate_left
            · intro w' hSw; obtain ⟨s1, s2, s3, s4, s5, s6⟩ := hSw; go_simp; try with_reducible rfl
            try simp only [Act.put, List.setIfInBounds_toArray, List.set_cons_zero, List.set_cons_succ]
            refine takeH 111 (i := 1) (v := ?_) rfl rfl (by kernel_rfl) (by kernel_rfl) (by kernel_rfl) (fun _ _ _ h => h) (Or.inl ⟨by kernel_rfl, ?_⟩) SX ?_
            rotate_left
            · intro w' hSw; obtain ⟨s1, s2, s3, s4, s5, s6⟩ := hSw; go_simp; try with_reducible rfl
            try simp only [Act.put, List.setIfInBounds_toArray, List.set_cons_zero, List.set_cons_succ]
            refine takeH 112 (i := 2) (v := ?_) rfl rfl (by kernel_rfl) (by kernel_rfl) (by kernel_rfl) (fun _ _ _ h => h) (Or.inl ⟨by kernel_rfl, ?_⟩) SX ?_
            rotate_left
            · intro w' hSw; obtain ⟨s1, s2, s3, s4, s5, s6⟩ := hSw; go_simp; try with_reducible rfl
            try simp only [Act.put, List.setIfInBounds_toArray, List.set_cons_zero, List.set_cons_succ]
            refine takeH 113 (i := 3) (v := ?_) rfl rfl (by kernel_rfl) (by kernel_rfl) (by kernel_rfl) (fun _ _ _ h => h) (Or.inl ⟨by kernel_rfl, ?_⟩) SX ?_
            rotate_left
            · intro w' hSw; obtain ⟨s1, s2, s3, s4, s5, s6⟩ := hSw; go_simp; try with_reducible rfl
            try simp only [Act.put, List.setIfInBounds_toArray, List.set_cons_zero, List.set_cons_succ]
            refine takeH 114 (i := 4) (v := .agg #[.bool n4, .slice o4 t4 p4, .int .i64 x4]) rfl rfl (by kernel_rfl) (by kernel_rfl) (by kernel_rfl) (fun _ _ _ h => h) (yieldsIf_load_mid (by kernel_rfl) 44 _ rfl g4 (k * 3) (by kernel_rfl) #[.bool n4, .slice o4 t4 p4, .int .i64 x4].toList _ (fun _ hS => hS.2.2.2.1) Try.underlying44 rfl (by kernel_rfl)) SX ?_
            try simp only [Act.put, List.setIfInBounds_toArray, List.set_cons_zero, List.set_cons_succ]
            refine wpAnyH_ready (rs := [5]) (by kernel_rfl) (by simp) ?_
            refine consH _ rfl (hopCd 115 rfl (by kernel_rfl) rfl (by kernel_rfl) (Calls.mono (HSG.out _ ((Below.refl _ wr).drew)) ?_)) AllReadyH.nil
            rintro e V1 ⟨rfl, b1⟩
            have SX : (fun V => V.cell? ⟨B11, 4, none⟩ = some (.slice (some ⟨g4, 0, none⟩) z.rn q4) ∧ V.cell? ⟨B11, 1, none⟩ = some (.slice (some ⟨g1, 0, none⟩) z.rn q1) ∧ V.cell? ⟨B3, 1, none⟩ = some (.slice (some ⟨h1', 0, none⟩) z.rn q0) ∧ V.rangeAt g4 (k * 3) [.bool n4, .slice o4 t4 p4, .int .i64 x4] ∧ V.rangeAt g1 (k * 3) [.bool n1, .slice o1 t1 p1, .int .i64 x1] ∧ V.rangeAt h1' (k * 3) [.bool n0, .slice o0 t0 p0, .int .i64 x0]) V1 := (⟨(b1.cell (World.block_lt_of_cell? _ _ SX.1)).trans SX.1, (b1.cell (World.block_lt_of_cell? _ _ SX.2.1)).trans SX.2.1, (b1.cell (World.block_lt_of_cell? _ _ SX.2.2.1)).trans SX.2.2.1, range_later SX.2.2.2.1 b1, range_later SX.2.2.2.2.1 b1, range_later SX.2.2.2.2.2 b1⟩)
            have QV : Below wr.heap.size wr V1 := to_call ((Below.refl _ wr).drew) b1
            clear b1
            refine ⟨_, rfl, SX, ?_⟩
            try simp only [Act.put, List.setIfInBounds_toArray, List.set_cons_zero, List.set_cons_succ]
            refine takeH 116 (i := 6) (v := ?_) rfl rfl (by kernel_rfl) (by kernel_rfl) (by kernel_rfl) (fun _ _ _ h => h) (Or.inl ⟨by kernel_rfl, ?_⟩) SX ?_
            rotate_left
            · intro w' hSw; obtain ⟨s1, s2, s3, s4, s5, s6⟩ := hSw; go_simp; try with_reducible rfl
            try simp only [Act.put, List.setIfInBounds_toArray, List.set_cons_zero, List.set_cons_succ]
            refine takeH 117 (i := 7) (v := ?_) rfl rfl (by kernel_rfl) (by kernel_rfl) (by kernel_rfl) (fun _ _ _ h => h) (Or.inl ⟨by kernel_rfl, ?_⟩) SX ?_
            rotate_left
            · intro w' hSw; obtain ⟨s1, s2, s3, s4, s5, s6⟩ := hSw; go_simp; try with_reducible rfl
            try simp only [Act.put, List.setIfInBounds_toArray, List.set_cons_zero, List.set_cons_succ]
            refine takeH 118 (i := 8) (v := ?_) rfl rfl (by kernel_rfl) (by kernel_rfl) (by kernel_rfl) (fun _ _ _ h => h) (Or.inl ⟨by kernel_rfl, ?_⟩) SX ?_
            rotate_left
            · intro w' hSw; obtain ⟨s1, s2, s3, s4, s5, s6⟩ := hSw; go_simp; try with_reducible rfl
            try simp only [Act.put, List.setIfInBounds_toArray, List.set_cons_zero, List.set_cons_succ]
            refine takeH 119 (i := 9) (v := ?_) rfl rfl (by kernel_rfl) (by kernel_rfl) (by kernel_rfl) (fun _ _ _ h => h) (Or.inl ⟨by kernel_rfl, ?_⟩) SX ?_
            rotate_left
            · intro w' hSw; obtain ⟨s1, s2, s3, s4, s5, s6⟩ := hSw; go_simp; try with_reducible rfl
            try simp only [Act.put, List.setIfInBounds_toArray, List.set_cons_zero, List.set_cons_succ]
            refine takeH 120 (i := 10) (v := ?_) rfl rfl (by kernel_rfl) (by kernel_rfl) (by kernel_rfl) (fun _ _ _ h => h) (Or.inl ⟨by kernel_rfl, ?_⟩) SX ?_
            rotate_left
            · intro w' hSw; obtain ⟨s1, s2, s3, s4, s5, s6⟩ := hSw; go_simp; try with_reducible rfl
            try simp only [Act.put, List.setIfInBounds_toArray, List.set_cons_zero, List.set_cons_succ]
            refine takeH 121 (i := 11) (v := ?_) rfl rfl (by kernel_rfl) (by kernel_rfl) (by kernel_rfl) (fun _ _ _ h => h) (Or.inl ⟨by kernel_rfl, ?_⟩) SX ?_
            rotate_left
            · intro w' hSw; obtain ⟨s1, s2, s3, s4, s5, s6⟩ := hSw; go_simp; try with_reducible rfl
            try simp only [Act.put, List.setIfInBounds_toArray, List.set_cons_zero, List.set_cons_succ]
            refine takeH 122 (i := 12) (v := .agg #[.bool n1, .slice o1 t1 p1, .int .i64 x1]) rfl rfl (by kernel_rfl) (by kernel_rfl) (by kernel_rfl) (fun _ _ _ h => h) (yieldsIf_load_mid (by kernel_rfl) 44 _ rfl g1 (k * 3) (by kernel_rfl) #[.bool n1, .slice o1 t1 p1, .int .i64 x1].toList _ (fun _ hS => hS.2.2.2.2.1) Try.underlying44 rfl (by kernel_rfl)) SX ?_
            try simp only [Act.put, List.setIfInBounds_toArray, List.set_cons_zero, List.set_cons_succ]
            refine takeH 123 (i := 13) (v := ?_) rfl rfl (by kernel_rfl) (by kernel_rfl) (by kernel_rfl) (fun _ _ _ h => h) (Or.inl ⟨by kernel_rfl, ?_⟩) SX ?_
            rotate_left
            · intro w' hSw; obtain ⟨s1, s2, s3, s4, s5, s6⟩ := hSw; go_simp; try with_reducible rfl
            try simp only [Act.put, List.setIfInBounds_toArray, List.set_cons_zero, List.set_cons_succ]
            refine takeH 124 (i := 14) (v := ?_) rfl rfl (by kernel_rfl) (by kernel_rfl) (by kernel_rfl) (fun _ _ _ h => h) (Or.inl ⟨by kernel_rfl, ?_⟩) SX ?_
            rotate_left
            · intro w' hSw; obtain ⟨s1, s2, s3, s4, s5, s6⟩ := hSw; go_simp; try with_reducible rfl
            try simp only [Act.put, List.setIfInBounds_toArray, List.set_cons_zero, List.set_cons_succ]
            refine takeH 125 (i := 15) (v := ?_) rfl rfl (by kernel_rfl) (by kernel_rfl) (by kernel_rfl) (fun _ _ _ h => h) (Or.inl ⟨by kernel_rfl, ?_⟩) SX ?_
            rotate_left
            · intro w' hSw; obtain ⟨s1, s2, s3, s4, s5, s6⟩ := hSw; go_simp; try with_reducible rfl
            try simp only [Act.put, List.setIfInBounds_toArray, List.set_cons_zero, List.set_cons_succ]
            refine takeH 126 (i := 16) (v := ?_) rfl rfl (by kernel_rfl) (by kernel_rfl) (by kernel_rfl) (fun _ _ _ h => h) (Or.inl ⟨by kernel_rfl, ?_⟩) SX ?_
            rotate_left
            · intro w' hSw; obtain ⟨s1, s2, s3, s4, s5, s6⟩ := hSw; go_simp; try with_reducible rfl
            try simp only [Act.put, List.setIfInBounds_toArray, List.set_cons_zero, List.set_cons_succ]
            refine takeH 127 (i := 17) (v := .agg #[.bool n0, .slice o0 t0 p0, .int .i64 x0]) rfl rfl (by kernel_rfl) (by kernel_rfl) (by kernel_rfl) (fun _ _ _ h => h) (yieldsIf_load_mid (by kernel_rfl) 44 _ rfl h1' (k * 3) (by kernel_rfl) #[.bool n0, .slice o0 t0 p0, .int .i64 x0].toList _ (fun _ hS => hS.2.2.2.2.2) Try.underlying44 rfl (by kernel_rfl)) SX ?_
            try simp only [Act.put, List.setIfInBounds_toArray, List.set_cons_zero, List.set_cons_succ]
            refine wpAnyH_ready (rs := [18]) (by kernel_rfl) (by simp) ?_
            refine consH _ rfl (hopCd 128 rfl (by kernel_rfl) rfl (by kernel_rfl) (Calls.mono (HCM.out _ QV) ?_)) AllReadyH.nil
            rintro e V2 ⟨rfl, b2⟩
            have SX : (fun V => V.cell? ⟨B11, 4, none⟩ = some (.slice (some ⟨g4, 0, none⟩) z.rn q4) ∧ V.cell? ⟨B11, 1, none⟩ = some (.slice (some ⟨g1, 0, none⟩) z.rn q1) ∧ V.cell? ⟨B3, 1, none⟩ = some (.slice (some ⟨h1', 0, none⟩) z.rn q0) ∧ V.rangeAt g4 (k * 3) [.bool n4, .slice o4 t4 p4, .int .i64 x4] ∧ V.rangeAt g1 (k * 3) [.bool n1, .slice o1 t1 p1, .int .i64 x1] ∧ V.rangeAt h1' (k * 3) [.bool n0, .slice o0 t0 p0, .int .i64 x0]) V2 := (⟨(b2.cell (World.block_lt_of_cell? _ _ SX.1)).trans SX.1, (b2.cell (World.block_lt_of_cell? _ _ SX.2.1)).trans SX.2.1, (b2.cell (World.block_lt_of_cell? _ _ SX.2.2.1)).trans SX.2.2.1, range_later SX.2.2.2.1 b2, range_later SX.2.2.2.2.1 b2, range_later SX.2.2.2.2.2 b2⟩)
            have QV2 : Below wr.heap.size wr V2 := to_call QV b2
            clear b2 QV
            refine ⟨_, rfl, SX, ?_⟩
            try simp only [Act.put, List.setIfInBounds_toArray, List.set_cons_zero, List.set_cons_succ]
            refine takeH 129 (i := 19) (v := ?_) rfl rfl (by kernel_rfl) (by kernel_rfl) (by kernel_rfl) (fun _ _ _ h => h) (Or.inl ⟨by kernel_rfl, ?_⟩) SX ?_
            rotate_left
            · intro w' hSw; obtain ⟨s1, s2, s3, s4, s5, s6⟩ := hSw; go_simp; try with_reducible rfl
            try simp only [Act.put, List.setIfInBounds_toArray, List.set_cons_zero, List.set_cons_succ]
            refine takeH 130 (i := 20) (v := ?_) rfl rfl (by kernel_rfl) (by kernel_rfl) (by kernel_rfl) (fun _ _ _ h => h) (Or.inl ⟨by kernel_rfl, ?_⟩) SX ?_
            rotate_left
            · intro w' hSw; obtain ⟨s1, s2, s3, s4, s5, s6⟩ := hSw; go_simp; try with_reducible rfl
            try simp only [Act.put, List.setIfInBounds_toArray, List.set_cons_zero, List.set_cons_succ]
            refine wpAnyH_done (by kernel_rfl) ?_ _
            refine NoPanic.normal ?_
            try simp only [Act.put, List.setIfInBounds_toArray, List.set_cons_zero, List.set_cons_succ]
            go_wp2_with fail
            go_roundg q
            case measure => omega
            case rel => exact ⟨k + 1, by go_num, by have := HIG.out; omega, to_call HQ.out QV2⟩
          · have hd1 : decide ((k : Int) < (z.rn : Int)) = false := decide_eq_false (by omega)
            have HSZ : Hid (∀ W', Below w.heap.size w W' → _) := fun W' hb => support_whole z dO dl dcap ds W' (HZ.out W' hb) (HDS.out W' hb) HW0.out.1 HW0.out.2 HF.out
            have HSY : Hid (∀ W', Below X6.heap.size X6 W' → _) := fun W' hb => support_whole y dO dl dcap ds W' (Q6.out.2.2.2.2.1.later hb) (HDS.out W' (to_call Q6.out.1 hb)) HY.out.2.1 HY.out.2.2.1 HY.out.1
            have HBZ : Hid (∀ W', Below w.heap.size w W' → _) := fun W' hb => bounds_whole z W' (HZ.out W' hb) HW0.out.1 HW0.out.2 HF.out
            have HBY : Hid (∀ W', Below X6.heap.size X6 W' → Calls Try.prog 11 #[.agg (zRow y)] W' fun e w' => ∃ g, e = .returned (.slice (some ⟨g, 0, none⟩) z.rn z.rn) ∧ SpL w' g z.rn z.rn (fun j r => AroR (y.cs[j]?.getD 0) (farZ y j) r) ∧ Below W'.heap.size W' w') := fun W' hb => by
              have h := bounds_whole y W' (Q6.out.2.2.2.2.1.later hb) HY.out.2.1 HY.out.2.2.1 HY.out.1
              rw [HY.out.2.2.2.1.rn] at h
              exact h
            unfold zRow at HSZ HSY HBZ HBY
            go_upto_region 14 with (first
              | (refine wpList_load_row (by rfl) 26 _ (by rfl) w.heap.size _ (by rfl) (kept HQ.out Q6.out.2.1) _ Try.underlying26 rfl 6 Try.infoZ (by rfl) ?_)
              | (go_at_call 10; refine Calls.mono (HSZ.out _ (to_call Q6.out.1 HQ.out)) ?_; rintro e V1 ⟨s, ok, rfl, hs1, b1⟩; have sup1 : Hid (SupR z ds s ok) := hs1; clear hs1))
            have q1 : Hid (Below X6.heap.size X6 V1) := to_call HQ.out b1
            clear b1 k1
            go_upto_region 15 with (first
              | (refine wpList_load_row (by rfl) 26 _ (by rfl) B9 _ (by rfl) (kept q1.out Q6.out.2.2.2.1) _ Try.underlying26 rfl 6 Try.infoZ (by rfl) ?_)
              | (go_at_call 10; refine Calls.mono (HSY.out _ q1.out) ?_; rintro e V2 ⟨s', ok', rfl, hs2, b2⟩; have sup2 : Hid (SupR y ds s' ok') := hs2; clear hs2))
            have q2 : Hid (Below X6.heap.size X6 V2) := to_call q1.out b2
            clear b2 q1
            go_upto_region 16 with (first
              | (refine wpList_load_row (by rfl) 26 _ (by rfl) w.heap.size _ (by rfl) (kept q2.out Q6.out.2.1) _ Try.underlying26 rfl 6 Try.infoZ (by rfl) ?_)
              | (go_at_call 11; refine Calls.mono (HBZ.out _ (to_call Q6.out.1 q2.out)) ?_; rintro e V3 ⟨ga, rfl, spa, b3⟩))
            have q3 : Hid (Below X6.heap.size X6 V3) := to_call q2.out b3
            clear q2
            have SPA : Hid (SpL V3 ga z.rn z.rn (fun j r => AroR (z.cs[j]?.getD 0) (farZ z j) r)) := spa
            clear b3 spa
            go_upto_region 17 with (first
              | (refine wpList_load_row (by rfl) 26 _ (by rfl) B9 _ (by rfl) (kept q3.out Q6.out.2.2.2.1) _ Try.underlying26 rfl 6 Try.infoZ (by rfl) ?_)
              | (go_at_call 11; refine Calls.mono (HBY.out _ q3.out) ?_; rintro e V4 ⟨gb, rfl, spb, b4⟩))
            have SPB : Hid (SpL V4 gb z.rn z.rn (fun j r => AroR (y.cs[j]?.getD 0) (farZ y j) r)) := spb
            have q4 : Hid (Below X6.heap.size X6 V4) := to_call q3.out b4
            have SPA4 : Hid (SpL V4 ga z.rn z.rn (fun j r => AroR (z.cs[j]?.getD 0) (farZ z j) r)) := SPA.out.heap (by obtain ⟨arr, ha, _⟩ := SPA.out.ex; rw [kept b4 ha, ha])
            have gzl : z.gs.length = z.dn := HGZ.out.1.trans HF.out.dg.symm
            have gyl : y.gs.length = y.dn := HY.out.2.2.2.2.trans HY.out.1.dg.symm
            obtain ⟨est, eok, fs⟩ := SupR.same sup1.out sup2.out HY.out.2.2.2.1 HF.out HY.out.1 gzl gyl
            subst est eok
            have HGL : Hid (z.gs.length = z.dn ∧ y.gs.length = y.dn) := ⟨gzl, gyl⟩
            have n1 : (FloatKind.f64.format.order s s != some Ordering.eq) = false := by rw [neq_ordN fs fs]; simp
            have n2 : (ok != ok) = false := by simp
            have n3 : ((z.rn : Int) != (z.rn : Int)) = false := by simp
            clear b4 spb q3 SPA sup1 sup2 HSZ HSY HBZ HBY fs gzl gyl hd1 HQ h1 hk
            go_wp2_with fail
            clear n1 n2 n3
            go_loopg [20] z.rn (fun q v20 wx => ∃ (k : Nat), v20 = .int .i64 k ∧ k + q = z.rn ∧ Hid (Below V4.heap.size V4 wx))
            case atStart => exact ⟨0, rfl, by omega, Below.refl _ _⟩
            case round =>
              obtain ⟨k, rfl, hk, HQ⟩ := hrel
              by_cases h1 : k < z.rn
              · have hd1 : decide ((k : Int) < (z.rn : Int)) = true := decide_eq_true (by omega)
                obtain ⟨q, rfl⟩ : ∃ q, gk = q + 1 := ⟨gk - 1, by omega⟩
                have HIG : Hid _ := hk
                clear hk
                go_upto_region 22 with fail
                obtain ⟨arr, ha1, ha2, ha3⟩ := SPA4.out.ex
                obtain ⟨r, hr, r1, r2, r3⟩ := ha3 k h1
                obtain ⟨brr, hb1, hb2, hb3⟩ := SPB.out.ex
                obtain ⟨r', hr', s1, s2, s3⟩ := hb3 k h1
                obtain ⟨hrr, f1, f2⟩ := LfR.bound HY.out.2.2.2.1 HF.out HY.out.1 HGL.out.1 HGL.out.2 h1 hr hr'
                subst hrr
                have QD : Below V4.heap.size V4 wr.drew := HQ.out.drew
                have SX : (fun V => V.rangeAt ga (k * 3) [.float .f64 r'.1, .float .f64 r'.2.1, .bool r'.2.2] ∧ V.rangeAt gb (k * 3) [.float .f64 r'.1, .float .f64 r'.2.1, .bool r'.2.2]) wr.drew := ⟨range3 (cellAtJ (kept QD ha1) _ _ r1) (cellAtJ (kept QD ha1) _ _ r2) (cellAtJ (kept QD ha1) _ _ r3), range3 (cellAtJ (kept QD hb1) _ _ s1) (cellAtJ (kept QD hb1) _ _ s2) (cellAtJ (kept QD hb1) _ _ s3)⟩
                obtain ⟨lo, hi, bd⟩ := r'
                dsimp only at SX f1 f2
                have hk0 : (k : Int) < (z.rn : Int) := by omega
                clear ha1 ha2 ha3 hb1 hb2 hb3 hr hr' r1 r2 r3 s1 s2 s3 hd1
                refine wp_region_noPanic ?_
                refine wp_region_held_drew (S := (fun V => V.rangeAt ga (k * 3) [.float .f64 lo, .float .f64 hi, .bool bd] ∧ V.rangeAt gb (k * 3) [.float .f64 lo, .float .f64 hi, .bool bd])) (by kernel_rfl) SX (fun _ => ?_)
                refine takeH 168 (i := 0) (v := ?_) rfl rfl (by kernel_rfl) (by kernel_rfl) (by kernel_rfl) (fun _ _ _ h => h) (Or.inl ⟨by kernel_rfl, ?_⟩) SX ?_
                rotate_left
                · intro w' hSw; go_simp; try with_reducible rfl
                try simp only [Act.put, List.setIfInBounds_toArray, List.set_cons_zero, List.set_cons_succ]
                refine takeH 169 (i := 1) (v := ?_) rfl rfl (by kernel_rfl) (by kernel_rfl) (by kernel_rfl) (fun _ _ _ h => h) (Or.inl ⟨by kernel_rfl, ?_⟩) SX ?_
                rotate_left
                · intro w' hSw; go_simp; try with_reducible rfl
                try simp only [Act.put, List.setIfInBounds_toArray, List.set_cons_zero, List.set_cons_succ]
                refine takeH 170 (i := 2) (v := ?_) rfl rfl (by kernel_rfl) (by kernel_rfl) (by kernel_rfl) (fun _ _ _ h => h) (Or.inl ⟨by kernel_rfl, ?_⟩) SX ?_
                rotate_left
                · intro w' hSw; go_simp; try with_reducible rfl
                try simp only [Act.put, List.setIfInBounds_toArray, List.set_cons_zero, List.set_cons_succ]
                refine takeH 171 (i := 3) (v := .agg #[.float .f64 lo, .float .f64 hi, .bool bd]) rfl rfl (by kernel_rfl) (by kernel_rfl) (by kernel_rfl) (fun _ _ _ h => h) (yieldsIf_load_mid (by kernel_rfl) 52 _ rfl ga (k * 3) (by kernel_rfl) #[.float .f64 lo, .float .f64 hi, .bool bd].toList _ (fun _ hS => hS.1) Try.underlying52 rfl (by kernel_rfl)) SX ?_
                try simp only [Act.put, List.setIfInBounds_toArray, List.set_cons_zero, List.set_cons_succ]
                refine takeH 172 (i := 4) (v := ?_) rfl rfl (by kernel_rfl) (by kernel_rfl) (by kernel_rfl) (fun _ _ _ h => h) (Or.inl ⟨by kernel_rfl, ?_⟩) SX ?_
                rotate_left
                · intro w' hSw; go_simp; try with_reducible rfl
                try simp only [Act.put, List.setIfInBounds_toArray, List.set_cons_zero, List.set_cons_succ]
                refine takeH 173 (i := 5) (v := ?_) rfl rfl (by kernel_rfl) (by kernel_rfl) (by kernel_rfl) (fun _ _ _ h => h) (Or.inl ⟨by kernel_rfl, ?_⟩) SX ?_
                rotate_left
                · intro w' hSw; go_simp; try with_reducible rfl
                try simp only [Act.put, List.setIfInBounds_toArray, List.set_cons_zero, List.set_cons_succ]
                refine takeH 174 (i := 6) (v := ?_) rfl rfl (by kernel_rfl) (by kernel_rfl) (by kernel_rfl) (fun _ _ _ h => h) (Or.inl ⟨by kernel_rfl, ?_⟩) SX ?_
                rotate_left
                · intro w' hSw; go_simp; try with_reducible rfl
                try simp only [Act.put, List.setIfInBounds_toArray, List.set_cons_zero, List.set_cons_succ]
                refine takeH 175 (i := 7) (v := .agg #[.float .f64 lo, .float .f64 hi, .bool bd]) rfl rfl (by kernel_rfl) (by kernel_rfl) (by kernel_rfl) (fun _ _ _ h => h) (yieldsIf_load_mid (by kernel_rfl) 52 _ rfl gb (k * 3) (by kernel_rfl) #[.float .f64 lo, .float .f64 hi, .bool bd].toList _ (fun _ hS => hS.2) Try.underlying52 rfl (by kernel_rfl)) SX ?_
                try simp only [Act.put, List.setIfInBounds_toArray, List.set_cons_zero, List.set_cons_succ]
                refine takeH 176 (i := 8) (v := .bool false) rfl rfl (by kernel_rfl) (by kernel_rfl) (by kernel_rfl) (fun _ _ _ h => h) (Or.inl ⟨by kernel_rfl, fun w' _ => ex_neqS _ _ _ _ rfl lo hi bd f1 f2 (by kernel_rfl) (by kernel_rfl) w'⟩) SX ?_
                try simp only [Act.put, List.setIfInBounds_toArray, List.set_cons_zero, List.set_cons_succ]
                refine wpAnyH_done (by kernel_rfl) ?_ _
                refine NoPanic.normal ?_
                try simp only [Act.put, List.setIfInBounds_toArray, List.set_cons_zero, List.set_cons_succ]
                go_wp2_with fail
                go_roundg q
                case measure => omega
                case rel => exact ⟨k + 1, by go_num, by have := HIG.out; omega, QD⟩
              · have hd1 : decide ((k : Int) < (z.rn : Int)) = false := decide_eq_false (by omega)
                have hmn : mayB y n = true := by rw [HCN.out.2.1]; exact LfR.may HY.out.2.2.2.1 HF.out HGZ.out.2.1 HMY.out
                have hyi : y.ids.length = y.dn := HY.out.2.2.2.1.dn.symm
                have HLY : Hid (∀ W', Below X6.heap.size X6 W' → Calls Try.prog 6 #[.agg (zRow y), .int .i64 n] W' fun e w' => ∃ v : ZD, e = .returned (.tuple #[.agg (zRow v), .int .i64 n]) ∧ ZR w' v ∧ sameZ (tkZ v) (tkZ y) = true ∧ Below W'.heap.size W' w') := fun W' hb => by
                  refine Calls.mono (lift_okY y n W' (Q6.out.2.2.2.2.1.later hb) HY.out.2.1 HY.out.2.2.1 HY.out.1 (by have h1 := HCN.out; have h2 := HGZ.out; omega) (by have h1 := HCN.out; omega) hmn) ?_
                  rintro e w' ⟨v, he, vr, vw, vl, vb⟩
                  obtain ⟨m0, hsm⟩ := LfR.again HY.out.2.2.2.1 HF.out HY.out.1 vl
                  rw [m0] at he
                  refine ⟨v, by rw [he, show n + ((0 : Nat) : Int) = n from Int.add_zero n], vr, ?_, vb⟩
                  rw [tk_self (check_whole vl.bad (LfR.whole vl HY.out.2.2.1 HY.out.1 hyi HY.out.2.2.2.2 hmn)), tk_self (check_whole HY.out.2.1 HY.out.2.2.1)]
                  exact hsm
                unfold zRow at HLY
                clear hmn hyi
                have q5 : Hid (Below X6.heap.size X6 wr) := to_call q4.out HQ.out
                go_upto_region 25 with (first
                  | (refine wpList_load_row (by rfl) 26 _ (by rfl) B9 _ (by rfl) (kept q5.out Q6.out.2.2.2.1) _ Try.underlying26 rfl 6 Try.infoZ (by rfl) ?_)
                  | (go_at_call 6; refine Calls.mono (HLY.out _ q5.out) ?_; rintro e V5 ⟨v, rfl, hvr, hvs, b5⟩; have vr : Hid (ZR V5 v) := hvr; have vs : Hid (sameZ (tkZ v) (tkZ y) = true) := hvs; clear hvr hvs))
                have A7 : Below V5.heap.size V5 (V5.alloc (.cells #[.int .i64 v.N, .slice v.co v.cn v.cc, .slice v.io v.dn v.dc, .slice v.go v.gn v.gc, .slice v.ro v.rn v.rc, .bool v.bad] 26)) := (Below.refl _ V5).alloc (Nat.le_refl _) _
                have P7 : Hid (Below X6.heap.size X6 (V5.alloc (.cells #[.int .i64 v.N, .slice v.co v.cn v.cc, .slice v.io v.dn v.dc, .slice v.go v.gn v.gc, .slice v.ro v.rn v.rc, .bool v.bad] 26)) ∧ (V5.alloc (.cells #[.int .i64 v.N, .slice v.co v.cn v.cc, .slice v.io v.dn v.dc, .slice v.go v.gn v.gc, .slice v.ro v.rn v.rc, .bool v.bad] 26)).heap[V5.heap.size]? = some (.cells #[.int .i64 v.N, .slice v.co v.cn v.cc, .slice v.io v.dn v.dc, .slice v.go v.gn v.gc, .slice v.ro v.rn v.rc, .bool v.bad] 26) ∧ (V5.alloc (.cells #[.int .i64 v.N, .slice v.co v.cn v.cc, .slice v.io v.dn v.dc, .slice v.go v.gn v.gc, .slice v.ro v.rn v.rc, .bool v.bad] 26)).heap[B9]? = some (.cells #[.int .i64 y.N, .slice y.co y.cn y.cc, .slice y.io y.dn y.dc, .slice y.go y.gn y.gc, .slice y.ro y.rn y.rc, .bool y.bad] 26) ∧ ZR (V5.alloc (.cells #[.int .i64 v.N, .slice v.co v.cn v.cc, .slice v.io v.dn v.dc, .slice v.go v.gn v.gc, .slice v.ro v.rn v.rc, .bool v.bad] 26)) v ∧ ZR (V5.alloc (.cells #[.int .i64 v.N, .slice v.co v.cn v.cc, .slice v.io v.dn v.dc, .slice v.go v.gn v.gc, .slice v.ro v.rn v.rc, .bool v.bad] 26)) y) := ⟨to_call (to_call q5.out b5) A7, heap_alloc_new V5 _, kept A7 (kept b5 (kept q5.out Q6.out.2.2.2.1)), vr.out.later A7, Q6.out.2.2.2.2.1.later (to_call (to_call q5.out b5) A7)⟩
                obtain ⟨X7, hX7⟩ : ∃ X7, V5.alloc (.cells #[.int .i64 v.N, .slice v.co v.cn v.cc, .slice v.io v.dn v.dc, .slice v.go v.gn v.gc, .slice v.ro v.rn v.rc, .bool v.bad] 26) = X7 := ⟨_, rfl⟩
                obtain ⟨B21, hB21⟩ : ∃ B21, V5.heap.size = B21 := ⟨_, rfl⟩
                rw [hX7, hB21] at P7
                rw [hX7, hB21]
                have HSM : Hid (∀ W', Below X7.heap.size X7 W' → Calls Try.prog 12 #[.agg (zRow v), .agg (zRow y)] W' fun e w' => e = .returned (.bool true) ∧ Below W'.heap.size W' w') := fun W' hb => by
                  have h := same_anyJ v y W' (P7.out.2.2.2.1.later hb) (P7.out.2.2.2.2.later hb)
                  rw [vs.out] at h
                  exact h
                unfold zRow at HSM
                have dnn : (n == n) = true := by simp
                clear hX7 hB21 A7 b5 vr vs q5 HLY
                go_wp2_with (first
                  | (refine wpList_load_rowG (by rfl) 26 _ (by rfl) B21 _ (by rfl) P7.out.2.1 _ Try.underlying26 rfl 6 Try.infoZ (by rfl) ?_)
                  | (refine wpList_load_rowG (by rfl) 26 _ (by rfl) B9 _ (by rfl) P7.out.2.2.1 _ Try.underlying26 rfl 6 Try.infoZ (by rfl) ?_)
                  | (go_at_call 12; refine Calls.mono (HSM.out _ (Below.refl _ _)) ?_; rintro e V6w ⟨rfl, b6⟩)
                  | (go_at_call 7; refine Calls.mono (started_any _) ?_; rintro e w9 ⟨rfl, b9⟩))
                go_ret
                exact ⟨rfl, to_call (to_call (to_call Q6.out.1 P7.out.1) b6) b9⟩
end Go.Proofs.Ytdfdljihbgdkaaa
