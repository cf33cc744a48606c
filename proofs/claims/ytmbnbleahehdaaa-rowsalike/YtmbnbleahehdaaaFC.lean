import Derived.Test.YtmbnbleahehdaaaFB
import Derived.Test.YtmbnbleahehdaaaAG
namespace Go.Proofs.Ytmbnbleahehdaaa
open Go.RowKit
set_option linter.unusedVariables false
set_option linter.unusedSimpArgs false

/-- What the law holds in its first loop. -/
structure AS (w wx : World) (B C D : Nat) (xs sh cv dn : Array Value) : Prop where
  bel : Below w.heap.size w wx
  x : wx.heap[w.heap.size]? = some (.cells xs 25)
  s : wx.heap[B]? = some (.cells sh 25)
  c : wx.heap[C]? = some (.cells cv 30)
  d : wx.heap[D]? = some (.cells dn 30)
theorem AS.later {w wx wy : World} {B C D : Nat} {xs sh cv dn : Array Value} (h : AS w wx B C D xs sh cv dn) (hb : Below wx.heap.size wx wy) : AS w wy B C D xs sh cv dn :=
  ⟨to_call h.bel hb, kept hb h.x, kept hb h.s, kept hb h.c, kept hb h.d⟩
/-- What the law holds in its second loop: two lists that grow side by side. -/
structure SS (w wx : World) (M B : Nat) (xs mn sc : Array Value) (v u : Value) (vs us : List Nat) : Prop where
  bel : Below w.heap.size w wx
  x : wx.heap[w.heap.size]? = some (.cells xs 25)
  m : wx.heap[M]? = some (.cells mn 30)
  s : wx.heap[B]? = some (.cells sc 30)
  ov : OwnF wx w.heap.size v vs
  ou : OwnF wx w.heap.size u us
  dj : ∀ k, v.ownBlock = some k → u.ownBlock ≠ some k
theorem SS.app1 {w wx w5 : World} {M B : Nat} {xs mn sc : Array Value} {v u v5 : Value} {vs us ts : List Nat} (h : SS w wx M B xs mn sc v u vs us) (g : Grw wx w5 v.ownBlock v5.ownBlock) (o : OwnF w5 w.heap.size v5 ts) : SS w w5 M B xs mn sc v5 u ts us := by
  refine ⟨h.bel.trans (g.below (fun k hk => (World.ownsRow.lt h.ov k hk).1) h.bel.size), ?_, ?_, ?_, o, own_kp h.ou fun k hk => g.by'.block k (World.ownsRow.lt h.ou k hk).2 (fun c => h.dj k c.symm hk), ?_⟩
  · exact (g.by'.block _ (blk_lt h.x) (fun c => own_ne h.ov h.x (by decide) c.symm)).trans h.x
  · exact (g.by'.block _ (blk_lt h.m) (fun c => own_ne h.ov h.m (by decide) c.symm)).trans h.m
  · exact (g.by'.block _ (blk_lt h.s) (fun c => own_ne h.ov h.s (by decide) c.symm)).trans h.s
  · intro k hk hu
    rcases g.new with e | e
    · exact h.dj k (e ▸ hk) hu
    · have h1 := e k hk
      have h2 := (World.ownsRow.lt h.ou k hu).2
      omega
theorem SS.flip {w wx : World} {M B : Nat} {xs mn sc : Array Value} {v u : Value} {vs us : List Nat} (h : SS w wx M B xs mn sc v u vs us) : SS w wx M B xs mn sc u v us vs := ⟨h.bel, h.x, h.m, h.s, h.ou, h.ov, fun k hk hv => h.dj k hv hk⟩
theorem SS.put {w wx w9 : World} {M B : Nat} {xs mn sc sc' : Array Value} {v u : Value} {vs us : List Nat} (h : SS w wx M B xs mn sc v u vs us) (hM : M ≠ B) (hx : w.heap.size ≠ B) (h9 : w9.heap[B]? = some (.cells sc' 30)) (b9 : Below w.heap.size w w9) (k9 : ∀ k, k ≠ B → w9.heap[k]? = wx.heap[k]?) : SS w w9 M B xs mn sc' v u vs us :=
  ⟨b9, (k9 _ hx).trans h.x, (k9 _ hM).trans h.m, h9, own_kp h.ov fun k hk => k9 k fun e => own_ne h.ov h.s (by decide) (e ▸ hk), own_kp h.ou fun k hk => k9 k fun e => own_ne h.ou h.s (by decide) (e ▸ hk), h.dj⟩
set_option maxRecDepth 100000 in
set_option maxHeartbeats 8000000 in
theorem rowsAlike_main (out c x y z seed : Int) (hx : x ≤ 9223372036854775807) (hy : y ≤ 9223372036854775807) (hz : z ≤ 9223372036854775807) (w : World) :
    Calls Try.prog 4 #[.int .i64 out, .int .i64 c, .agg #[.int .i64 x, .int .i64 y, .int .i64 z], .int .i64 seed] w fun e w' => e = .returned (.bool true) ∧ Below w.heap.size w w' := by
  have X0 : Below w.heap.size w (w.alloc (.cells #[.int .i64 x, .int .i64 y, .int .i64 z] 25)) := (Below.refl _ w).alloc (Nat.le_refl _) _
  have Y0 : (w.alloc (.cells #[.int .i64 x, .int .i64 y, .int .i64 z] 25)).heap[w.heap.size]? = _ := heap_alloc_new w _
  obtain ⟨bb, hbb⟩ : ∃ bb : Bool, bb = decide (out < 1 ∨ 30 < out ∨ c < 1 ∨ 30 < c) := ⟨_, rfl⟩
  have HBB : Hid (bb = decide (out < 1 ∨ 30 < out ∨ c < 1 ∨ 30 < c)) := hbb
  clear hbb
  go_enter Try.func4, Try.ntmps4
  go_upto_region 1 with fail
  obtain ⟨X, hX⟩ : ∃ X, (w.alloc (.cells #[.int .i64 x, .int .i64 y, .int .i64 z] 25)) = X := ⟨_, rfl⟩
  rw [hX] at X0 Y0 ⊢
  clear hX
  have HX : Hid (Below w.heap.size w X ∧ X.heap[w.heap.size]? = some (.cells #[.int .i64 x, .int .i64 y, .int .i64 z] 25)) := ⟨X0, Y0⟩
  clear X0 Y0
  go_cut [34] (fun v wx => v = .bool bb ∧ wx = X)
  case first =>
    by_cases q0 : out < 1
    · have hb : bb = true := HBB.out.trans (decide_eq_true (by omega))
      have d0 : decide (out < 1) = true := decide_eq_true q0
      have HB : Hid (bb = true) := hb
      clear hb
      go_wp2_with fail
      go_meet
      exact ⟨by rw [HB.out], rfl⟩
    by_cases q1 : 30 < out
    · have hb : bb = true := HBB.out.trans (decide_eq_true (by omega))
      have d0 : decide (out < 1) = false := decide_eq_false q0
      have d1 : decide (30 < out) = true := decide_eq_true q1
      have HB : Hid (bb = true) := hb
      clear hb
      go_wp2_with fail
      go_meet
      exact ⟨by rw [HB.out], rfl⟩
    by_cases q2 : c < 1
    · have hb : bb = true := HBB.out.trans (decide_eq_true (by omega))
      have d0 : decide (out < 1) = false := decide_eq_false q0
      have d1 : decide (30 < out) = false := decide_eq_false q1
      have d2 : decide (c < 1) = true := decide_eq_true q2
      have HB : Hid (bb = true) := hb
      clear hb
      go_wp2_with fail
      go_meet
      exact ⟨by rw [HB.out], rfl⟩
    by_cases q3 : 30 < c
    · have hb : bb = true := HBB.out.trans (decide_eq_true (by omega))
      have d0 : decide (out < 1) = false := decide_eq_false q0
      have d1 : decide (30 < out) = false := decide_eq_false q1
      have d2 : decide (c < 1) = false := decide_eq_false q2
      have d3 : decide (30 < c) = true := decide_eq_true q3
      have HB : Hid (bb = true) := hb
      clear hb
      go_wp2_with fail
      go_meet
      exact ⟨by rw [HB.out], rfl⟩
    have hb : bb = false := HBB.out.trans (decide_eq_false (by omega))
    have d0 : decide (out < 1) = false := decide_eq_false q0
    have d1 : decide (30 < out) = false := decide_eq_false q1
    have d2 : decide (c < 1) = false := decide_eq_false q2
    have d3 : decide (30 < c) = false := decide_eq_false q3
    have HB : Hid (bb = false) := hb
    clear hb
    go_wp2_with fail
    go_meet
    exact ⟨by rw [HB.out], rfl⟩
  case rest =>
  obtain ⟨rfl, hw⟩ := hcut
  subst hw
  go_upto_if 34 with fail
  go_cut [0, 1] (fun a b wx => ∃ o c' : Nat, a = .int .i64 (o : Int) ∧ b = .int .i64 (c' : Int) ∧ Hid ((1 ≤ o ∧ o ≤ 30) ∧ (1 ≤ c' ∧ c' ≤ 30)) ∧ wx = wc)
  case first =>
    cases bb with
    | true =>
      go_wp2_with fail
      go_meet
      exact ⟨2, 3, rfl, rfl, ⟨by omega, by omega⟩, rfl⟩
    | false =>
      have hb := of_decide_eq_false HBB.out.symm
      obtain ⟨o', ho'⟩ : ∃ o' : Nat, out = (o' : Int) := ⟨out.toNat, by omega⟩
      obtain ⟨c2, hc2⟩ : ∃ c2 : Nat, c = (c2 : Int) := ⟨c.toNat, by omega⟩
      clear HBB
      subst ho' hc2
      go_wp2_with fail
      go_meet
      exact ⟨o', c2, rfl, rfl, ⟨by omega, by omega⟩, rfl⟩
  case rest =>
  obtain ⟨o, c, rfl, rfl, HOC, hw⟩ := hcut
  subst hw
  have HMC : Hid (∀ w, _) := fun w => madeC o c HOC.out.1 HOC.out.2 seed w
  have HMD : Hid (∀ w, _) := fun w => madeD o c HOC.out.1 HOC.out.2 seed w
  clear HBB
  go_upto_region 4 with (first | (refine wpList_store_row (by rfl) 25 _ _ (by rfl) wc wc.heap.size wc.heap.size _ _ (by rfl) (by rfl) (heap_alloc_new wc _) ((Below.refl _ wc).alloc (Nat.le_refl _) _) (Nat.le_refl _) 3 Try.infoShape (by rfl) (by rfl) (one3 ..) ?_; intro W1 e1 b1 s1 o1))
  have HW1 : Hid (Below w.heap.size w W1 ∧ W1.heap[w.heap.size]? = some (.cells #[.int .i64 x, .int .i64 y, .int .i64 z] 25) ∧ W1.heap[wc.heap.size]? = some (.cells #[.int .i64 (c : Int), .int .i64 1, .int .i64 1] 25)) := ⟨to_call HX.out.1 b1, kept b1 HX.out.2, e1⟩
  obtain ⟨t0, t1, t2⟩ := cells3 e1
  clear e1 b1 s1 o1 HX
  go_upto_region 5 with (first
    | (go_at_call 5; refine Calls.mono (HMC.out _) ?_; rintro e W2 ⟨wo, wk, bo, bk, rfl, q1, r1, r2, b2⟩)
    | (refine wpList_store_row (by rfl) 30 _ _ (by rfl) W2 W2.heap.size W2.heap.size _ _ (by rfl) (by rfl) (heap_alloc_new W2 _) ((Below.refl _ W2).alloc (Nat.le_refl _) _) (Nat.le_refl _) 14 Try.infoLy (by rfl) (by rfl) (one14i _ _ _ _ _ _ _ _ _ _ _ _ _ _ rfl rfl rfl rfl) ?_; intro W3 e3 b3 s3 o3))
  have HW3 : Hid (Below w.heap.size w W3 ∧ W3.heap[w.heap.size]? = some (.cells #[.int .i64 x, .int .i64 y, .int .i64 z] 25) ∧ W3.heap[wc.heap.size]? = some (.cells #[.int .i64 (c : Int), .int .i64 1, .int .i64 1] 25) ∧ W3.heap[W2.heap.size]? = some (.cells #[.int .i64 2, .int .i64 (o : Int), .int .i64 1, .int .i64 1, .int .i64 1, .int .i64 1, .int .i64 0, .int .i64 0, .int .i64 0, .float .f64 0, .slice wo (o * c) wk, .slice bo o bk, .slice none 0 0, .slice none 0 0] 30) ∧ o * c ≤ wk ∧ RdF W3 wo (o * c) wk (wL seed (o * c)) ∧ RdF W3 bo o bk (bL seed o)) := ⟨to_call (to_call HW1.out.1 b2) b3, kept b3 (kept b2 HW1.out.2.1), kept b3 (kept b2 HW1.out.2.2), e3, q1, r1.later b3, r2.later b3⟩
  clear t0 t1 t2
  obtain ⟨t0, t1, t2⟩ := cells3 HW3.out.2.2.1
  clear e3 b3 s3 o3 b2 q1 r1 r2 HW1 HMC
  go_upto_region 6 with (first
    | (go_at_call 5; refine Calls.mono (HMD.out _) ?_; rintro e W4 ⟨wo', wk', bo', bk', rfl, q1, r1, r2, b2⟩)
    | (refine wpList_store_row (by rfl) 30 _ _ (by rfl) W4 W4.heap.size W4.heap.size _ _ (by rfl) (by rfl) (heap_alloc_new W4 _) ((Below.refl _ W4).alloc (Nat.le_refl _) _) (Nat.le_refl _) 14 Try.infoLy (by rfl) (by rfl) (one14i _ _ _ _ _ _ _ _ _ _ _ _ _ _ rfl rfl rfl rfl) ?_; intro W5 e3 b3 s3 o3))
  have HA5 : Hid (AS w W5 wc.heap.size W2.heap.size W4.heap.size #[.int .i64 x, .int .i64 y, .int .i64 z] #[.int .i64 (c : Int), .int .i64 1, .int .i64 1] #[.int .i64 2, .int .i64 (o : Int), .int .i64 1, .int .i64 1, .int .i64 1, .int .i64 1, .int .i64 0, .int .i64 0, .int .i64 0, .float .f64 0, .slice wo (o * c) wk, .slice bo o bk, .slice none 0 0, .slice none 0 0] #[.int .i64 1, .int .i64 (o : Int), .int .i64 0, .int .i64 0, .int .i64 0, .int .i64 0, .int .i64 0, .int .i64 0, .int .i64 0, .float .f64 0, .slice wo' (o * c) wk', .slice bo' o bk', .slice none 0 0, .slice none 0 0]) := ⟨to_call (to_call HW3.out.1 b2) b3, kept b3 (kept b2 HW3.out.2.1), kept b3 (kept b2 HW3.out.2.2.1), kept b3 (kept b2 HW3.out.2.2.2.1), e3⟩
  have HR5 : Hid ((o * c ≤ wk ∧ o * c ≤ wk') ∧ (RdF W5 wo (o * c) wk (wL seed (o * c)) ∧ RdF W5 bo o bk (bL seed o)) ∧ RdF W5 wo' (o * c) wk' (wL seed (o * c)) ∧ RdF W5 bo' o bk' (bL seed o)) := ⟨⟨HW3.out.2.2.2.2.1, q1⟩, ⟨(HW3.out.2.2.2.2.2.1.later b2).later b3, (HW3.out.2.2.2.2.2.2.later b2).later b3⟩, r1.later b3, r2.later b3⟩
  clear t0 t1 t2 e3 b3 s3 o3 b2 q1 r1 r2 HW3 HMD
  go_upto_region 8 with (first | (go_at_call 6; refine Calls.mono (told7 _) ?_; rintro e W6 ⟨rfl, b6⟩))
  have HA6 : Hid _ := AS.later HA5.out b6
  have HR6 : Hid ((o * c ≤ wk ∧ o * c ≤ wk') ∧ (RdF W6 wo (o * c) wk (wL seed (o * c)) ∧ RdF W6 bo o bk (bL seed o)) ∧ RdF W6 wo' (o * c) wk' (wL seed (o * c)) ∧ RdF W6 bo' o bk' (bL seed o)) := ⟨HR5.out.1, ⟨HR5.out.2.1.1.later b6, HR5.out.2.1.2.later b6⟩, HR5.out.2.2.1.later b6, HR5.out.2.2.2.later b6⟩
  clear HA5 HR5 b6
  go_wp2_with fail
  go_loopg [14] o (fun g u wx => ∃ i : Nat, u = .int .i64 i ∧ i + g = o ∧ Hid (AS w wx wc.heap.size W2.heap.size W4.heap.size #[.int .i64 x, .int .i64 y, .int .i64 z] #[.int .i64 (c : Int), .int .i64 1, .int .i64 1] #[.int .i64 2, .int .i64 (o : Int), .int .i64 1, .int .i64 1, .int .i64 1, .int .i64 1, .int .i64 0, .int .i64 0, .int .i64 0, .float .f64 0, .slice wo (o * c) wk, .slice bo o bk, .slice none 0 0, .slice none 0 0] #[.int .i64 1, .int .i64 (o : Int), .int .i64 0, .int .i64 0, .int .i64 0, .int .i64 0, .int .i64 0, .int .i64 0, .int .i64 0, .float .f64 0, .slice wo' (o * c) wk', .slice bo' o bk', .slice none 0 0, .slice none 0 0]) ∧ Hid ((o * c ≤ wk ∧ o * c ≤ wk') ∧ (RdF wx wo (o * c) wk (wL seed (o * c)) ∧ RdF wx bo o bk (bL seed o)) ∧ RdF wx wo' (o * c) wk' (wL seed (o * c)) ∧ RdF wx bo' o bk' (bL seed o)))
  case atStart => exact ⟨0, rfl, by omega, HA6, HR6⟩
  case round =>
    clear HA6 HR6
    obtain ⟨i, rfl, hi, HA, HR⟩ := hrel
    by_cases hlt : i < o
    · have hd : decide ((i : Int) < (o : Int)) = true := decide_eq_true (by omega)
      obtain ⟨g, rfl⟩ : ∃ g, gk = g + 1 := ⟨gk - 1, by omega⟩
      obtain ⟨t0, t1, t2⟩ := cells3 HA.out.s
      have HCL : Hid _ := alikeCD o c i HOC.out.1 HOC.out.2 hlt seed wo bo wo' bo' wk bk wk' bk' HR.out.1.1 HR.out.1.2 wr HR.out.2.1.1 HR.out.2.1.2 HR.out.2.2.1 HR.out.2.2.2
      go_wp2_with (first
        | (refine wpList_load_row (by rfl) 30 _ (by rfl) W2.heap.size _ (by rfl) HA.out.c _ Try.underlying30 rfl 14 Try.infoLy (by rfl) ?_)
        | (refine wpList_load_row (by rfl) 30 _ (by rfl) W4.heap.size _ (by rfl) HA.out.d _ Try.underlying30 rfl 14 Try.infoLy (by rfl) ?_)
        | (go_at_call 11; refine Calls.mono HCL.out ?_; rintro e W7 ⟨rfl, b7⟩))
      have HA7 : Hid _ := AS.later HA.out b7
      have HR7 : Hid ((o * c ≤ wk ∧ o * c ≤ wk') ∧ (RdF W7 wo (o * c) wk (wL seed (o * c)) ∧ RdF W7 bo o bk (bL seed o)) ∧ RdF W7 wo' (o * c) wk' (wL seed (o * c)) ∧ RdF W7 bo' o bk' (bL seed o)) := ⟨HR.out.1, ⟨HR.out.2.1.1.later b7, HR.out.2.1.2.later b7⟩, HR.out.2.2.1.later b7, HR.out.2.2.2.later b7⟩
      clear b7 t0 t1 t2 HCL
      have hb30 : i < 30 := by have := HOC.out.1.2; omega
      go_roundg g
      case measure => omega
      case rel => exact ⟨i + 1, by rw [show wrap64 ((i : Int) + 1) = ((i + 1 : Nat) : Int) by unfold wrap64; omega], by omega, HA7, HR7⟩
    · have hd : decide ((i : Int) < (o : Int)) = false := decide_eq_false (by omega)
      have hd' : decide (i < o) = false := decide_eq_false (by omega)
      clear hlt hi HR
      obtain ⟨t0, t1, t2⟩ := cells3 HA.out.x
      rcases refSize_all x y z hx hy hz with ⟨C, H, K, n, rfl, rfl, rfl, hC, hH, hK, hn, hn2, hSz⟩ | hSz
      · have HSZ : Hid _ := hSz
        clear hSz
        go_upto_region 16 with (first | (go_at_call 12; refine Calls.mono (HSZ.out _) ?_; rintro e W8 ⟨rfl, b8⟩))
        have HX8 : Hid (Below w.heap.size w W8 ∧ W8.heap[w.heap.size]? = some (.cells #[.int .i64 (C : Int), .int .i64 (H : Int), .int .i64 (K : Int)] 25)) := ⟨to_call HA.out.bel b8, kept b8 HA.out.x⟩
        have HCN : Hid (C ≤ 256) := by
          have h1 : C * H ≤ C * H * K := Nat.le_mul_of_pos_right _ hK
          have h2 : C ≤ C * H := Nat.le_mul_of_pos_right _ hH
          unfold Hid; omega
        clear t0 t1 t2 hd hd' b8 HA HSZ HOC
        obtain ⟨v, hv⟩ : ∃ v, smallZ seed 0 = v := ⟨_, rfl⟩
        have HSM : Hid (∀ w, Calls Try.prog 13 #[.int .i64 seed, .int .i64 0] w fun e w' => e = .returned (.int .i64 v) ∧ w' = w) := fun w => hv ▸ small_any seed 0 w
        have hvb : -9 ≤ v ∧ v ≤ 9 := hv ▸ smallZ_bd seed 0
        obtain ⟨A, hA⟩ : ∃ A, qZ v = A := ⟨_, rfl⟩
        obtain ⟨hq0, hq1, hq2⟩ := qZ_ok hvb
        obtain ⟨fl, hfl⟩ : ∃ fl, flZ v = fl := ⟨_, rfl⟩
        rw [hA] at hq0 hq1 hq2
        rw [hfl] at hq0
        have hcv : ∀ w, (convert 3 26 (.int .i64 v)).run Try.prog w = .ok (.float .f64 fl) w := fun w => hfl ▸ conv_any v w
        have hqr : ∀ w, (binOp BinOp.quo 26 (.float .f64 fl) (.float .f64 4613937818241073152)).run Try.prog w = .ok (.float .f64 A) w := fun w => quo_any fl _ A hq0 w
        have HAF : Hid (A < 18446744073709551616 ∧ Fin A) := ⟨hq1, hq2⟩
        clear hv hvb hA hq0 hq1 hq2 hfl
        go_upto_region 17 with (first
          | (go_at_call 13; refine Calls.mono (HSM.out _) ?_; rintro e m ⟨rfl, hm⟩; rw [hm]; clear hm)
          | (refine wpList_store_row (by rfl) 30 _ _ (by rfl) W8 W8.heap.size W8.heap.size _ _ (by rfl) (by rfl) (heap_alloc_new W8 _) ((Below.refl _ W8).alloc (Nat.le_refl _) _) (Nat.le_refl _) 14 Try.infoLy (by rfl) (by rfl) (one14i _ _ _ _ _ _ _ _ _ _ _ _ _ _ rfl rfl rfl rfl) ?_; intro W9 e9 b9 s9 o9))
        have HX9 : Hid (Below w.heap.size w W9 ∧ W9.heap[w.heap.size]? = some (.cells #[.int .i64 (C : Int), .int .i64 (H : Int), .int .i64 (K : Int)] 25) ∧ W9.heap[W8.heap.size]? = some (.cells #[.int .i64 4, .int .i64 0, .int .i64 1, .int .i64 1, .int .i64 1, .int .i64 1, .int .i64 0, .int .i64 0, .int .i64 0, .float .f64 A, .slice none 0 0, .slice none 0 0, .slice none 0 0, .slice none 0 0] 30)) := ⟨to_call HX8.out.1 b9, kept b9 HX8.out.2, e9⟩
        have HLT : Hid (w.heap.size < W8.heap.size) := blk_lt HX8.out.2
        clear HX8 e9 b9 s9 o9 hcv hqr HSM
        go_upto_region 18 with (first
          | (refine wpList_store_row (by rfl) 30 _ _ (by rfl) W9 W9.heap.size W9.heap.size _ _ (by rfl) (by rfl) (heap_alloc_new W9 _) ((Below.refl _ W9).alloc (Nat.le_refl _) _) (Nat.le_refl _) 14 Try.infoLy (by rfl) (by rfl) (one14i _ _ _ _ _ _ _ _ _ _ _ _ _ _ rfl rfl rfl rfl) ?_; intro WA eA bA sA oA))
        have HSS : Hid (SS w WA W8.heap.size W9.heap.size #[.int .i64 (C : Int), .int .i64 (H : Int), .int .i64 (K : Int)] #[.int .i64 4, .int .i64 0, .int .i64 1, .int .i64 1, .int .i64 1, .int .i64 1, .int .i64 0, .int .i64 0, .int .i64 0, .float .f64 A, .slice none 0 0, .slice none 0 0, .slice none 0 0, .slice none 0 0] #[.int .i64 3, .int .i64 0, .int .i64 0, .int .i64 0, .int .i64 0, .int .i64 0, .int .i64 0, .int .i64 0, .int .i64 0, .float .f64 0, .slice none 0 0, .slice none 0 0, .slice none 0 0, .slice none 0 0] (.slice none 0 0) (.slice none 0 0) (List.replicate 0 A) (List.replicate 0 0)) := ⟨to_call HX9.out.1 bA, kept bA HX9.out.2.1, kept bA HX9.out.2.2, eA, OwnF.nil _ _, OwnF.nil _ _, fun k hk => by simp [Value.ownBlock] at hk⟩
        have HNE : Hid (W8.heap.size ≠ W9.heap.size ∧ w.heap.size ≠ W9.heap.size ∧ w.heap.size ≤ W9.heap.size) := by
          have h1 := blk_lt HX9.out.2.2
          have h2 := HLT.out
          exact ⟨by omega, by omega, by omega⟩
        clear HX9 eA bA sA oA HLT
        go_wp2_with fail
        go_loopg [19] C (fun g u wx => ∃ (i : Nat) (v u2 : Value), u = .int .i64 i ∧ i + g = C ∧ Hid (SS w wx W8.heap.size W9.heap.size #[.int .i64 (C : Int), .int .i64 (H : Int), .int .i64 (K : Int)] #[.int .i64 4, .int .i64 0, .int .i64 1, .int .i64 1, .int .i64 1, .int .i64 1, .int .i64 0, .int .i64 0, .int .i64 0, .float .f64 A, .slice none 0 0, .slice none 0 0, .slice none 0 0, .slice none 0 0] #[.int .i64 3, .int .i64 0, .int .i64 0, .int .i64 0, .int .i64 0, .int .i64 0, .int .i64 0, .int .i64 0, .int .i64 0, .float .f64 0, v, u2, .slice none 0 0, .slice none 0 0] v u2 (List.replicate i A) (List.replicate i 0)))
        case atStart => exact ⟨0, _, _, rfl, by omega, HSS⟩
        case round =>
          clear HSS
          obtain ⟨i, v, u2, rfl, hi, HS⟩ := hrel
          have x0 := (cells3 HS.out.x).1
          have hC256 := HCN.out
          by_cases hlt : i < C
          · have hd : decide ((i : Int) < (C : Int)) = true := decide_eq_true (by omega)
            obtain ⟨g, rfl⟩ : ∃ g, gk = g + 1 := ⟨gk - 1, by omega⟩
            have c10 := cellAt HS.out.s 10 v rfl
            have c9 := cellAt HS.out.m 9 (.float .f64 A) rfl
            have hl1 : (flV' (List.replicate i A)).length + 1 ≤ 1000000 := by simp [flV']; omega
            have hl2 : (flV' (List.replicate i 0)).length + 1 ≤ 1000000 := by simp [flV']; omega
            have HL1 : Hid _ := hl1
            have HL2 : Hid _ := hl2
            clear hl1 hl2
            go_upto_region 22 with (first
              | (at_builtin; refine append_gr1 Try.underlying27 Try.infoF rfl (by decide) wr (by rfl) _ _ (by rfl) w.heap.size v _ (by rfl) HS.out.ov (.float .f64 A) (by rfl) rfl HL1.out HS.out.bel.size ?_; intro v5 w5 o5 g5; have P5 : SS w w5 W8.heap.size W9.heap.size #[.int .i64 (C : Int), .int .i64 (H : Int), .int .i64 (K : Int)] #[.int .i64 4, .int .i64 0, .int .i64 1, .int .i64 1, .int .i64 1, .int .i64 1, .int .i64 0, .int .i64 0, .int .i64 0, .float .f64 A, .slice none 0 0, .slice none 0 0, .slice none 0 0, .slice none 0 0] #[.int .i64 3, .int .i64 0, .int .i64 0, .int .i64 0, .int .i64 0, .int .i64 0, .int .i64 0, .int .i64 0, .int .i64 0, .float .f64 0, v, u2, .slice none 0 0, .slice none 0 0] v5 u2 (List.replicate (i + 1) A) (List.replicate i 0) := HS.out.app1 g5 (by unfold OwnF; rw [List.replicate_succ', flV'_snoc]; exact o5))
              | (refine wpList_store_at (by rfl) 27 _ _ (by rfl) w w.heap.size W9.heap.size 10 v5 _ #[.int .i64 3, .int .i64 0, .int .i64 0, .int .i64 0, .int .i64 0, .int .i64 0, .int .i64 0, .int .i64 0, .int .i64 0, .float .f64 0, v5, u2, .slice none 0 0, .slice none 0 0] 30 (by rfl) (by rfl) P5.s P5.bel HNE.out.2.2 1 Try.infoSl2 (by rw [(own_val o5).2]; rfl) (Nat.le_of_ble_eq_true rfl) (by intro u hu; rw [(own_val o5).2] at hu; simp at hu; subst hu; exact (own_val o5).1) (by rw [(own_val o5).2]; rfl) ?_; intro w6 e6 b6 s6 k6))
            have P6 : Hid (SS w w6 W8.heap.size W9.heap.size #[.int .i64 (C : Int), .int .i64 (H : Int), .int .i64 (K : Int)] #[.int .i64 4, .int .i64 0, .int .i64 1, .int .i64 1, .int .i64 1, .int .i64 1, .int .i64 0, .int .i64 0, .int .i64 0, .float .f64 A, .slice none 0 0, .slice none 0 0, .slice none 0 0, .slice none 0 0] #[.int .i64 3, .int .i64 0, .int .i64 0, .int .i64 0, .int .i64 0, .int .i64 0, .int .i64 0, .int .i64 0, .int .i64 0, .float .f64 0, v5, u2, .slice none 0 0, .slice none 0 0] v5 u2 (List.replicate (i + 1) A) (List.replicate i 0)) := P5.put HNE.out.1 HNE.out.2.1 e6 b6 k6
            clear c10 c9 P5 e6 b6 s6 k6 o5 g5 HS HL1
            have c11 := cellAt P6.out.s 11 u2 rfl
            go_wp2_with (first
              | (at_builtin; refine append_gr1 Try.underlying27 Try.infoF rfl (by decide) w6 (by rfl) _ _ (by rfl) w.heap.size u2 _ (by rfl) P6.out.ou (.float .f64 0) (by rfl) rfl HL2.out P6.out.bel.size ?_; intro v7 w7 o7 g7; have P7 : SS w w7 W8.heap.size W9.heap.size #[.int .i64 (C : Int), .int .i64 (H : Int), .int .i64 (K : Int)] #[.int .i64 4, .int .i64 0, .int .i64 1, .int .i64 1, .int .i64 1, .int .i64 1, .int .i64 0, .int .i64 0, .int .i64 0, .float .f64 A, .slice none 0 0, .slice none 0 0, .slice none 0 0, .slice none 0 0] #[.int .i64 3, .int .i64 0, .int .i64 0, .int .i64 0, .int .i64 0, .int .i64 0, .int .i64 0, .int .i64 0, .int .i64 0, .float .f64 0, v5, u2, .slice none 0 0, .slice none 0 0] v7 v5 (List.replicate (i + 1) 0) (List.replicate (i + 1) A) := P6.out.flip.app1 g7 (by unfold OwnF; rw [List.replicate_succ', flV'_snoc]; exact o7))
              | (refine wpList_store_at (by rfl) 27 _ _ (by rfl) w w.heap.size W9.heap.size 11 v7 _ #[.int .i64 3, .int .i64 0, .int .i64 0, .int .i64 0, .int .i64 0, .int .i64 0, .int .i64 0, .int .i64 0, .int .i64 0, .float .f64 0, v5, v7, .slice none 0 0, .slice none 0 0] 30 (by rfl) (by rfl) P7.s P7.bel HNE.out.2.2 1 Try.infoSl2 (by rw [(own_val o7).2]; rfl) (Nat.le_of_ble_eq_true rfl) (by intro u hu; rw [(own_val o7).2] at hu; simp at hu; subst hu; exact (own_val o7).1) (by rw [(own_val o7).2]; rfl) ?_; intro w8 e8 b8 s8 k8))
            have P8 : Hid (SS w w8 W8.heap.size W9.heap.size #[.int .i64 (C : Int), .int .i64 (H : Int), .int .i64 (K : Int)] #[.int .i64 4, .int .i64 0, .int .i64 1, .int .i64 1, .int .i64 1, .int .i64 1, .int .i64 0, .int .i64 0, .int .i64 0, .float .f64 A, .slice none 0 0, .slice none 0 0, .slice none 0 0, .slice none 0 0] #[.int .i64 3, .int .i64 0, .int .i64 0, .int .i64 0, .int .i64 0, .int .i64 0, .int .i64 0, .int .i64 0, .int .i64 0, .float .f64 0, v5, v7, .slice none 0 0, .slice none 0 0] v5 v7 (List.replicate (i + 1) A) (List.replicate (i + 1) 0)) := (P7.put HNE.out.1 HNE.out.2.1 e8 b8 k8).flip
            clear c11 P7 e8 b8 s8 k8 o7 g7 P6 HL2
            go_roundg g
            case measure => omega
            case rel => exact ⟨i + 1, v5, v7, by go_num, by omega, P8⟩
          · have hd : decide ((i : Int) < (C : Int)) = false := decide_eq_false (by omega)
            have hd' : decide (i < C) = false := decide_eq_false (by omega)
            have HS2 : Hid (SS w wr W8.heap.size W9.heap.size #[.int .i64 (C : Int), .int .i64 (H : Int), .int .i64 (K : Int)] #[.int .i64 4, .int .i64 0, .int .i64 1, .int .i64 1, .int .i64 1, .int .i64 1, .int .i64 0, .int .i64 0, .int .i64 0, .float .f64 A, .slice none 0 0, .slice none 0 0, .slice none 0 0, .slice none 0 0] #[.int .i64 3, .int .i64 0, .int .i64 0, .int .i64 0, .int .i64 0, .int .i64 0, .int .i64 0, .int .i64 0, .int .i64 0, .float .f64 0, v, u2, .slice none 0 0, .slice none 0 0] v u2 (List.replicate C A) (List.replicate C 0)) := by
              have e : i = C := by omega
              exact e ▸ HS.out
            clear HS hlt hi
            obtain ⟨wo, wk, rfl, q1, r1⟩ := HS2.out.ov.rd (by simp; omega) (fun u hu => by rw [List.eq_of_mem_replicate hu]; exact HAF.out.1)
            obtain ⟨bo, bk, rfl, q2, r2⟩ := HS2.out.ou.rd (by simp; omega) (fun u hu => by rw [List.eq_of_mem_replicate hu]; omega)
            rw [List.length_replicate] at r1 r2
            have HA0 : Hid (AS w wr w.heap.size W8.heap.size W9.heap.size #[.int .i64 (C : Int), .int .i64 (H : Int), .int .i64 (K : Int)] #[.int .i64 (C : Int), .int .i64 (H : Int), .int .i64 (K : Int)] #[.int .i64 4, .int .i64 0, .int .i64 1, .int .i64 1, .int .i64 1, .int .i64 1, .int .i64 0, .int .i64 0, .int .i64 0, .float .f64 A, .slice none 0 0, .slice none 0 0, .slice none 0 0, .slice none 0 0] #[.int .i64 3, .int .i64 0, .int .i64 0, .int .i64 0, .int .i64 0, .int .i64 0, .int .i64 0, .int .i64 0, .int .i64 0, .float .f64 0, .slice wo C wk, .slice bo C bk, .slice none 0 0, .slice none 0 0]) := by
              have hs := HS2.out.s
              rw [List.length_replicate, List.length_replicate] at hs
              exact ⟨HS2.out.bel, HS2.out.x, HS2.out.x, HS2.out.m, hs⟩
            have HR0 : Hid (RdF wr wo C wk (List.replicate C A) ∧ RdF wr bo C bk (List.replicate C 0)) := ⟨r1, r2⟩
            clear HS2 q1 q2 r1 r2
            go_wp2_with fail
            clear x0 hd hd'
            go_loopg [20] n (fun g u wx => ∃ i : Nat, u = .int .i64 i ∧ i + g = n ∧ Hid (AS w wx w.heap.size W8.heap.size W9.heap.size #[.int .i64 (C : Int), .int .i64 (H : Int), .int .i64 (K : Int)] #[.int .i64 (C : Int), .int .i64 (H : Int), .int .i64 (K : Int)] #[.int .i64 4, .int .i64 0, .int .i64 1, .int .i64 1, .int .i64 1, .int .i64 1, .int .i64 0, .int .i64 0, .int .i64 0, .float .f64 A, .slice none 0 0, .slice none 0 0, .slice none 0 0, .slice none 0 0] #[.int .i64 3, .int .i64 0, .int .i64 0, .int .i64 0, .int .i64 0, .int .i64 0, .int .i64 0, .int .i64 0, .int .i64 0, .float .f64 0, .slice wo C wk, .slice bo C bk, .slice none 0 0, .slice none 0 0]) ∧ Hid (RdF wx wo C wk (List.replicate C A) ∧ RdF wx bo C bk (List.replicate C 0)))
            case atStart => exact ⟨0, rfl, by omega, HA0, HR0⟩
            case round =>
              clear HA0 HR0
              obtain ⟨i, rfl, hi, HA, HR⟩ := hrel
              by_cases hlt : i < n
              · have hd : decide ((i : Int) < (n : Int)) = true := decide_eq_true (by omega)
                obtain ⟨g, rfl⟩ : ∃ g, gk = g + 1 := ⟨gk - 1, by omega⟩
                obtain ⟨t0, t1, t2⟩ := cells3 HA.out.x
                have HCL : Hid _ := alikeMS C H K n i hC hH hK hn hn2 hlt A HAF.out.1 HAF.out.2 wo bo wk bk wr HR.out.1 HR.out.2
                go_wp2_with (first
                  | (refine wpList_load_row (by rfl) 30 _ (by rfl) W8.heap.size _ (by rfl) HA.out.c _ Try.underlying30 rfl 14 Try.infoLy (by rfl) ?_)
                  | (refine wpList_load_row (by rfl) 30 _ (by rfl) W9.heap.size _ (by rfl) HA.out.d _ Try.underlying30 rfl 14 Try.infoLy (by rfl) ?_)
                  | (go_at_call 11; refine Calls.mono HCL.out ?_; rintro e W7 ⟨rfl, b7⟩))
                have HA7 : Hid _ := AS.later HA.out b7
                have HR7 : Hid (RdF W7 wo C wk (List.replicate C A) ∧ RdF W7 bo C bk (List.replicate C 0)) := ⟨HR.out.1.later b7, HR.out.2.later b7⟩
                clear b7 t0 t1 t2 HCL
                go_roundg g
                case measure => omega
                case rel => exact ⟨i + 1, by go_num, by omega, HA7, HR7⟩
              · have hd : decide ((i : Int) < (n : Int)) = false := decide_eq_false (by omega)
                have hd' : decide (i < n) = false := decide_eq_false (by omega)
                go_wp2_with fail
                go_ret
                exact ⟨rfl, HA.out.bel⟩
      · have HSZ : Hid _ := hSz
        clear hSz
        go_wp2_with (first | (go_at_call 12; refine Calls.mono (HSZ.out _) ?_; rintro e W8 ⟨rfl, b8⟩))
        go_ret
        exact ⟨rfl, to_call HA.out.bel b8⟩
end Go.Proofs.Ytmbnbleahehdaaa
