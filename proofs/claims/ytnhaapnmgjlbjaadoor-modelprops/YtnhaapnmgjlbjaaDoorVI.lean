import Derived.Test.YtnhaapnmgjlbjaaDoorVH
namespace Go.Proofs.YtnhaapnmgjlbjaaDoor
open Go.RowKit
set_option linter.unusedVariables false

set_option maxRecDepth 100000 in
set_option maxHeartbeats 1000000 in
theorem listsStand_any (base : Nat) (v : Value) (uss : List (List Nat)) (bo : Option Addr) (bcap : Nat) (w : World) (h : MkL w base v uss) (h' : RdUU w bo uss.length bcap uss) :
    Calls Tryd.prog 33 #[v, .slice bo uss.length bcap] w fun e w' => e = .returned (.bool true) ∧ Below w.heap.size w w' := by
  obtain ⟨G, cap, cur, rfl, _, hh, hcap, hcm, hl300, hcs, m, hcn, hm⟩ := h
  have HS : Hid _ := h'
  have HCS : Hid _ := hcs
  have HHH : Hid _ := hh
  have hmx := maxLen_le
  have hgl := blk_lt hh
  have hm0 : w.cell? ⟨G, uss.length, none⟩ = some (.slice (some ⟨m, 0, none⟩) 1 1) := (cell_of_row _ G _ _ _ _ hh).trans hcn
  have hm1 : w.cell? ⟨m, 0, none⟩ = some (.float .f64 13852790978814935040) := cell_of_row _ m _ _ _ _ hm
  have hsl : ∀ w, (Instr.slice 25 (.slice (some ⟨G, 0, none⟩) uss.length cap) none (some (.int .i64 ((uss.length : Int) + 1))) none).run Tryd.prog w = .ok (.slice (some ⟨G, 0, none⟩) (uss.length + 1) cap) w := by
    intro w
    have := cutFs (some ⟨G, 0, none⟩) uss.length cap (uss.length + 1) (by omega) w
    rw [if_neg (by omega), Option.map_some, add_zero'] at this
    exact this
  obtain ⟨n, hn⟩ : ∃ n, uss.length = n := ⟨_, rfl⟩
  rw [hn] at hsl hm0 HS HCS hl300 hcap ⊢
  have hnm := neqMark31
  have hw1 : wrap64 ((n : Int) + 1) = (n : Int) + 1 := w64 _ (by omega)
  have hcm2 : cap ≤ 9223372036854775807 := Nat.le_trans hcm hmx
  clear h' hh hcs hcn hn hcm hmx hm
  go_enter Tryd.func33, Tryd.ntmps33
  go_wp2_with fail
  go_loopg [6] n (fun gg iv wx => ∃ k : Nat, iv = .int .i64 k ∧ k + gg = n ∧ Hid (Below w.heap.size w wx))
  case atStart => exact ⟨0, rfl, by omega, Below.refl _ _⟩
  case round =>
    obtain ⟨k, rfl, hk, HB⟩ := hrel
    by_cases hlt : k < n
    · have hd : decide ((k : Int) < (n : Int)) = true := decide_eq_true (by omega)
      obtain ⟨gg, rfl⟩ : ∃ gg, gk = gg + 1 := ⟨gk - 1, by omega⟩
      rcases (HS.out.later HB.out).cells with h0 | ⟨b', off', rfl, hc'⟩
      · omega
      obtain ⟨u, hu1, hu2⟩ := HCS.out k hlt
      have g0 : wr.cell? ⟨G, k, none⟩ = some u := by
        rw [HB.out.cell (p := ⟨G, k, none⟩) hgl]
        exact (cell_of_row _ G _ _ _ _ HHH.out).trans hu1
      obtain ⟨dj, ej, g1, r1⟩ := hc' k hlt
      obtain ⟨us, hus⟩ : ∃ us, uss[k]?.getD [] = us := ⟨_, rfl⟩
      rw [hus] at g1 r1 hu2
      have hu3 := hu2.later HB.out
      have HC : Hid (∀ wx, Below wr.heap.size wr wx → Calls Tryd.prog 32 #[u, .slice dj us.length ej] wx fun e w' => e = .returned (.bool true) ∧ Below wx.heap.size wx w') := fun wx hb => stand_any base u us dj ej wx (hu3.later hb) (r1.later hb)
      obtain ⟨g3, l3, c3, rfl⟩ := hu3.sl
      have l0 := World.block_lt_of_cell? wr _ g0
      have l1 := World.block_lt_of_cell? wr _ g1
      generalize us.length = q at *
      have HCC : Hid (∀ wx wy, Below wr.heap.size wr wx → Below wx.heap.size wx wy → Below wr.heap.size wr wy ∧ wy.cell? ⟨G, k, none⟩ = some (.slice (some ⟨g3, 0, none⟩) l3 c3) ∧ wy.cell? ⟨b', off' + k, none⟩ = some (.slice dj q ej)) := by
        intro wx wy q1 q2
        have q := to_call q1 q2
        exact ⟨q, by rw [q.cell (p := ⟨G, k, none⟩) l0]; exact g0, by rw [q.cell (p := ⟨b', off' + k, none⟩) l1]; exact g1⟩
      have hx1 : (0 : Int) ≤ (k : Int) := by omega
      have hx2 : (k : Int) < (n : Int) := by omega
      clear hc' hus r1 hu1 hu2 hu3
      go_upto_region 7 with fail
      go_region_held3 (fun w' => w'.cell? ⟨G, k, none⟩ = some (.slice (some ⟨g3, 0, none⟩) l3 c3) ∧ w'.cell? ⟨b', off' + k, none⟩ = some (.slice dj q ej)) (go_keep) ((first | (go_at_call 32; refine Calls.mono (HC.out _ (Below.refl _ _).drew) ?_; rintro e x1 ⟨rfl, bx1⟩; obtain ⟨q1, s0, s1⟩ := HCC.out _ x1 (Below.refl _ _).drew bx1)))
      go_wp2
      go_roundg gg
      case measure => omega
      case rel => exact ⟨k + 1, by go_num, by omega, to_call HB.out q1⟩
    · have hd : decide ((k : Int) < (n : Int)) = false := decide_eq_false (by omega)
      go_wp2
      go_ret
      exact ⟨rfl, HB.out⟩
set_option maxRecDepth 100000 in
set_option maxHeartbeats 2000000 in
theorem sameProp_any (ao bo eo ao' bo' eo' : Option Addr) (cn gn ln ac bc ec ac' bc' ec' : Nat) (cs : List Nat) (gs ls : List (List Nat)) (t K D L : Int) (w : World)
    (h1 : RdU w ao cn ac cs) (h1' : RdU w ao' cn ac' cs) (h2 : RdUU w bo gn bc gs) (h2' : RdUU w bo' gn bc' gs) (h3 : RdUU w eo ln ec ls) (h3' : RdUU w eo' ln ec' ls) :
    Calls Tryd.prog 31 #[.agg #[(.slice ao cn ac), (.slice bo gn bc), .int .i64 t, (.slice eo ln ec), .int .i64 K, .int .i64 D, .int .i64 L], .agg #[(.slice ao' cn ac'), (.slice bo' gn bc'), .int .i64 t, (.slice eo' ln ec'), .int .i64 K, .int .i64 D, .int .i64 L]] w fun e w' => e = .returned (.bool true) ∧ Below w.heap.size w w' := by
  have H1 : Hid (∀ wx, Below w.heap.size w wx → Calls Tryd.prog 43 #[.slice ao cn ac, .slice ao' cn ac'] wx fun e w' => e = .returned (.bool true) ∧ Below wx.heap.size wx w') := fun wx hb => sameList_any ao ao' cn ac ac' cs wx (h1.later hb) (h1'.later hb)
  have H2 : Hid (∀ wx, Below w.heap.size w wx → Calls Tryd.prog 44 #[.slice bo gn bc, .slice bo' gn bc'] wx fun e w' => e = .returned (.bool true) ∧ Below wx.heap.size wx w') := fun wx hb => sameLists_any bo bo' gn bc bc' gs wx (h2.later hb) (h2'.later hb)
  have H3 : Hid (∀ wx, Below w.heap.size w wx → Calls Tryd.prog 44 #[.slice eo ln ec, .slice eo' ln ec'] wx fun e w' => e = .returned (.bool true) ∧ Below wx.heap.size wx w') := fun wx hb => sameLists_any eo eo' ln ec ec' ls wx (h3.later hb) (h3'.later hb)
  clear h1 h1' h2 h2' h3 h3'
  go_enter Tryd.func31, Tryd.ntmps31
  go_upto_region 1 with fail
  have k0 := alloc_kept (heap_alloc_new w (Obj.cells #[(.slice ao cn ac), (.slice bo gn bc), .int .i64 t, (.slice eo ln ec), .int .i64 K, .int .i64 D, .int .i64 L] 32)) (Obj.cells #[(.slice ao' cn ac'), (.slice bo' gn bc'), .int .i64 t, (.slice eo' ln ec'), .int .i64 K, .int .i64 D, .int .i64 L] 32)
  have k1 := heap_at (w.alloc (Obj.cells #[(.slice ao cn ac), (.slice bo gn bc), .int .i64 t, (.slice eo ln ec), .int .i64 K, .int .i64 D, .int .i64 L] 32)) (Obj.cells #[(.slice ao' cn ac'), (.slice bo' gn bc'), .int .i64 t, (.slice eo' ln ec'), .int .i64 K, .int .i64 D, .int .i64 L] 32) (w.heap.size + 1) (by simp only [alloc_size])
  have hb0 := ((Below.refl _ w).alloc (Nat.le_refl _) (Obj.cells #[(.slice ao cn ac), (.slice bo gn bc), .int .i64 t, (.slice eo ln ec), .int .i64 K, .int .i64 D, .int .i64 L] 32)).alloc (by simp only [alloc_size]; omega) (Obj.cells #[(.slice ao' cn ac'), (.slice bo' gn bc'), .int .i64 t, (.slice eo' ln ec'), .int .i64 K, .int .i64 D, .int .i64 L] 32)
  obtain ⟨W0, hW0⟩ : ∃ W0, (w.alloc (Obj.cells #[(.slice ao cn ac), (.slice bo gn bc), .int .i64 t, (.slice eo ln ec), .int .i64 K, .int .i64 D, .int .i64 L] 32)).alloc (Obj.cells #[(.slice ao' cn ac'), (.slice bo' gn bc'), .int .i64 t, (.slice eo' ln ec'), .int .i64 K, .int .i64 D, .int .i64 L] 32) = W0 := ⟨_, rfl⟩
  rw [hW0] at k0 k1 hb0 ⊢
  clear hW0
  have HB0 : Hid (Below w.heap.size w W0) := hb0
  have HK0 : Hid _ := (And.intro k0 k1)
  obtain ⟨a0, a1, a2, a3, a4, a5, a6⟩ := cells7 k0
  obtain ⟨b0, b1, b2, b3, b4, b5, b6⟩ := cells7 k1
  clear k0 k1 hb0
  go_wp2_with fail
  refine Calls.mono (H1.out _ HB0.out) ?_
  rintro e W1 ⟨rfl, bb⟩
  have HB1 : Hid (Below w.heap.size w W1) := to_call HB0.out bb
  have HK1 : Hid _ := (And.intro (kept bb HK0.out.1) (kept bb HK0.out.2))
  clear bb HK0 HB0 H1 a0 a1 a2 a3 a4 a5 a6 b0 b1 b2 b3 b4 b5 b6
  obtain ⟨a0, a1, a2, a3, a4, a5, a6⟩ := cells7 HK1.out.1
  obtain ⟨b0, b1, b2, b3, b4, b5, b6⟩ := cells7 HK1.out.2
  go_wp2_with fail
  refine Calls.mono (H2.out _ HB1.out) ?_
  rintro e W2 ⟨rfl, bb⟩
  have HB2 : Hid (Below w.heap.size w W2) := to_call HB1.out bb
  have HK2 : Hid _ := (And.intro (kept bb HK1.out.1) (kept bb HK1.out.2))
  clear bb HK1 HB1 H2 a0 a1 a2 a3 a4 a5 a6 b0 b1 b2 b3 b4 b5 b6
  obtain ⟨a0, a1, a2, a3, a4, a5, a6⟩ := cells7 HK2.out.1
  obtain ⟨b0, b1, b2, b3, b4, b5, b6⟩ := cells7 HK2.out.2
  go_wp2_with fail
  refine Calls.mono (H3.out _ HB2.out) ?_
  rintro e W3 ⟨rfl, bb⟩
  have HB3 : Hid (Below w.heap.size w W3) := to_call HB2.out bb
  have HK3 : Hid _ := (And.intro (kept bb HK2.out.1) (kept bb HK2.out.2))
  clear bb HK2 HB2 H3 a0 a1 a2 a3 a4 a5 a6 b0 b1 b2 b3 b4 b5 b6
  obtain ⟨a0, a1, a2, a3, a4, a5, a6⟩ := cells7 HK3.out.1
  obtain ⟨b0, b1, b2, b3, b4, b5, b6⟩ := cells7 HK3.out.2
  go_wp2
  go_ret
  exact ⟨rfl, HB3.out⟩
end Go.Proofs.YtnhaapnmgjlbjaaDoor
