import Derived.Test.YtogpkigpnflaoaaDoorUG
import Derived.Deep.RegionHeld3
import Derived.Test.YtogpkigpnflaoaaDoorKQ
namespace Go.Proofs.YtogpkigpnflaoaaDoor
open Go.RowKit
set_option linter.unusedVariables false

theorem sz256 : szF [1, 1, 256] 1 = (256, 0) := by decide
theorem sz257 : szF [257, 1, 1] 1 = (0, 60) := by decide
theorem szBig : szF [4294967296, 4294967296, 1] 1 = (0, 60) := by decide
theorem sizeE {c h k n e' : Int} (hs : szF [c, h, k] 1 = (n, e')) (w : World) :
    Calls Tryd.prog 5 #[.agg #[.int .i64 c, .int .i64 h, .int .i64 k]] w fun e w' => e = .returned (.tuple #[.int .i64 n, .int .i64 e']) ∧ Below w.heap.size w w' := by
  have := size_any c h k w
  rw [hs] at this
  exact this
theorem RlU.later {W W' : World} {B i : Nat} (h : RlU W B i) (hb : Below W.heap.size W W') : RlU W' B i := by
  obtain ⟨cur, h1, r⟩ := h
  exact ⟨cur, kept hb h1, r⟩
theorem Tryd.elemLy : Tryd.prog.elem 28 = 33 := by kernel_rfl
theorem sizeLy (w : World) : (sizeOf 33).run Tryd.prog w = .ok 14 w := by kernel_rfl
theorem cut64 (B : Nat) (w : World) : (Instr.slice 28 (.slice (some ⟨B, 0, none⟩) 65 65) none (some (.int .i64 64)) none).run Tryd.prog w = .ok (.slice (some ⟨B, 0, none⟩) 64 65) w := by
  rw [run_slice_h w _ _ _ _ (by rw [Tryd.elemLy]; exact Tryd.underlying28) .i64 64 (by omega) (by omega), Tryd.elemLy, sizeLy]
  simp [Result.andThen, sliced, Addr.add_lit]
theorem take_d {P : Program} {md : Region.Mode} {ops : Array Oper} {Q : Exit → Act → World → Prop} (d : Nat) {i : Nat} {oi : Oper} {v : Value} {fuel : Nat} {listed : Array Bool} {a : Act} {w : World} (hi : ops[i]? = some oi) (hd : oi.dst = some d)
    (hs : Region.noSelect ops = true) (hf : Region.free md ops listed i = true) (hr : (Region.ready md ops listed).contains i = true)
    (hQ : ∀ c a w, Q (.panic c) (a.put (some d) v) w → Q (.panic c) a w) (hy : Yields P ops oi v a)
    (h : wpAny P md ops Q fuel (listed.setIfInBounds i true) (a.put (some d) v) w) : wpAny P md ops Q (fuel + 1) listed a w :=
  wpAny_take hi hs hf hr (by rw [hd]; exact hQ) hy (by rw [hd]; exact h)
set_option maxRecDepth 100000 in
set_option maxHeartbeats 40000000 in
theorem modelLimits_walk (n : Int) (w : World) (hT : U8 w) : Calls Tryd.prog 3 #[.int .i64 n] w fun e w' => e = .returned (.bool true) ∧ Below w.heap.size w w' := by
  have HT : Hid (U8 w) := hT
  clear hT
  go_enter Tryd.func3, Tryd.ntmps3
  go_wp2_with fail
  refine Calls.mono (told_any _ HT.out) ?_
  rintro e w1 ⟨rfl, hb⟩
  have HB1 : Hid (Below w.heap.size w w1) := hb
  have hs1 := hb.size
  clear hb
  go_wp2_with fail
  refine Calls.mono (sizeE sz256 _) ?_
  rintro e w2 ⟨rfl, hb⟩
  have HB2 : Hid (Below w.heap.size w w2) := to_call (HB1.out.alloc (by omega) _) hb
  have HK2 : Hid (w2.heap[w1.heap.size]? = some (.cells #[.int .i64 1, .int .i64 1, .int .i64 256] 24)) := kept hb (heap_alloc_new w1 _)
  clear hb
  go_wp2_with fail
  refine Calls.mono (sizeE sz257 _) ?_
  rintro e w3 ⟨rfl, hb⟩
  have HB3 : Hid (Below w.heap.size w w3) := to_call HB2.out hb
  have HK3 : Hid (w3.heap[w1.heap.size]? = _) := kept hb HK2.out
  clear hb HB2 HK2
  go_wp2_with fail
  refine Calls.mono (sizeE szBig _) ?_
  rintro e w4 ⟨rfl, hb⟩
  have HB4 : Hid (Below w.heap.size w w4) := to_call HB3.out hb
  have HK4 : Hid (w4.heap[w1.heap.size]? = _) := kept hb HK3.out
  clear hb HB3 HK3
  have hmk : (Instr.makeSlice 28 (.int .i64 65) (.int .i64 65)).run Tryd.prog w4 = .ok (.slice (some ⟨w4.heap.size, 0, none⟩) 65 65) (w4.alloc (.cells (lyN 65) 33)) := makeL 65 (by omega) w4
  have hs4 := HB4.out.size
  have hl1 := blk_lt HK4.out
  go_upto_region 11 with fail
  clear hmk
  go_loopg [11] 65 (fun g v wx => ∃ i : Nat, v = .int .i64 i ∧ i + g = 65 ∧ Hid (RlU wx w4.heap.size i) ∧ Hid (Below w.heap.size w wx) ∧ Hid (wx.heap[w1.heap.size]? = some (.cells #[.int .i64 1, .int .i64 1, .int .i64 256] 24)))
  case atStart => exact ⟨0, rfl, by omega, RlU.zero (heap_alloc_new w4 _), HB4.out.alloc (by omega) _, alloc_kept HK4.out _⟩
  case round =>
    obtain ⟨i, rfl, hi, HRU, HB, HK⟩ := hrel
    by_cases hlt : i < 65
    · have hd : decide ((i : Int) < 65) = true := decide_eq_true (by omega)
      obtain ⟨g, rfl⟩ : ∃ g, gk = g + 1 := ⟨gk - 1, by omega⟩
      obtain ⟨cur, u1, u2, u3⟩ := HRU.out
      have U3 : Hid _ := u3
      have U1 : Hid _ := u1
      clear u1 u3 HRU
      go_wp2_with (first | (refine wpList_store_at (by rfl) 3 _ _ (by rfl) w w.heap.size w4.heap.size (i * 14) (.int .i64 7) cur _ 33 (by rfl) (by rfl) U1.out HB.out (by omega) 1 Tryd.infoInt (by rfl) (by omega) (by exact one_int _) (by rfl) ?_; intro W5 e5 hb5 hs5 ho5))
      go_roundg g
      case measure => omega
      case rel => exact ⟨i + 1, by go_num, by omega, RlU.step (W := wr) hlt u2 U3.out e5, hb5, (ho5 _ (by omega)).trans HK.out⟩
    · have hd : decide ((i : Int) < 65) = false := decide_eq_false (by omega)
      obtain rfl : i = 65 := by omega
      have hcut := cut64 w4.heap.size
      obtain ⟨q0, q1, q2⟩ := cells3 HK.out
      have HC64 : Hid (∀ wx, Below wr.heap.size wr wx → Calls Tryd.prog 6 #[.agg #[.int .i64 1, .int .i64 1, .int .i64 256, .slice (some ⟨w4.heap.size, 0, none⟩) 64 65, .slice none 0 0]] wx fun e w' => e = .returned (.tuple #[.int .i64 0, .int .i64 0]) ∧ Below wx.heap.size wx w') := fun wx hb => relus64 wx w4.heap.size 65 (HRU.out.later hb) sz256
      have HCC : Hid (∀ wx wy, Below wr.heap.size wr wx → Below wx.heap.size wx wy → Below wr.heap.size wr wy ∧ wy.cell? ⟨w1.heap.size, 0, none⟩ = some (.int .i64 1) ∧ wy.cell? ⟨w1.heap.size, 1, none⟩ = some (.int .i64 1) ∧ wy.cell? ⟨w1.heap.size, 2, none⟩ = some (.int .i64 256)) := by
        intro wx wy q1 q2
        have q := to_call q1 q2
        exact ⟨q, cells3 (kept q HK.out)⟩
      have HBr : Hid (Below w.heap.size w wr) := HB
      go_upto_region 14 with fail
      go_region_held3 (fun w' => w'.cell? ⟨w1.heap.size, 0, none⟩ = some (.int .i64 1) ∧ w'.cell? ⟨w1.heap.size, 1, none⟩ = some (.int .i64 1) ∧ w'.cell? ⟨w1.heap.size, 2, none⟩ = some (.int .i64 256)) (go_keep) ((first | (go_at_call 6; refine Calls.mono (HC64.out _ (Below.refl _ _).drew) ?_; rintro e x1 ⟨rfl, bx1⟩; obtain ⟨y1, s0, s1, s2⟩ := HCC.out _ x1 (Below.refl _ _).drew bx1)))
      have HX1 : Hid (Below w.heap.size w x1) := to_call HBr.out y1
      have HKx : Hid (x1.heap[w1.heap.size]? = _) := kept y1 HK.out
      go_wp2_with fail
      refine Calls.mono (relus65 _ _ 65 sz256) ?_
      rintro e w6 ⟨rfl, hb⟩
      have HB6 : Hid (Below w.heap.size w w6) := to_call HX1.out hb
      have HK6 : Hid (w6.heap[w1.heap.size]? = _) := kept hb HKx.out
      have hs6 := HB6.out.size
      have hl6 := blk_lt HK6.out
      clear hb hcut HC64 HCC HRU HB HK q0 q1 q2 s0 s1 s2 bx1 y1 HX1 HKx HBr HB4 HK4
      go_upto_region 18 with fail
      go_cut [13] (fun s13 wx => ∃ D gw gb : Nat, s13 = .pointer (some ⟨D, 0, none⟩) ∧ Hid (wx.heap[D]? = some (.cells #[.int .i64 1, .int .i64 255, .int .i64 0, .int .i64 0, .int .i64 0, .int .i64 0, .int .i64 0, .int .i64 0, .int .i64 0, .float .f64 0, .slice (some ⟨gw, 0, none⟩) 65280 65280, .slice (some ⟨gb, 0, none⟩) 255 255, .slice none 0 0, .slice none 0 0] 33)) ∧ Hid (wx.heap[gw]? = some (.cells (flN 65280) 29)) ∧ Hid (wx.heap[gb]? = some (.cells (flN 255) 29)) ∧ Hid (Below w6.heap.size w6 wx))
      case first =>
        have hm1 : ∀ w, (Instr.makeSlice 30 (.int .i64 65280) (.int .i64 65280)).run Tryd.prog w = .ok (.slice (some ⟨w.heap.size, 0, none⟩) 65280 65280) (w.alloc (.cells (flN 65280) 29)) := fun w => makeF 65280 (by omega) w
        have hm2 : ∀ w, (Instr.makeSlice 30 (.int .i64 255) (.int .i64 255)).run Tryd.prog w = .ok (.slice (some ⟨w.heap.size, 0, none⟩) 255 255) (w.alloc (.cells (flN 255) 29)) := fun w => makeF 255 (by omega) w
        refine wp_region_any (by kernel_rfl) ?_
        refine litRegion 33 _ _ _ _ _ 0 1 2 3 4 84 85 86 13 65280 255 (fun a b c d e => #[a, b, c, d, e]) _ w6 (.cells (flN 65280) 29) (.cells (flN 255) 29) ZL (fun g0 g1 => dnL 255 65280 255 g0 g1) _ _ 14 rfl rfl rfl rfl rfl rfl rfl rfl rfl rfl rfl rfl rfl rfl rfl (by decide) (by decide) (by decide) (by decide) (fun _ _ _ _ => rfl) (fun _ _ _ _ => rfl) (fun _ _ _ _ => rfl) (fun _ _ _ _ => rfl) (fun _ _ _ _ => rfl) (by kernel_rfl) (by kernel_rfl) (by kernel_rfl) (by kernel_rfl) (by kernel_rfl) (by kernel_rfl) (by kernel_rfl) (by kernel_rfl) (by kernel_rfl) (by kernel_rfl) (by kernel_rfl) (by intro g0 g1 D W; exact ex_make _ _ _ _ rfl (.int .i64 65280) (.int .i64 65280) (by kernel_rfl) (by kernel_rfl) _ _ _ (hm1 W)) (by intro g0 g1 D W; exact ex_make _ _ _ _ rfl (.int .i64 65280) (.int .i64 65280) (by kernel_rfl) (by kernel_rfl) _ _ _ (hm1 W)) (by intro g0 g1 D W; exact ex_make _ _ _ _ rfl (.int .i64 65280) (.int .i64 65280) (by kernel_rfl) (by kernel_rfl) _ _ _ (hm1 W)) (by intro g0 g1 D W; exact ex_make _ _ _ _ rfl (.int .i64 65280) (.int .i64 65280) (by kernel_rfl) (by kernel_rfl) _ _ _ (hm1 W)) (by intro g0 g1 D W; exact ex_make _ _ _ _ rfl (.int .i64 255) (.int .i64 255) (by kernel_rfl) (by kernel_rfl) _ _ _ (hm2 W)) (by intro g0 g1 D W; exact ex_make _ _ _ _ rfl (.int .i64 255) (.int .i64 255) (by kernel_rfl) (by kernel_rfl) _ _ _ (hm2 W)) (by intro g0 g1 D W; exact ex_make _ _ _ _ rfl (.int .i64 255) (.int .i64 255) (by kernel_rfl) (by kernel_rfl) _ _ _ (hm2 W)) (by intro g0 g1 D W; exact ex_make _ _ _ _ rfl (.int .i64 255) (.int .i64 255) (by kernel_rfl) (by kernel_rfl) _ _ _ (hm2 W)) (by intro b W; exact ex_alloc _ _ rfl _ _ _ (alloc_lay W)) (by intro g0 g1 D W; exact ex_build _ _ _ rfl #[(0, .int .i64 1), (1, .int .i64 255), (10, .slice (some ⟨g0, 0, none⟩) 65280 65280), (11, .slice (some ⟨g1, 0, none⟩) 255 255)] (by kernel_rfl) _ _ (build_dn 255 65280 255 g0 g1 W)) (by intro g0 g1 D W; exact ex_build _ _ _ rfl #[(0, .int .i64 1), (1, .int .i64 255), (10, .slice (some ⟨g0, 0, none⟩) 65280 65280), (11, .slice (some ⟨g1, 0, none⟩) 255 255)] (by kernel_rfl) _ _ (build_dn 255 65280 255 g0 g1 W)) (by rfl) (by intro g0 g1 D; kernel_rfl) (by intro g0 g1 D; kernel_rfl) Tryd.infoLayer (fun _ _ => rfl) rfl (fun _ _ => one14 ..) ?_ _ (Below.refl _ _).drew
        intro W g0 g1 D hb q0 q1 q3 l0 l1 l3
        go_wp2_with fail
        go_meet
        exact ⟨D, g0, g1, rfl, q3, q0, q1, hb⟩
      obtain ⟨D, gw, gb, rfl, HD, HW, HG, HBc⟩ := hcut
      have HB7 : Hid (Below w.heap.size w wc) := to_call HB6.out HBc.out
      have HK7 : Hid (wc.heap[w1.heap.size]? = some (.cells #[.int .i64 1, .int .i64 1, .int .i64 256] 24)) := kept HBc.out HK6.out
      clear HB6 HK6 HBc hs6 hl6
      obtain ⟨W7, hW7⟩ : ∃ W7, W7 = wc := ⟨_, rfl⟩
      subst hW7
      obtain ⟨N, hN, hN2⟩ := and255 n
      have hkw : IntKind.i64.wrap (1 + (N : Int)) = ((N + 1 : Nat) : Int) := by rw [IntKind.wrap_i64]; omega
      go_upto_region 20 with fail
      go_cut [15] (fun s15 wx => ∃ D2 gv gu : Nat, s15 = .pointer (some ⟨D2, 0, none⟩) ∧ Hid (wx.heap[D2]? = some (.cells #[.int .i64 1, .int .i64 1, .int .i64 0, .int .i64 0, .int .i64 0, .int .i64 0, .int .i64 0, .int .i64 0, .int .i64 0, .float .f64 0, .slice (some ⟨gv, 0, none⟩) 255 255, .slice (some ⟨gu, 0, none⟩) 1 1, .slice none 0 0, .slice none 0 0] 33)) ∧ Hid (wx.heap[gv]? = some (.cells (flN 255) 29)) ∧ Hid (wx.heap[gu]? = some (.cells (flN 1) 29)) ∧ Hid (Below W7.heap.size W7 wx))
      case first =>
        have hm1 : ∀ w, (Instr.makeSlice 30 (.int .i64 255) (.int .i64 255)).run Tryd.prog w = .ok (.slice (some ⟨w.heap.size, 0, none⟩) 255 255) (w.alloc (.cells (flN 255) 29)) := fun w => makeF 255 (by omega) w
        have hm2 : ∀ w, (Instr.makeSlice 30 (.int .i64 1) (.int .i64 1)).run Tryd.prog w = .ok (.slice (some ⟨w.heap.size, 0, none⟩) 1 1) (w.alloc (.cells (flN 1) 29)) := fun w => makeF 1 (by omega) w
        refine wp_region_any (by kernel_rfl) ?_
        refine litRegion 33 _ _ _ _ _ 0 1 2 3 4 90 91 92 15 255 1 (fun a b c d e => #[a, b, c, d, e]) _ W7 (.cells (flN 255) 29) (.cells (flN 1) 29) ZL (fun g0 g1 => dnL 1 255 1 g0 g1) _ _ 14 rfl rfl rfl rfl rfl rfl rfl rfl rfl rfl rfl rfl rfl rfl rfl (by decide) (by decide) (by decide) (by decide) (fun _ _ _ _ => rfl) (fun _ _ _ _ => rfl) (fun _ _ _ _ => rfl) (fun _ _ _ _ => rfl) (fun _ _ _ _ => rfl) (by kernel_rfl) (by kernel_rfl) (by kernel_rfl) (by kernel_rfl) (by kernel_rfl) (by kernel_rfl) (by kernel_rfl) (by kernel_rfl) (by kernel_rfl) (by kernel_rfl) (by kernel_rfl) (by intro g0 g1 D W; exact ex_make _ _ _ _ rfl (.int .i64 255) (.int .i64 255) (by kernel_rfl) (by kernel_rfl) _ _ _ (hm1 W)) (by intro g0 g1 D W; exact ex_make _ _ _ _ rfl (.int .i64 255) (.int .i64 255) (by kernel_rfl) (by kernel_rfl) _ _ _ (hm1 W)) (by intro g0 g1 D W; exact ex_make _ _ _ _ rfl (.int .i64 255) (.int .i64 255) (by kernel_rfl) (by kernel_rfl) _ _ _ (hm1 W)) (by intro g0 g1 D W; exact ex_make _ _ _ _ rfl (.int .i64 255) (.int .i64 255) (by kernel_rfl) (by kernel_rfl) _ _ _ (hm1 W)) (by intro g0 g1 D W; exact ex_make _ _ _ _ rfl (.int .i64 1) (.int .i64 1) (by kernel_rfl) (by kernel_rfl) _ _ _ (hm2 W)) (by intro g0 g1 D W; exact ex_make _ _ _ _ rfl (.int .i64 1) (.int .i64 1) (by kernel_rfl) (by kernel_rfl) _ _ _ (hm2 W)) (by intro g0 g1 D W; exact ex_make _ _ _ _ rfl (.int .i64 1) (.int .i64 1) (by kernel_rfl) (by kernel_rfl) _ _ _ (hm2 W)) (by intro g0 g1 D W; exact ex_make _ _ _ _ rfl (.int .i64 1) (.int .i64 1) (by kernel_rfl) (by kernel_rfl) _ _ _ (hm2 W)) (by intro b W; exact ex_alloc _ _ rfl _ _ _ (alloc_lay W)) (by intro g0 g1 D W; exact ex_build _ _ _ rfl #[(0, .int .i64 1), (1, .int .i64 1), (10, .slice (some ⟨g0, 0, none⟩) 255 255), (11, .slice (some ⟨g1, 0, none⟩) 1 1)] (by kernel_rfl) _ _ (build_dn 1 255 1 g0 g1 W)) (by intro g0 g1 D W; exact ex_build _ _ _ rfl #[(0, .int .i64 1), (1, .int .i64 1), (10, .slice (some ⟨g0, 0, none⟩) 255 255), (11, .slice (some ⟨g1, 0, none⟩) 1 1)] (by kernel_rfl) _ _ (build_dn 1 255 1 g0 g1 W)) (by rfl) (by intro g0 g1 D; kernel_rfl) (by intro g0 g1 D; kernel_rfl) Tryd.infoLayer (fun _ _ => rfl) rfl (fun _ _ => one14 ..) ?_ _ (Below.refl _ _).drew
        intro W g0 g1 D2 hb q0 q1 q3 l0 l1 l3
        go_wp2_with fail
        go_meet
        exact ⟨D2, g0, g1, rfl, q3, q0, q1, hb⟩
      obtain ⟨D2, gv, gu, rfl, HE, HV, HU, HBd⟩ := hcut
      have HB8 : Hid (Below w.heap.size w wc) := to_call HB7.out HBd.out
      have HK8 : Hid (wc.heap[w1.heap.size]? = some (.cells #[.int .i64 1, .int .i64 1, .int .i64 256] 24)) := kept HBd.out HK7.out
      have HD8 : Hid (wc.heap[D]? = some (.cells #[.int .i64 1, .int .i64 255, .int .i64 0, .int .i64 0, .int .i64 0, .int .i64 0, .int .i64 0, .int .i64 0, .int .i64 0, .float .f64 0, .slice (some ⟨gw, 0, none⟩) 65280 65280, .slice (some ⟨gb, 0, none⟩) 255 255, .slice none 0 0, .slice none 0 0] 33)) := kept HBd.out HD.out
      have HN8 : Hid (Nts wc gw gb gv gu) := ⟨kept HBd.out HW.out, kept HBd.out HG.out, HV.out, HU.out⟩
      clear HB7 HK7 HD HW HG HV HU HBd
      have s1 := sz256
      have s2 : szF [255, 1, 1] 1 = (255, 0) := by decide
      have s3 : szF [1, 1, 1] 1 = (1, 0) := by decide
      have S1 : Hid _ := s1
      have S2 : Hid _ := s2
      have S3 : Hid _ := s3
      clear s1 s2 s3
      obtain ⟨x0, x1, x2⟩ := cells3 HK8.out
      go_wp2_with (first
        | (refine wpList_load_row (by rfl) 33 _ (by rfl) D _ (by rfl) HD8.out _ Tryd.underlying33 rfl 14 Tryd.infoLayer (by rfl) ?_)
        | (refine wpList_load_row (by rfl) 33 _ (by rfl) D2 _ (by rfl) HE.out _ Tryd.underlying33 rfl 14 Tryd.infoLayer (by rfl) ?_)
        | (refine wpl_value (by rfl) (ex_bs _ 28 2 _ (by rfl) #[(0, .agg #[.int .i64 1, .int .i64 255, .int .i64 0, .int .i64 0, .int .i64 0, .int .i64 0, .int .i64 0, .int .i64 0, .int .i64 0, .float .f64 0, .slice (some ⟨gw, 0, none⟩) 65280 65280, .slice (some ⟨gb, 0, none⟩) 255 255, .slice none 0 0, .slice none 0 0]), (1, .agg #[.int .i64 1, .int .i64 1, .int .i64 0, .int .i64 0, .int .i64 0, .int .i64 0, .int .i64 0, .int .i64 0, .int .i64 0, .float .f64 0, .slice (some ⟨gv, 0, none⟩) 255 255, .slice (some ⟨gu, 0, none⟩) 1 1, .slice none 0 0, .slice none 0 0])] (by rfl) _ _ _ (bs2 gw gb gv gu _)) ?_))
      refine Calls.mono (chk2 _ wc.heap.size gw gb gv gu (heap_alloc_new wc _) (HN8.out.later ((Below.refl _ _).alloc (Nat.le_refl _) _)) S1.out S2.out S3.out) ?_
      rintro e w9 ⟨rfl, hb⟩
      have HB9 : Hid (Below w.heap.size w w9) := to_call (HB8.out.alloc HB8.out.size _) hb
      have HK9 : Hid (w9.heap[w1.heap.size]? = some (.cells #[.int .i64 1, .int .i64 1, .int .i64 256] 24)) := kept hb (alloc_kept HK8.out _)
      have HD9 : Hid (w9.heap[D]? = some (.cells #[.int .i64 1, .int .i64 255, .int .i64 0, .int .i64 0, .int .i64 0, .int .i64 0, .int .i64 0, .int .i64 0, .int .i64 0, .float .f64 0, .slice (some ⟨gw, 0, none⟩) 65280 65280, .slice (some ⟨gb, 0, none⟩) 255 255, .slice none 0 0, .slice none 0 0] 33)) := kept hb (alloc_kept HD8.out _)
      have HE9 : Hid (w9.heap[D2]? = some (.cells #[.int .i64 1, .int .i64 1, .int .i64 0, .int .i64 0, .int .i64 0, .int .i64 0, .int .i64 0, .int .i64 0, .int .i64 0, .float .f64 0, .slice (some ⟨gv, 0, none⟩) 255 255, .slice (some ⟨gu, 0, none⟩) 1 1, .slice none 0 0, .slice none 0 0] 33)) := kept hb (alloc_kept HE.out _)
      have HN9 : Hid (Nts w9 gw gb gv gu) := (HN8.out.later ((Below.refl _ _).alloc (Nat.le_refl _) _)).later hb
      clear hb x0 x1 x2 HB8 HK8 HD8 HE HN8
      obtain ⟨x0, x1, x2⟩ := cells3 HK9.out
      go_wp2_with (first
        | (refine wpList_load_row (by rfl) 33 _ (by rfl) D _ (by rfl) HD9.out _ Tryd.underlying33 rfl 14 Tryd.infoLayer (by rfl) ?_)
        | (refine wpl_value (by rfl) (ex_bs _ 28 1 _ (by rfl) #[(0, .agg #[.int .i64 1, .int .i64 255, .int .i64 0, .int .i64 0, .int .i64 0, .int .i64 0, .int .i64 0, .int .i64 0, .int .i64 0, .float .f64 0, .slice (some ⟨gw, 0, none⟩) 65280 65280, .slice (some ⟨gb, 0, none⟩) 255 255, .slice none 0 0, .slice none 0 0])] (by rfl) _ _ _ (bs1 gw gb _)) ?_))
      refine Calls.mono (chk1 _ w9.heap.size gw gb (heap_alloc_new w9 _) (alloc_kept HN9.out.w1 _) (alloc_kept HN9.out.b1 _) S1.out S2.out) ?_
      rintro e w10 ⟨rfl, hb⟩
      have HB10 : Hid (Below w.heap.size w w10) := to_call (HB9.out.alloc HB9.out.size _) hb
      have HD10 : Hid (w10.heap[D]? = some (.cells #[.int .i64 1, .int .i64 255, .int .i64 0, .int .i64 0, .int .i64 0, .int .i64 0, .int .i64 0, .int .i64 0, .int .i64 0, .float .f64 0, .slice (some ⟨gw, 0, none⟩) 65280 65280, .slice (some ⟨gb, 0, none⟩) 255 255, .slice none 0 0, .slice none 0 0] 33)) := kept hb (alloc_kept HD9.out _)
      have HE10 : Hid (w10.heap[D2]? = some (.cells #[.int .i64 1, .int .i64 1, .int .i64 0, .int .i64 0, .int .i64 0, .int .i64 0, .int .i64 0, .int .i64 0, .int .i64 0, .float .f64 0, .slice (some ⟨gv, 0, none⟩) 255 255, .slice (some ⟨gu, 0, none⟩) 1 1, .slice none 0 0, .slice none 0 0] 33)) := kept hb (alloc_kept HE9.out _)
      clear hb x0 x1 x2 HB9 HK9 HD9 HE9 HN9 S1 S2 S3
      obtain ⟨a0, a1, a2, a3, a4, a5, a6, a7, a8, a9, a10, a11, a12, a13⟩ := cells14 HD10.out
      obtain ⟨b0, b1, b2, b3, b4, b5, b6, b7, b8, b9, b10, b11, b12, b13⟩ := cells14 HE10.out
      have hbs := bs2 gw gb gv gu
      go_wp2_with (first | (refine wpl_value (by rfl) (ex_bs _ 28 2 _ (by rfl) #[(0, .agg #[.int .i64 1, .int .i64 255, .int .i64 0, .int .i64 0, .int .i64 0, .int .i64 0, .int .i64 0, .int .i64 0, .int .i64 0, .float .f64 0, .slice (some ⟨gw, 0, none⟩) 65280 65280, .slice (some ⟨gb, 0, none⟩) 255 255, .slice none 0 0, .slice none 0 0]), (1, .agg #[.int .i64 1, .int .i64 1, .int .i64 0, .int .i64 0, .int .i64 0, .int .i64 0, .int .i64 0, .int .i64 0, .int .i64 0, .float .f64 0, .slice (some ⟨gv, 0, none⟩) 255 255, .slice (some ⟨gu, 0, none⟩) 1 1, .slice none 0 0, .slice none 0 0])] (by rfl) _ _ _ (bs2 gw gb gv gu _)) ?_))
      refine Calls.mono (wgt2 _ w10.heap.size gw gb gv gu (heap_alloc_new w10 _)) ?_
      rintro e w11 ⟨rfl, hb⟩
      have HB11 : Hid (Below w.heap.size w w11) := to_call (HB10.out.alloc HB10.out.size _) hb
      have hs11 := HB11.out.size
      clear hb a0 a1 a2 a3 a4 a5 a6 a7 a8 a9 a10 a11 a12 a13 b0 b1 b2 b3 b4 b5 b6 b7 b8 b9 b10 b11 b12 b13 hbs HB10 HD10 HE10
      obtain ⟨W8, hW8⟩ : ∃ W8, W8 = wc := ⟨_, rfl⟩
      subst hW8
      go_upto_region 27 with fail
      go_cut [16] (fun s16 wx => ∃ Pp gc gl : Nat, s16 = .pointer (some ⟨Pp, 0, none⟩) ∧ w11.heap.size ≤ Pp ∧ w11.heap.size ≤ gl ∧ w11.heap.size ≤ gc ∧ Hid (wx.heap[Pp]? = some (.cells (prL gc (N + 1) (.slice none 0 0) (.slice (some ⟨gl, 0, none⟩) 64 64) 8 8 1024) 42)) ∧ Hid (wx.heap[gc]? = some (.cells (flN (N + 1)) 29)) ∧ Hid (wx.heap[gl]? = some (.cells (clN 64) 30)) ∧ Hid (Below w11.heap.size w11 wx))
      case first =>
        have hm1 : ∀ w, (Instr.makeSlice 30 (.int .i64 ((N : Int) + 1)) (.int .i64 ((N : Int) + 1))).run Tryd.prog w = .ok (.slice (some ⟨w.heap.size, 0, none⟩) (N + 1) (N + 1)) (w.alloc (.cells (flN (N + 1)) 29)) := fun w => makeF (N + 1) (by omega) w
        have hm2 : ∀ w, (Instr.makeSlice 40 (.int .i64 64) (.int .i64 64)).run Tryd.prog w = .ok (.slice (some ⟨w.heap.size, 0, none⟩) 64 64) (w.alloc (.cells (clN 64) 30)) := fun w => makeCl 64 (by omega) w
        refine wp_region_any (by kernel_rfl) ?_
        refine take_d 130 (i := 0) (v := .int .i64 ((N : Int) + 1)) rfl rfl (by kernel_rfl) (by kernel_rfl) (by kernel_rfl) (fun _ _ _ h => h) (Or.inl ⟨by rfl, fun w => by rfl⟩) ?_
        refine litRegion 42 _ _ _ _ _ 1 2 3 4 5 131 132 133 16 (N + 1) 64 (fun a b c d e => #[true, a, b, c, d, e]) _ w11 (.cells (flN (N + 1)) 29) (.cells (clN 64) 30) ZP (fun g0 g1 => prL g0 (N + 1) (.slice none 0 0) (.slice (some ⟨g1, 0, none⟩) 64 64) 8 8 1024) _ _ 7 rfl rfl rfl rfl rfl rfl rfl rfl rfl rfl rfl rfl rfl rfl rfl (by decide) (by decide) (by decide) (by decide) (fun _ _ _ _ => rfl) (fun _ _ _ _ => rfl) (fun _ _ _ _ => rfl) (fun _ _ _ _ => rfl) (fun _ _ _ _ => rfl) (by kernel_rfl) (by kernel_rfl) (by kernel_rfl) (by kernel_rfl) (by kernel_rfl) (by kernel_rfl) (by kernel_rfl) (by kernel_rfl) (by kernel_rfl) (by kernel_rfl) (by kernel_rfl) (by intro g0 g1 D W; exact ex_make _ _ _ _ rfl (.int .i64 ((N : Int) + 1)) (.int .i64 ((N : Int) + 1)) (by kernel_rfl) (by kernel_rfl) _ _ _ (hm1 W)) (by intro g0 g1 D W; exact ex_make _ _ _ _ rfl (.int .i64 ((N : Int) + 1)) (.int .i64 ((N : Int) + 1)) (by kernel_rfl) (by kernel_rfl) _ _ _ (hm1 W)) (by intro g0 g1 D W; exact ex_make _ _ _ _ rfl (.int .i64 ((N : Int) + 1)) (.int .i64 ((N : Int) + 1)) (by kernel_rfl) (by kernel_rfl) _ _ _ (hm1 W)) (by intro g0 g1 D W; exact ex_make _ _ _ _ rfl (.int .i64 ((N : Int) + 1)) (.int .i64 ((N : Int) + 1)) (by kernel_rfl) (by kernel_rfl) _ _ _ (hm1 W)) (by intro g0 g1 D W; exact ex_make _ _ _ _ rfl (.int .i64 64) (.int .i64 64) (by kernel_rfl) (by kernel_rfl) _ _ _ (hm2 W)) (by intro g0 g1 D W; exact ex_make _ _ _ _ rfl (.int .i64 64) (.int .i64 64) (by kernel_rfl) (by kernel_rfl) _ _ _ (hm2 W)) (by intro g0 g1 D W; exact ex_make _ _ _ _ rfl (.int .i64 64) (.int .i64 64) (by kernel_rfl) (by kernel_rfl) _ _ _ (hm2 W)) (by intro g0 g1 D W; exact ex_make _ _ _ _ rfl (.int .i64 64) (.int .i64 64) (by kernel_rfl) (by kernel_rfl) _ _ _ (hm2 W)) (by intro b W; exact ex_alloc _ _ rfl _ _ _ (alloc_prop W)) (by intro g0 g1 D W; exact ex_build _ _ _ rfl #[(0, .slice (some ⟨g0, 0, none⟩) (N + 1) (N + 1)), (2, .int .i64 (-1)), (3, .slice (some ⟨g1, 0, none⟩) 64 64), (4, .int .i64 8), (5, .int .i64 8), (6, .int .i64 1024)] (by kernel_rfl) _ _ (build_pr g0 g1 (N + 1) W)) (by intro g0 g1 D W; exact ex_build _ _ _ rfl #[(0, .slice (some ⟨g0, 0, none⟩) (N + 1) (N + 1)), (2, .int .i64 (-1)), (3, .slice (some ⟨g1, 0, none⟩) 64 64), (4, .int .i64 8), (5, .int .i64 8), (6, .int .i64 1024)] (by kernel_rfl) _ _ (build_pr g0 g1 (N + 1) W)) (by rfl) (by intro g0 g1 D; kernel_rfl) (by intro g0 g1 D; kernel_rfl) Tryd.infoPr (fun _ _ => rfl) rfl (fun _ _ => one7 _ _ _ _ _ _ _ rfl rfl) ?_ _ (Below.refl _ _).drew
        intro W g0 g1 Pp hb q0 q1 q3 l0 l1 l3
        go_wp2_with fail
        go_meet
        exact ⟨Pp, g0, g1, rfl, l3, l1, l0, q3, q0, q1, hb⟩
      obtain ⟨Pp, gc, gl, rfl, lP, lL, lC, HP, HC, HL, HBc⟩ := hcut
      have HB12 : Hid (Below w.heap.size w wc) := to_call HB11.out HBc.out
      have hne1 : Pp ≠ gl := fun e => by subst e; have q := HP.out; rw [HL.out] at q; simp at q
      have hne2 : gc ≠ gl := fun e => by subst e; have q := HC.out; rw [HL.out] at q; simp at q
      clear HB11 HBc
      go_wp2_with fail
      go_loopg [17] 64 (fun g v wx => ∃ i : Nat, v = .int .i64 i ∧ i + g = 64 ∧ Hid (ClU wx gl i) ∧ Hid (Below w.heap.size w wx) ∧ Hid (wx.heap[Pp]? = some (.cells (prL gc (N + 1) (.slice none 0 0) (.slice (some ⟨gl, 0, none⟩) 64 64) 8 8 1024) 42)) ∧ Hid (wx.heap[gc]? = some (.cells (flN (N + 1)) 29)))
      case atStart => exact ⟨0, rfl, by omega, ClU.zero HL.out, HB12, HP, HC⟩
      case round =>
        obtain ⟨i, rfl, hi, HCL, HB, HPr, HCr⟩ := hrel
        have hsr := HB.out.size
        by_cases hlt : i < 64
        · have hd : decide ((i : Int) < 64) = true := decide_eq_true (by omega)
          obtain ⟨g, rfl⟩ : ∃ g, gk = g + 1 := ⟨gk - 1, by omega⟩
          obtain ⟨cu, u1, u2, u3⟩ := HCL.out
          obtain ⟨x, hx⟩ : ∃ x, cu[i]? = some x := ⟨cu[i]'(by omega), Array.getElem?_eq_getElem _⟩
          have hcl : wr.cell? ⟨gl, i, none⟩ = some x := by rw [cell_of_row _ gl i _ _ _ u1]; exact hx
          have hfr := frz u1
          have hlg := blk_lt u1
          have c3 : wr.cell? ⟨Pp, 3, none⟩ = some (.slice (some ⟨gl, 0, none⟩) 64 64) := by rw [cell_of_row _ Pp 3 _ _ _ HPr.out]; rfl
          have hm2 : ∀ w, (Instr.makeSlice 30 (.int .i64 2) (.int .i64 2)).run Tryd.prog w = .ok (.slice (some ⟨w.heap.size, 0, none⟩) 2 2) (w.alloc (.cells (flN 2) 29)) := fun w => makeF 2 (by omega) w
          have hlp := blk_lt HPr.out
          have hlc := blk_lt HCr.out
          obtain ⟨q1, q2, q3⟩ := ClU.step hlt HCL.out HB.out (by omega) hsr
          have Q1 : Hid _ := q1
          have Q2 : Hid _ := q2
          have Q3 : Hid _ := q3
          clear u1 u2 u3 hx q1 q2 q3
          rw [World.setCell_alloc_past _ _ _ _ hlg] at Q1 Q2 Q3
          go_upto_region 31 with fail
          go_region
          all_goals
            go_wp2_with fail
            go_roundg g
            case measure => omega
            case rel => exact ⟨i + 1, by go_num, by omega, Q1.out, Q2.out.drew, (Q3.out Pp hlp hne1).trans HPr.out, (Q3.out gc hlc hne2).trans HCr.out⟩
        · have hd : decide ((i : Int) < 64) = false := decide_eq_false (by omega)
          obtain rfl : i = 64 := by omega
          obtain ⟨wd, hwd0⟩ : ∃ wd, wd = wr := ⟨_, rfl⟩
          subst hwd0
          have HLd : Hid (ClU wd gl 64) := HCL.out
          have HPd : Hid (wd.heap[Pp]? = some (.cells (prL gc (N + 1) (.slice none 0 0) (.slice (some ⟨gl, 0, none⟩) 64 64) 8 8 1024) 42)) := HPr.out
          have HCd : Hid (wd.heap[gc]? = some (.cells (flN (N + 1)) 29)) := HCr.out
          have HBd : Hid (Below w.heap.size w wd) := HB.out
          have hld := blk_lt HPd.out
          have hlcd := blk_lt HCd.out
          have hm1 : ∀ w, (Instr.makeSlice 30 (.int .i64 ((N : Int) + 1)) (.int .i64 ((N : Int) + 1))).run Tryd.prog w = .ok (.slice (some ⟨w.heap.size, 0, none⟩) (N + 1) (N + 1)) (w.alloc (.cells (flN (N + 1)) 29)) := fun w => makeF (N + 1) (by omega) w
          clear HCL HPr HCr HB HP HC HL HB12
          go_wp2_with fail
          go_loopg [18] 256 (fun g v wx => ∃ (i : Nat) (vG : Value) (vs : List Value), v = .int .i64 i ∧ i + g = 256 ∧ vs.length = i ∧ Hid (GU wx wd.heap.size vG (N + 1) vs) ∧ Hid (Below w.heap.size w wx) ∧ Hid (wx.heap[Pp]? = some (.cells (prL gc (N + 1) vG (.slice (some ⟨gl, 0, none⟩) 64 64) 8 8 1024) 42)) ∧ Hid (∀ j, j < wd.heap.size → j ≠ Pp → wx.heap[j]? = wd.heap[j]?) ∧ wd.heap.size ≤ wx.heap.size)
          case atStart => exact ⟨0, _, [], rfl, by omega, rfl, GU.nil wd _ _, HBd, HPd, fun _ _ _ => rfl, Nat.le_refl _⟩
          case round =>
            obtain ⟨i, vG, vs, rfl, hi, hvl, HGU, HB, HPr, HKE, hwd⟩ := hrel
            have hlp := blk_lt HPr.out
            by_cases hlt : i < 256
            · have hd : decide ((i : Int) < 256) = true := decide_eq_true (by omega)
              obtain ⟨g, rfl⟩ : ∃ g, gk = g + 1 := ⟨gk - 1, by omega⟩
              have c1 : wr.cell? ⟨Pp, 1, none⟩ = some vG := by rw [cell_of_row _ Pp 1 _ _ _ HPr.out]; rfl
              go_upto_region 35 with fail
              refine wp_region_any (by kernel_rfl) ?_
              refine take_d 147 (i := 0) (v := (.pointer (some ⟨Pp, 1, none⟩))) rfl rfl (by kernel_rfl) (by kernel_rfl) (by kernel_rfl) (fun _ _ _ h => h) (Or.inl ⟨by rfl, fun w => by kernel_rfl⟩) ?_
              refine take_d 149 (i := 2) (v := (.int .i64 ((N : Int) + 1))) rfl rfl (by kernel_rfl) (by kernel_rfl) (by kernel_rfl) (fun _ _ _ h => h) (Or.inl ⟨by rfl, fun w => by kernel_rfl⟩) ?_
              refine appRegion _ _ _ _ _ _ 1 3 4 5 6 7 148 150 151 152 153 (fun l m b c p s => #[true, l, true, m, b, c, p, s]) _ wr vs (N + 1) Pp 1 wd.heap.size vG _ _ _ _ (prL gc (N + 1) vG (.slice (some ⟨gl, 0, none⟩) 64 64) 8 8 1024) (fun v => (prL gc (N + 1) v (.slice (some ⟨gl, 0, none⟩) 64 64) 8 8 1024)) 42 w w.heap.size rfl rfl rfl rfl rfl rfl rfl rfl rfl rfl rfl rfl rfl rfl rfl rfl rfl rfl (by decide) (by decide) (fun _ _ _ _ _ => rfl) (fun _ _ _ _ _ => rfl) (fun _ _ _ _ _ => rfl) (fun _ _ _ _ _ => rfl) (fun _ _ _ _ _ => rfl) (fun _ _ _ _ _ => rfl) (by kernel_rfl) (by kernel_rfl) (by kernel_rfl) (by kernel_rfl) (by kernel_rfl) (by kernel_rfl) (by kernel_rfl) (by kernel_rfl) (by kernel_rfl) (by intro gm gb W hb; exact ex_loadS _ _ rfl ⟨Pp, 1, none⟩ (by kernel_rfl) vG W (by rw [hb.cell (p := ⟨Pp, 1, none⟩) hlp]; exact c1)) (by intro gm gb W hb; exact ex_loadS _ _ rfl ⟨Pp, 1, none⟩ (by kernel_rfl) vG W (by rw [hb.cell (p := ⟨Pp, 1, none⟩) hlp]; exact c1)) (by intro gm gb W hb; exact ex_loadS _ _ rfl ⟨Pp, 1, none⟩ (by kernel_rfl) vG W (by rw [hb.cell (p := ⟨Pp, 1, none⟩) hlp]; exact c1)) (by intro gm gb W; exact ex_make _ _ _ _ rfl (.int .i64 ((N : Int) + 1)) (.int .i64 ((N : Int) + 1)) (by kernel_rfl) (by kernel_rfl) _ _ _ (hm1 W)) (by intro gm gb W; exact ex_make _ _ _ _ rfl (.int .i64 ((N : Int) + 1)) (.int .i64 ((N : Int) + 1)) (by kernel_rfl) (by kernel_rfl) _ _ _ (hm1 W)) (by intro gm gb W; exact ex_bs _ _ 1 _ rfl #[(0, .slice (some ⟨gm, 0, none⟩) (N + 1) (N + 1))] (by kernel_rfl) _ _ _ (bsS _ _ _ W)) (by intro gm gb W; exact ex_bs _ _ 1 _ rfl #[(0, .slice (some ⟨gm, 0, none⟩) (N + 1) (N + 1))] (by kernel_rfl) _ _ _ (bsS _ _ _ W)) (by rfl) (by intro gm gb; exact ⟨by kernel_rfl, by kernel_rfl⟩) (by rfl) (by intro v2 gm gb; exact ⟨by kernel_rfl, by kernel_rfl⟩) (by intro v2 gm gb W; kernel_rfl) HGU.out.own (by omega) hwd HPr.out (by decide) (by decide) (Nat.le_of_ble_eq_true rfl) (by intro v hv; rw [hv]; rfl) HB.out (by omega) (by omega) ?_ _ (Below.refl _ _).drew
              intro W v2 gm gb hb o2 q2 k2 t2 z2
              have HGN : Hid (GU W wd.heap.size v2 (N + 1) (vs ++ [Value.slice (some ⟨gm, 0, none⟩) (N + 1) (N + 1)])) := HGU.out.snoc2 o2 q2 fun j cu hj => t2 j (blk_lt hj) (fun e => by subst e; have q := HPr.out; rw [hj] at q; simp at q) (ne_own HGU.out.own hj (by decide))
              have HKN : Hid (∀ j, j < wd.heap.size → j ≠ Pp → W.heap[j]? = wd.heap[j]?) := fun j hj hne => (t2 j (by omega) hne (fun e => by have := (World.ownsRow.lt HGU.out.own j e).1; omega)).trans (HKE.out j hj hne)
              have HBN : Hid _ := hb
              have HPN : Hid _ := k2
              have hsN : wd.heap.size ≤ W.heap.size := Nat.le_trans hwd z2
              clear hb o2 q2 k2 t2 HGU HKE HB HPr c1
              go_wp2_with fail
              go_roundg g
              case measure => omega
              case rel => exact ⟨i + 1, v2, _, by go_num, by omega, by simp [hvl], HGN, HBN, HPN, HKN, hsN⟩
            · have hd : decide ((i : Int) < 256) = false := decide_eq_false (by omega)
              obtain rfl : i = 256 := by omega
              obtain ⟨ad, cap, hvG⟩ : ∃ ad cap, vG = .slice (some ⟨ad, 0, none⟩) 256 cap := by
                rcases HGU.out.own.2 with ⟨_, h0⟩ | ⟨g, c, _, e, _⟩
                · omega
                · exact ⟨g, c, by rw [e, hvl]⟩
              subst hvG
              have hne3 : gc ≠ Pp := fun e => by subst e; have q := HPd.out; rw [HCd.out] at q; simp at q
              have HS12 : Hid (PS wr wd.heap.size gc gl (N + 1) ad cap vs) := ⟨(HKE.out gc hlcd hne3).trans HCd.out, HGU.out, HLd.out.keep HPd.out (by decide) (by decide) HKE.out⟩
              obtain ⟨wE, hwE⟩ : ∃ wE, wE = wr := ⟨_, rfl⟩
              subst hwE
              have HP12 : Hid (wE.heap[Pp]? = some (.cells (prL gc (N + 1) (.slice (some ⟨ad, 0, none⟩) 256 cap) (.slice (some ⟨gl, 0, none⟩) 64 64) 8 8 1024) 42)) := HPr.out
              have HBE : Hid (Below w.heap.size w wE) := HB.out
              have hqk : ((N : Int) + 1) = ((N + 1 : Nat) : Int) := rfl
              have HQK : Hid _ := hqk
              have HVL : Hid _ := hvl
              have hN1 : 1 ≤ N + 1 := by omega
              have hN256 : N + 1 ≤ 256 := by omega
              clear HGU HKE HB HPr HLd HPd HCd HBd hqk hlp hd hi
              go_wp2_with (first | (refine wpList_load_row (by rfl) 42 _ (by rfl) Pp _ (by rfl) HP12.out _ Tryd.underlying42 rfl 7 Tryd.infoPr (by rfl) ?_))
              refine Calls.mono (HS12.out.call hvl hN1 hN256 8 8 1024 0 bud0 _ HQK.out) ?_
              rintro e w13 ⟨rfl, hb⟩
              have HB13 : Hid (Below w.heap.size w w13) := to_call HBE.out hb
              have HS13 : Hid (PS w13 wd.heap.size gc gl (N + 1) ad cap vs) := HS12.out.later hb
              have HP13 : Hid (w13.heap[Pp]? = some (.cells (prL gc (N + 1) (.slice (some ⟨ad, 0, none⟩) 256 cap) (.slice (some ⟨gl, 0, none⟩) 64 64) 8 8 1024) 42)) := kept hb HP12.out
              have hs13 := HB13.out.size
              have hl13 := blk_lt HP13.out
              clear hb HS12 HP12 HBE
              go_upto_region 38 with (first | (refine wpList_load_row (by rfl) 42 _ (by rfl) Pp _ (by rfl) HP13.out _ Tryd.underlying42 rfl 7 Tryd.infoPr (by rfl) ?_) | (refine wpList_store_row (by rfl) 42 _ _ (by rfl) w w.heap.size w13.heap.size _ _ (by rfl) (by rfl) (heap_alloc_new w13 _) (HB13.out.alloc (by omega) _) (by omega) 7 Tryd.infoPr (by rfl) (by rfl) (by exact one7 _ _ _ _ _ _ _ rfl rfl) ?_; intro W1 e1 hb1 hs1 ho1))
              have HS14 : Hid (PS W1 wd.heap.size gc gl (N + 1) ad cap vs) := (HS13.out.later ((Below.refl _ _).alloc (Nat.le_refl _) _)).keep (heap_alloc_new w13 _) (fun j hj hne => ho1 j hne)
              have HP14 : Hid (W1.heap[Pp]? = some (.cells (prL gc (N + 1) (.slice (some ⟨ad, 0, none⟩) 256 cap) (.slice (some ⟨gl, 0, none⟩) 64 64) 8 8 1024) 42)) := (ho1 Pp (by omega)).trans (alloc_kept HP13.out _)
              have cG : W1.cell? ⟨Pp, 1, none⟩ = some (.slice (some ⟨ad, 0, none⟩) 256 cap) := by rw [cell_of_row _ Pp 1 _ _ _ HP14.out]; rfl
              have hlp := blk_lt HP14.out
              have hlad : ad < W1.heap.size := (World.ownsRow.lt HS14.out.g.own ad rfl).2
              have hsW1 := hb1.size
              refine wp_region_any (by kernel_rfl) ?_
              refine take_d 161 (i := 0) (v := (.pointer (some ⟨Pp, 1, none⟩))) rfl rfl (by kernel_rfl) (by kernel_rfl) (by kernel_rfl) (fun _ _ _ h => h) (Or.inl ⟨by rfl, fun w => by kernel_rfl⟩) ?_
              refine take_d 164 (i := 3) (v := (.int .i64 ((N : Int) + 1))) rfl rfl (by kernel_rfl) (by kernel_rfl) (by kernel_rfl) (fun _ _ _ h => h) (Or.inl ⟨by rfl, fun w => by kernel_rfl⟩) ?_
              refine dupRegion _ _ _ _ _ _ _ 1 2 4 5 6 7 8 162 163 165 166 167 168 (fun l a m b c p s => #[true, l, a, true, m, b, c, p, s]) _ W1 vs (N + 1) ad 256 cap w13.heap.size 1 (.slice (some ⟨ad, 0, none⟩) 256 cap) rfl _ _ _ _ _ _ (prL gc (N + 1) (.slice (some ⟨ad, 0, none⟩) 256 cap) (.slice (some ⟨gl, 0, none⟩) 64 64) 8 8 1024) (fun v => (prL gc (N + 1) v (.slice (some ⟨gl, 0, none⟩) 64 64) 8 8 1024)) 42 w w.heap.size rfl rfl rfl rfl rfl rfl rfl rfl rfl rfl rfl rfl rfl rfl rfl rfl rfl rfl rfl rfl rfl (by decide) (by decide) (by decide) (by decide) (fun _ _ _ _ _ _ => rfl) (fun _ _ _ _ _ _ => rfl) (fun _ _ _ _ _ _ => rfl) (fun _ _ _ _ _ _ => rfl) (fun _ _ _ _ _ _ => rfl) (fun _ _ _ _ _ _ => rfl) (fun _ _ _ _ _ _ => rfl) (by kernel_rfl) (by kernel_rfl) (by kernel_rfl) (by kernel_rfl) (by kernel_rfl) (by kernel_rfl) (by kernel_rfl) (by kernel_rfl) (by kernel_rfl) (by kernel_rfl) (by kernel_rfl) (by kernel_rfl) (by intro v1 gm gb W hb; exact ex_loadS _ _ rfl ⟨Pp, 1, none⟩ (by kernel_rfl) (.slice (some ⟨ad, 0, none⟩) 256 cap) W (by rw [hb.cell (p := ⟨Pp, 1, none⟩) hlp]; exact cG)) (by intro v1 gm gb W hb; exact ex_loadS _ _ rfl ⟨Pp, 1, none⟩ (by kernel_rfl) (.slice (some ⟨ad, 0, none⟩) 256 cap) W (by rw [hb.cell (p := ⟨Pp, 1, none⟩) hlp]; exact cG)) (by intro v1 gm gb W hb; exact ex_loadS _ _ rfl ⟨Pp, 1, none⟩ (by kernel_rfl) (.slice (some ⟨ad, 0, none⟩) 256 cap) W (by rw [hb.cell (p := ⟨Pp, 1, none⟩) hlp]; exact cG)) (by rfl) (by intro v1 gm gb; exact ⟨by kernel_rfl, by kernel_rfl⟩) (by intro v1 gm gb; exact ⟨by kernel_rfl, by kernel_rfl⟩) (by intro v1 gm gb; exact ⟨by kernel_rfl, by kernel_rfl⟩) (by intro v1 gm gb W; exact ex_make _ _ _ _ rfl (.int .i64 ((N : Int) + 1)) (.int .i64 ((N : Int) + 1)) (by kernel_rfl) (by kernel_rfl) _ _ _ (hm1 W)) (by intro v1 gm gb W; exact ex_make _ _ _ _ rfl (.int .i64 ((N : Int) + 1)) (.int .i64 ((N : Int) + 1)) (by kernel_rfl) (by kernel_rfl) _ _ _ (hm1 W)) (by intro v1 gm gb W; exact ex_make _ _ _ _ rfl (.int .i64 ((N : Int) + 1)) (.int .i64 ((N : Int) + 1)) (by kernel_rfl) (by kernel_rfl) _ _ _ (hm1 W)) (by intro v1 gm gb W; exact ex_bs _ _ 1 _ rfl #[(0, .slice (some ⟨gm, 0, none⟩) (N + 1) (N + 1))] (by kernel_rfl) _ _ _ (bsS _ _ _ W)) (by intro v1 gm gb W; exact ex_bs _ _ 1 _ rfl #[(0, .slice (some ⟨gm, 0, none⟩) (N + 1) (N + 1))] (by kernel_rfl) _ _ _ (bsS _ _ _ W)) (by intro v1 gm gb W; exact ex_bs _ _ 1 _ rfl #[(0, .slice (some ⟨gm, 0, none⟩) (N + 1) (N + 1))] (by kernel_rfl) _ _ _ (bsS _ _ _ W)) (by rfl) (by intro v1 gm gb; exact ⟨by kernel_rfl, by kernel_rfl⟩) (by rfl) (by intro v1 v2 gm gb; exact ⟨by kernel_rfl, by kernel_rfl⟩) (by intro v1 v2 gm gb W; kernel_rfl) hvl (by omega) HS14.out.g.cells hlad HS14.out.g.one e1 (by decide) (by decide) (Nat.le_of_ble_eq_true rfl) (by intro v hv; rw [hv]; rfl) hb1 (by omega) (by omega) ?_ _ (Below.refl _ _).drew
              intro W2 v1 v2 gm gb hb2 o2 q2 k2 t2
              have HG2 : Hid (GU W2 W1.heap.size v2 (N + 1) (vs ++ [Value.slice (some ⟨gm, 0, none⟩) (N + 1) (N + 1)])) := ⟨o2, col_snoc HS14.out.g.col q2 (fun j cu hj => t2 j (blk_lt hj) (fun e => by subst e; rw [hj] at e1; simp at e1))⟩
              have HS15 : Hid (PS W2 wd.heap.size gc gl (N + 1) ad cap vs) := HS14.out.keep e1 (fun j hj hne => t2 j hj hne)
              have HP15 : Hid (W2.heap[Pp]? = some (.cells (prL gc (N + 1) (.slice (some ⟨ad, 0, none⟩) 256 cap) (.slice (some ⟨gl, 0, none⟩) 64 64) 8 8 1024) 42)) := (t2 Pp hlp (by omega)).trans HP14.out
              have HQ15 : Hid (W2.heap[w13.heap.size]? = some (.cells (prL gc (N + 1) v2 (.slice (some ⟨gl, 0, none⟩) 64 64) 8 8 1024) 42)) := k2
              have hus : (vs ++ [Value.slice (some ⟨gm, 0, none⟩) (N + 1) (N + 1)]).length = 257 := by rw [List.length_append, hvl]; rfl
              have HB15 : Hid _ := hb2
              clear hb2 o2 q2 k2 t2 HS14 HP14 cG e1 hb1 hs1 ho1 HS13 HP13 hlp hlad
              simp only [Act.put, List.setIfInBounds_toArray, List.set_cons_zero, List.set_cons_succ]
              go_upto_region 39 with fail
              go_wp2_with (first | (refine wpList_load_row (by rfl) 42 _ (by rfl) w13.heap.size _ (by rfl) HQ15.out _ Tryd.underlying42 rfl 7 Tryd.infoPr (by rfl) ?_))
              refine Calls.mono (HS15.out.callG HG2.out hus hN1 hN256 _ HQK.out) ?_
              rintro e w15 ⟨rfl, hb⟩
              have HB16 : Hid (Below w.heap.size w w15) := to_call HB15.out hb
              have HS16 : Hid (PS w15 wd.heap.size gc gl (N + 1) ad cap vs) := HS15.out.later hb
              have HP16 : Hid (w15.heap[Pp]? = some (.cells (prL gc (N + 1) (.slice (some ⟨ad, 0, none⟩) 256 cap) (.slice (some ⟨gl, 0, none⟩) 64 64) 8 8 1024) 42)) := kept hb HP15.out
              have hs15 := HB16.out.size
              have hl15 := blk_lt HP16.out
              clear hb HS15 HP15 HB15 HQ15 HG2 hus
              go_upto_region 41 with (first | (refine wpList_load_row (by rfl) 42 _ (by rfl) Pp _ (by rfl) HP16.out _ Tryd.underlying42 rfl 7 Tryd.infoPr (by rfl) ?_) | (refine wpList_store_row (by rfl) 42 _ _ (by rfl) w w.heap.size w15.heap.size _ _ (by rfl) (by rfl) (heap_alloc_new w15 _) (HB16.out.alloc (by omega) _) (by omega) 7 Tryd.infoPr (by rfl) (by rfl) (by exact one7 _ _ _ _ _ _ _ rfl rfl) ?_; intro W3 e3 hb3 hs3 ho3))
              have HS17 : Hid (PS W3 wd.heap.size gc gl (N + 1) ad cap vs) := (HS16.out.later ((Below.refl _ _).alloc (Nat.le_refl _) _)).keep (heap_alloc_new w15 _) (fun j hj hne => ho3 j hne)
              have HP17 : Hid (W3.heap[Pp]? = some (.cells (prL gc (N + 1) (.slice (some ⟨ad, 0, none⟩) 256 cap) (.slice (some ⟨gl, 0, none⟩) 64 64) 8 8 1024) 42)) := (ho3 Pp (by omega)).trans (alloc_kept HP16.out _)
              have cL : W3.cell? ⟨Pp, 3, none⟩ = some (.slice (some ⟨gl, 0, none⟩) 64 64) := by rw [cell_of_row _ Pp 3 _ _ _ HP17.out]; rfl
              have hlp3 := blk_lt HP17.out
              obtain ⟨cs, hcs1, hcs2, hcs3, hcs4⟩ := HS17.out.l.list
              have hlgl : gl < W3.heap.size := by obtain ⟨_, q, _⟩ := HS17.out.l; exact blk_lt q
              have hsW3 := hb3.size
              have hm2 : ∀ w, (Instr.makeSlice 30 (.int .i64 2) (.int .i64 2)).run Tryd.prog w = .ok (.slice (some ⟨w.heap.size, 0, none⟩) 2 2) (w.alloc (.cells (flN 2) 29)) := fun w => makeF 2 (by omega) w
              refine wp_region_any (by kernel_rfl) ?_
              refine take_d 176 (i := 0) (v := (.pointer (some ⟨Pp, 3, none⟩))) rfl rfl (by kernel_rfl) (by kernel_rfl) (by kernel_rfl) (fun _ _ _ h => h) (Or.inl ⟨by rfl, fun w => by kernel_rfl⟩) ?_
              refine dupRegion _ _ _ _ _ _ _ 1 2 3 4 5 6 7 177 178 179 180 181 182 (fun l a m b c p s => #[true, l, a, m, b, c, p, s]) _ W3 cs 2 gl 64 64 w15.heap.size 3 (.slice (some ⟨gl, 0, none⟩) 64 64) rfl _ _ _ _ _ _ (prL gc (N + 1) (.slice (some ⟨ad, 0, none⟩) 256 cap) (.slice (some ⟨gl, 0, none⟩) 64 64) 8 8 1024) (fun v => (prL gc (N + 1) (.slice (some ⟨ad, 0, none⟩) 256 cap) v 8 8 1024)) 42 w w.heap.size rfl rfl rfl rfl rfl rfl rfl rfl rfl rfl rfl rfl rfl rfl rfl rfl rfl rfl rfl rfl rfl (by decide) (by decide) (by decide) (by decide) (fun _ _ _ _ _ _ => rfl) (fun _ _ _ _ _ _ => rfl) (fun _ _ _ _ _ _ => rfl) (fun _ _ _ _ _ _ => rfl) (fun _ _ _ _ _ _ => rfl) (fun _ _ _ _ _ _ => rfl) (fun _ _ _ _ _ _ => rfl) (by kernel_rfl) (by kernel_rfl) (by kernel_rfl) (by kernel_rfl) (by kernel_rfl) (by kernel_rfl) (by kernel_rfl) (by kernel_rfl) (by kernel_rfl) (by kernel_rfl) (by kernel_rfl) (by kernel_rfl) (by intro v1 gm gb W hb; exact ex_loadS _ _ rfl ⟨Pp, 3, none⟩ (by kernel_rfl) (.slice (some ⟨gl, 0, none⟩) 64 64) W (by rw [hb.cell (p := ⟨Pp, 3, none⟩) hlp3]; exact cL)) (by intro v1 gm gb W hb; exact ex_loadS _ _ rfl ⟨Pp, 3, none⟩ (by kernel_rfl) (.slice (some ⟨gl, 0, none⟩) 64 64) W (by rw [hb.cell (p := ⟨Pp, 3, none⟩) hlp3]; exact cL)) (by intro v1 gm gb W hb; exact ex_loadS _ _ rfl ⟨Pp, 3, none⟩ (by kernel_rfl) (.slice (some ⟨gl, 0, none⟩) 64 64) W (by rw [hb.cell (p := ⟨Pp, 3, none⟩) hlp3]; exact cL)) (by rfl) (by intro v1 gm gb; exact ⟨by kernel_rfl, by kernel_rfl⟩) (by intro v1 gm gb; exact ⟨by kernel_rfl, by kernel_rfl⟩) (by intro v1 gm gb; exact ⟨by kernel_rfl, by kernel_rfl⟩) (by intro v1 gm gb W; exact ex_make _ _ _ _ rfl (.int .i64 2) (.int .i64 2) (by kernel_rfl) (by kernel_rfl) _ _ _ (hm2 W)) (by intro v1 gm gb W; exact ex_make _ _ _ _ rfl (.int .i64 2) (.int .i64 2) (by kernel_rfl) (by kernel_rfl) _ _ _ (hm2 W)) (by intro v1 gm gb W; exact ex_make _ _ _ _ rfl (.int .i64 2) (.int .i64 2) (by kernel_rfl) (by kernel_rfl) _ _ _ (hm2 W)) (by intro v1 gm gb W; exact ex_bs _ _ 1 _ rfl #[(0, .slice (some ⟨gm, 0, none⟩) 2 2)] (by kernel_rfl) _ _ _ (bsS _ _ _ W)) (by intro v1 gm gb W; exact ex_bs _ _ 1 _ rfl #[(0, .slice (some ⟨gm, 0, none⟩) 2 2)] (by kernel_rfl) _ _ _ (bsS _ _ _ W)) (by intro v1 gm gb W; exact ex_bs _ _ 1 _ rfl #[(0, .slice (some ⟨gm, 0, none⟩) 2 2)] (by kernel_rfl) _ _ _ (bsS _ _ _ W)) (by rfl) (by intro v1 gm gb; exact ⟨by kernel_rfl, by kernel_rfl⟩) (by rfl) (by intro v1 v2 gm gb; exact ⟨by kernel_rfl, by kernel_rfl⟩) (by intro v1 v2 gm gb W; kernel_rfl) hcs1 (by omega) hcs2 hlgl hcs3 e3 (by decide) (by decide) (Nat.le_of_ble_eq_true rfl) (by intro v hv; rw [hv]; rfl) hb3 (by omega) (by omega) ?_ _ (Below.refl _ _).drew
              intro W4 v1 v2 gm gb hb4 o4 q4 k4 t4
              have HG4 : Hid (GU W4 W3.heap.size v2 2 (cs ++ [Value.slice (some ⟨gm, 0, none⟩) 2 2])) := ⟨o4, col_snoc hcs4 q4 (fun j cu hj => t4 j (blk_lt hj) (fun e => by subst e; rw [hj] at e3; simp at e3))⟩
              have HS18 : Hid (PS W4 wd.heap.size gc gl (N + 1) ad cap vs) := HS17.out.keep e3 (fun j hj hne => t4 j hj hne)
              have HP18 : Hid (W4.heap[Pp]? = some (.cells (prL gc (N + 1) (.slice (some ⟨ad, 0, none⟩) 256 cap) (.slice (some ⟨gl, 0, none⟩) 64 64) 8 8 1024) 42)) := (t4 Pp hlp3 (by omega)).trans HP17.out
              have HQ18 : Hid (W4.heap[w15.heap.size]? = some (.cells (prL gc (N + 1) (.slice (some ⟨ad, 0, none⟩) 256 cap) v2 8 8 1024) 42)) := k4
              have HB18 : Hid _ := hb4
              have hcl : (cs ++ [Value.slice (some ⟨gm, 0, none⟩) 2 2]).length = 65 := by rw [List.length_append, hcs1]; rfl
              clear hb4 o4 q4 k4 t4 HS17 HP17 cL e3 hb3 hs3 ho3 HS16 HP16 hlp3 hcs1 hcs2 hcs3 hcs4
              simp only [Act.put, List.setIfInBounds_toArray, List.set_cons_zero, List.set_cons_succ]
              go_upto_region 42 with fail
              go_wp2_with (first | (refine wpList_load_row (by rfl) 42 _ (by rfl) w15.heap.size _ (by rfl) HQ18.out _ Tryd.underlying42 rfl 7 Tryd.infoPr (by rfl) ?_))
              refine Calls.mono (HS18.out.callL hvl HG4.out hcl hN1 hN256 _ HQK.out) ?_
              rintro e w18 ⟨rfl, hb⟩
              have HB19 : Hid (Below w.heap.size w w18) := to_call HB18.out hb
              have HS19 : Hid (PS w18 wd.heap.size gc gl (N + 1) ad cap vs) := HS18.out.later hb
              have HP19 : Hid (w18.heap[Pp]? = some (.cells (prL gc (N + 1) (.slice (some ⟨ad, 0, none⟩) 256 cap) (.slice (some ⟨gl, 0, none⟩) 64 64) 8 8 1024) 42)) := kept hb HP18.out
              clear hb HS18 HP18 HB18 HQ18 HG4 hcl
              have hPw : w.heap.size ≤ Pp := by omega
              go_upto_region 46 with (first | (refine wpList_store_at (by rfl) 3 _ _ (by rfl) w w.heap.size Pp 4 (.int .i64 9) _ (prL gc (N + 1) (.slice (some ⟨ad, 0, none⟩) 256 cap) (.slice (some ⟨gl, 0, none⟩) 64 64) 9 8 1024) 42 (by rfl) (by rfl) HP19.out HB19.out (by omega) 1 Tryd.infoIn1 (by rfl) (Nat.le_of_ble_eq_true rfl) (by exact one_int _) (by rfl) ?_; intro X1 ex1 bx1 sx1 ox1))
              have HS20 : Hid (PS X1 wd.heap.size gc gl (N + 1) ad cap vs) := HS19.out.keep HP19.out (fun j hj hne => ox1 j hne)
              have EX1 : Hid _ := ex1
              have BX1 : Hid _ := bx1
              clear ex1 bx1 sx1 ox1 HS19 HP19 HB19
              go_wp2_with (first | (refine wpList_load_row (by rfl) 42 _ (by rfl) Pp _ (by rfl) EX1.out _ Tryd.underlying42 rfl 7 Tryd.infoPr (by rfl) ?_))
              refine Calls.mono (HS20.out.call hvl hN1 hN256 9 8 1024 69 bud1 _ HQK.out) ?_
              rintro e w20 ⟨rfl, hb⟩
              have HB21 : Hid (Below w.heap.size w w20) := to_call BX1.out hb
              have HS21 : Hid (PS w20 wd.heap.size gc gl (N + 1) ad cap vs) := HS20.out.later hb
              have HP21 : Hid (w20.heap[Pp]? = some (.cells (prL gc (N + 1) (.slice (some ⟨ad, 0, none⟩) 256 cap) (.slice (some ⟨gl, 0, none⟩) 64 64) 9 8 1024) 42)) := kept hb EX1.out
              clear hb HS20 EX1 BX1
              go_upto_region 48 with (first | (refine wpList_store_at (by rfl) 3 _ _ (by rfl) w w.heap.size Pp 4 (.int .i64 1) _ (prL gc (N + 1) (.slice (some ⟨ad, 0, none⟩) 256 cap) (.slice (some ⟨gl, 0, none⟩) 64 64) 1 8 1024) 42 (by rfl) (by rfl) HP21.out HB21.out (by omega) 1 Tryd.infoIn1 (by rfl) (Nat.le_of_ble_eq_true rfl) (by exact one_int _) (by rfl) ?_; intro X2 ex2 bx2 sx2 ox2) | (refine wpList_store_at (by rfl) 3 _ _ (by rfl) w w.heap.size Pp 6 (.int .i64 1025) _ (prL gc (N + 1) (.slice (some ⟨ad, 0, none⟩) 256 cap) (.slice (some ⟨gl, 0, none⟩) 64 64) 1 8 1025) 42 (by rfl) (by rfl) ex2 bx2 (by omega) 1 Tryd.infoIn1 (by rfl) (Nat.le_of_ble_eq_true rfl) (by exact one_int _) (by rfl) ?_; intro X3 ex3 bx3 sx3 ox3))
              have HS22 : Hid (PS X3 wd.heap.size gc gl (N + 1) ad cap vs) := (HS21.out.keep HP21.out (fun j hj hne => ox2 j hne)).keep ex2 (fun j hj hne => ox3 j hne)
              have EX3 : Hid _ := ex3
              have BX3 : Hid _ := bx3
              clear ex2 bx2 sx2 ox2 ex3 bx3 sx3 ox3 HS21 HP21 HB21
              go_wp2_with (first | (refine wpList_load_row (by rfl) 42 _ (by rfl) Pp _ (by rfl) EX3.out _ Tryd.underlying42 rfl 7 Tryd.infoPr (by rfl) ?_))
              refine Calls.mono (HS22.out.call hvl hN1 hN256 1 8 1025 69 bud2 _ HQK.out) ?_
              rintro e w22 ⟨rfl, hb⟩
              have HB23 : Hid (Below w.heap.size w w22) := to_call BX3.out hb
              have HS23 : Hid (PS w22 wd.heap.size gc gl (N + 1) ad cap vs) := HS22.out.later hb
              have HP23 : Hid (w22.heap[Pp]? = some (.cells (prL gc (N + 1) (.slice (some ⟨ad, 0, none⟩) 256 cap) (.slice (some ⟨gl, 0, none⟩) 64 64) 1 8 1025) 42)) := kept hb EX3.out
              clear hb HS22 EX3 BX3
              go_upto_region 50 with (first | (refine wpList_store_at (by rfl) 3 _ _ (by rfl) w w.heap.size Pp 6 (.int .i64 1) _ (prL gc (N + 1) (.slice (some ⟨ad, 0, none⟩) 256 cap) (.slice (some ⟨gl, 0, none⟩) 64 64) 1 8 1) 42 (by rfl) (by rfl) HP23.out HB23.out (by omega) 1 Tryd.infoIn1 (by rfl) (Nat.le_of_ble_eq_true rfl) (by exact one_int _) (by rfl) ?_; intro X4 ex4 bx4 sx4 ox4) | (refine wpList_store_at (by rfl) 3 _ _ (by rfl) w w.heap.size Pp 5 (.int .i64 9) _ (prL gc (N + 1) (.slice (some ⟨ad, 0, none⟩) 256 cap) (.slice (some ⟨gl, 0, none⟩) 64 64) 1 9 1) 42 (by rfl) (by rfl) ex4 bx4 (by omega) 1 Tryd.infoIn1 (by rfl) (Nat.le_of_ble_eq_true rfl) (by exact one_int _) (by rfl) ?_; intro X5 ex5 bx5 sx5 ox5))
              have HS24 : Hid (PS X5 wd.heap.size gc gl (N + 1) ad cap vs) := (HS23.out.keep HP23.out (fun j hj hne => ox4 j hne)).keep ex4 (fun j hj hne => ox5 j hne)
              have EX5 : Hid _ := ex5
              have BX5 : Hid _ := bx5
              clear ex4 bx4 sx4 ox4 ex5 bx5 sx5 ox5 HS23 HP23 HB23
              go_wp2_with (first | (refine wpList_load_row (by rfl) 42 _ (by rfl) Pp _ (by rfl) EX5.out _ Tryd.underlying42 rfl 7 Tryd.infoPr (by rfl) ?_))
              refine Calls.mono (HS24.out.call hvl hN1 hN256 1 9 1 69 bud3 _ HQK.out) ?_
              rintro e w24 ⟨rfl, hb⟩
              have HB25 : Hid (Below w.heap.size w w24) := to_call BX5.out hb
              clear hb HS24 EX5 BX5
              go_wp2_with fail
              go_ret
              exact ⟨rfl, HB25.out⟩
end Go.Proofs.YtogpkigpnflaoaaDoor
