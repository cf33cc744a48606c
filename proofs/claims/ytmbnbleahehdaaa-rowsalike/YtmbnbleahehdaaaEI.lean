import Derived.Test.YtmbnbleahehdaaaEA
import Derived.Test.YtmbnbleahehdaaaEB
namespace Go.Proofs.Ytmbnbleahehdaaa
open Go.RowKit
set_option linter.unusedVariables false

def idx (n : Nat) : List Int := (List.range n).map fun (j : Nat) => (j : Int)
def pk (us : List Nat) (s n : Nat) : List Nat := (List.range n).map fun (j : Nat) => us[s + j]?.getD 0
theorem idx_snoc (n : Nat) : idx (n + 1) = idx n ++ [(n : Int)] := by unfold idx; rw [List.range_succ, List.map_append]; rfl
theorem pk_snoc (us : List Nat) (s n : Nat) : pk us s (n + 1) = pk us s n ++ [us[s + n]?.getD 0] := by unfold pk; rw [List.range_succ, List.map_append]; rfl
theorem idx_len (n : Nat) : (idx n).length = n := by unfold idx; simp
theorem pk_len (us : List Nat) (s n : Nat) : (pk us s n).length = n := by unfold pk; simp
theorem cutLH (b off len cap lo hi : Nat) (h1 : lo ≤ hi) (h2 : hi ≤ cap) (h3 : lo < cap) (w : World) :
    (Instr.slice 27 (.slice (some ⟨b, off, none⟩) len cap) (some (.int .i64 (lo : Int))) (some (.int .i64 (hi : Int))) none).run Try.prog w = .ok (.slice (some ⟨b, off + lo, none⟩) (hi - lo) (cap - lo)) w := by
  rw [run_slice_lh w _ _ _ _ (by rw [Try.elemF]; exact Try.underlying27) .i64 .i64 lo hi (by omega) (by omega) (by omega), Try.elemF, sizeF64]
  simp only [Result.andThen, sliced, Int.toNat_natCast]
  rw [if_neg (by omega)]
  simp only [Option.map_some, Addr.add_lit, Nat.mul_one]
theorem cutLHn (b off len cap lo hi n : Nat) (h0 : lo + n = hi) (h2 : hi ≤ cap) (h3 : lo < cap) (w : World) :
    (Instr.slice 27 (.slice (some ⟨b, off, none⟩) len cap) (some (.int .i64 (lo : Int))) (some (.int .i64 (hi : Int))) none).run Try.prog w = .ok (.slice (some ⟨b, off + lo, none⟩) n (cap - lo)) w := by
  have := cutLH b off len cap lo hi (by omega) h2 h3 w
  rw [show hi - lo = n by omega] at this
  exact this
theorem ix3P (a b c : Int) (w : World) : (Instr.index 67 (.agg #[.int .i64 a, .int .i64 b, .int .i64 c]) (.int .i64 0)).run Try.prog w = .ok (.int .i64 a) w := by kernel_rfl
set_option maxRecDepth 100000 in
set_option maxHeartbeats 2000000 in
theorem scaleRow_any (x0 x1 x2 x3 x4 x5 x6 x7 x8 x9 x12 x13 : Value) (wo bo : Option Addr) (wn wc bn bc : Nat) (us vs : List Nat) (c h k q r s i : Int) (ch : Nat) (hq : q = (ch : Int)) (hcw : ch < wn) (hcb : ch < bn)
    (hP : ∀ w, Calls Try.prog 23 #[.int .i64 i, .agg #[.int .i64 c, .int .i64 h, .int .i64 k]] w fun e w' => e = .returned (.agg #[.int .i64 q, .int .i64 r, .int .i64 s]) ∧ Below w.heap.size w w')
    (w : World) (hW : RdF w wo wn wc us) (hB : RdF w bo bn bc vs) :
    Calls Try.prog 37 #[.agg #[x0, x1, x2, x3, x4, x5, x6, x7, x8, x9, .slice wo wn wc, .slice bo bn bc, x12, x13], .agg #[.int .i64 c, .int .i64 h, .int .i64 k], .int .i64 i] w fun e w' => ∃ v1 v2, e = .returned (.agg #[v1, v2, .float .f64 (vs[ch]?.getD 0)]) ∧ v1.oneCell' = true ∧ v2.oneCell' = true ∧ RowV w' w.heap.size v1 v2 [i] [us[ch]?.getD 0] ∧ Below w.heap.size w w' := by
  subst hq
  have HP : Hid _ := hP
  have HW : Hid _ := hW
  have HBB : Hid _ := hB
  clear hP hW hB
  have j0 : (0 : Int) ≤ (ch : Int) := by omega
  have j1 : (ch : Int) < (bn : Int) := by omega
  have j2 : (ch : Int) < (wn : Int) := by omega
  go_enter Try.func37, Try.ntmps37
  go_wp2_with fail
  refine Calls.mono (HP.out _) ?_
  rintro e w1 ⟨rfl, hb⟩
  have HB1 : Hid (Below w.heap.size w w1) := to_call ((((Below.refl _ w).alloc (Nat.le_refl _) _).alloc (by simp only [alloc_size]; omega) _).alloc (by simp only [alloc_size]; omega) _) hb
  have k0 := kept hb (alloc_kept (alloc_kept (heap_alloc_new w _) _) _)
  have k2 := kept hb (heap_at _ _ (w.heap.size + 1 + 1) (by simp only [alloc_size]))
  have hsz := blk_lt k2
  rcases (HBB.out.later HB1.out).cells with z | ⟨bb, boff, rfl, hcB⟩
  · omega
  have gB := hcB ch hcb
  have lB := World.block_lt_of_cell? w1 _ gB
  have hixF := fun (x : World) => (ix3P (ch : Int) r s x)
  have c11 := cellOf k0 11 (.slice (some ⟨bb, boff, none⟩) bn bc) rfl
  have K0 : Hid _ := k0
  have K2 : Hid _ := k2
  clear hb HP hcB k0 k2
  go_upto_region 3 with (first | (refine wpList_store_row (by rfl) 71 _ _ (by rfl) w w.heap.size w1.heap.size _ _ (by rfl) (by rfl) (heap_alloc_new w1 _) (HB1.out.alloc (by omega) _) (by omega) 3 Try.infoRow (by rfl) (by rfl) (by exact one_row _ _ _ rfl rfl) ?_; intro W2 e2 hb2 hs2 ho2))
  have K02 : Hid (W2.heap[w.heap.size]? = _) := (ho2 _ (by omega)).trans (alloc_kept K0.out _)
  have K22 : Hid (W2.heap[w.heap.size + 1 + 1]? = _) := (ho2 _ (by omega)).trans (alloc_kept K2.out _)
  rcases (HW.out.later hb2).cells with z | ⟨bw, woff, rfl, hcW⟩
  · omega
  have gW := hcW ch hcw
  have HO2 : Hid (RowO W2 W2.heap.size w1.heap.size [] [] (vs[ch]?.getD 0)) := ⟨_, _, e2, rfl, rfl, World.ownsRow_nil _ _ _ 1, World.ownsRow_nil _ _ _ 1⟩
  have HB2 : Hid _ := hb2
  have hl2 := blk_lt e2
  have c10 := cellOf K02.out 10 (.slice (some ⟨bw, woff, none⟩) wn wc) rfl
  clear c11 gB ho2 K0 K2 hcW hs2 e2 hb2
  go_upto_region 4 with (first | (go_at_call 44; refine Calls.mono (put_any w1.heap.size W2.heap.size [] [] _ i (us[ch]?.getD 0) _ HO2.out (Nat.le_refl _) w.heap.size (by omega) (by omega) (by simp) (by simp)) ?_; rintro e w4 ⟨rfl, o4, b4, t4⟩))
  have HB4 : Hid (Below w.heap.size w w4) := HB2.out.trans b4
  have HK4 : Hid (w4.heap[w.heap.size + 1 + 1]? = _) := (t4 _ (by omega) (by omega)).trans K22.out
  obtain ⟨v1, v2, k1, p1, p2, ov⟩ := o4
  have HV : Hid (RowV w4 w.heap.size v1 v2 [i] [us[ch]?.getD 0]) := ov.mono (by omega)
  have K1 : Hid (w4.heap[w1.heap.size]? = _) := k1
  clear k1 ov b4 t4 gW c10
  go_wp2_with (first
    | (refine wpList_load_row (by rfl) 71 _ (by rfl) w1.heap.size _ (by rfl) K1.out _ Try.underlying71 rfl 3 Try.infoRow (by rfl) ?_)
    | (refine wpList_store_row (by rfl) 71 _ _ (by rfl) w w.heap.size (w.heap.size + 1 + 1) _ _ (by rfl) (by rfl) HK4.out HB4.out (by omega) 3 Try.infoRow (by rfl) (by rfl) (by exact one_row _ _ _ p1 p2) ?_; intro W9 e9 hb9 hs9 ho9))
  refine bodyPost_ret (res_one _ 6 71 (by kernel_rfl) _ _ (w.heap.size + 1 + 1) _ (by rfl) _ Try.underlying71 rfl 3 Try.infoRow rfl e9) rfl ?_
  refine ⟨v1, v2, rfl, p1, p2, HV.out.keep fun k hk hv => ho9 k fun e => ?_, hb9⟩
  rcases hv with hv | hv
  · exact own_ne HV.out.o1 HK4.out (by decide) (e ▸ hv)
  · exact own_ne HV.out.o2 HK4.out (by decide) (e ▸ hv)
set_option maxRecDepth 100000 in
set_option maxHeartbeats 2000000 in
theorem denseRow_any (x0 x1 x2 x3 x4 x5 x6 x7 x8 x9 x12 x13 : Value) (wo bo : Option Addr) (wn wc bn bc : Nat) (us vs : List Nat) (c h k : Int) (n i : Nat) (hn : szF [c, h, k] 1 = ((n : Int), 0)) (hn0 : 1 ≤ n ∧ n ≤ 256) (hib : i < bn) (hbn : bn ≤ 256) (hwn : (i + 1) * n ≤ wn) (hwc : wn ≤ wc)
    (w : World) (hW : RdF w wo wn wc us) (hB : RdF w bo bn bc vs) :
    Calls Try.prog 35 #[.agg #[x0, x1, x2, x3, x4, x5, x6, x7, x8, x9, .slice wo wn wc, .slice bo bn bc, x12, x13], .agg #[.int .i64 c, .int .i64 h, .int .i64 k], .int .i64 (i : Int)] w fun e w' => ∃ v1 v2, e = .returned (.agg #[v1, v2, .float .f64 (vs[i]?.getD 0)]) ∧ v1.oneCell' = true ∧ v2.oneCell' = true ∧ RowV w' w.heap.size v1 v2 (idx n) (pk us (i * n) n) ∧ Below w.heap.size w w' := by
  have HS : Hid _ := fun w => size_of hn w
  have HW : Hid _ := hW
  have HBB : Hid _ := hB
  clear hW hB hn
  obtain ⟨lo, hlo⟩ : ∃ lo, i * n = lo := ⟨_, rfl⟩
  obtain ⟨hi, hhi⟩ : ∃ hi, (i + 1) * n = hi := ⟨_, rfl⟩
  have hlh : hi = lo + n := by rw [← hhi, ← hlo, Nat.add_mul, Nat.one_mul]
  have hlb : hi ≤ 65536 := by rw [← hhi]; exact Nat.mul_le_mul (show i + 1 ≤ 256 by omega) hn0.2
  rw [hhi] at hwn
  rw [hlo]
  have m1 : IntKind.i64.wrap ((i : Int) * (n : Int)) = (lo : Int) := by rw [← Int.natCast_mul, hlo, IntKind.wrap_i64]; omega
  have m2 : IntKind.i64.wrap ((i : Int) + 1) = ((i + 1 : Nat) : Int) := by rw [IntKind.wrap_i64]; omega
  have m2' : IntKind.i64.wrap ((i : Int) + 1) = (i : Int) + 1 := by rw [IntKind.wrap_i64]; omega
  have m3 : IntKind.i64.wrap (((i : Int) + 1) * (n : Int)) = (hi : Int) := by rw [show ((i : Int) + 1) * (n : Int) = (((i + 1) * n : Nat) : Int) by rw [Int.natCast_mul]; rfl, hhi, IntKind.wrap_i64]; omega
  have j0 : (0 : Int) ≤ (i : Int) := by omega
  have j1 : (i : Int) < (bn : Int) := by omega
  clear hlo hhi m2
  go_enter Try.func35, Try.ntmps35
  go_wp2_with fail
  refine Calls.mono (HS.out _) ?_
  rintro e w1 ⟨rfl, hb⟩
  have HB1 : Hid (Below w.heap.size w w1) := to_call ((((Below.refl _ w).alloc (Nat.le_refl _) _).alloc (by simp only [alloc_size]; omega) _).alloc (by simp only [alloc_size]; omega) _) hb
  have k0 := kept hb (alloc_kept (alloc_kept (heap_alloc_new w _) _) _)
  have k2 := kept hb (heap_at _ _ (w.heap.size + 1 + 1) (by simp only [alloc_size]))
  have hsz := blk_lt k2
  rcases (HBB.out.later HB1.out).cells with z | ⟨bb, boff, rfl, hcB⟩
  · omega
  have gB := hcB i hib
  have c11 := cellOf k0 11 (.slice (some ⟨bb, boff, none⟩) bn bc) rfl
  have K0 : Hid _ := k0
  have K2 : Hid _ := k2
  clear hb HS hcB k0 k2
  go_upto_region 3 with (first | (refine wpList_store_row (by rfl) 71 _ _ (by rfl) w w.heap.size w1.heap.size _ _ (by rfl) (by rfl) (heap_alloc_new w1 _) (HB1.out.alloc (by omega) _) (by omega) 3 Try.infoRow (by rfl) (by rfl) (by exact one_row _ _ _ rfl rfl) ?_; intro W2 e2 hb2 hs2 ho2))
  have K02 : Hid (W2.heap[w.heap.size]? = _) := (ho2 _ (by omega)).trans (alloc_kept K0.out _)
  have K22 : Hid (W2.heap[w.heap.size + 1 + 1]? = _) := (ho2 _ (by omega)).trans (alloc_kept K2.out _)
  rcases (HW.out.later hb2).cells with z | ⟨bw, woff, rfl, -⟩
  · omega
  have HO2 : Hid (RowO W2 W2.heap.size w1.heap.size [] [] (vs[i]?.getD 0)) := ⟨_, _, e2, rfl, rfl, World.ownsRow_nil _ _ _ 1, World.ownsRow_nil _ _ _ 1⟩
  have HB2 : Hid _ := hb2
  have hl2 := blk_lt e2
  have c10 := cellOf K02.out 10 (.slice (some ⟨bw, woff, none⟩) wn wc) rfl
  have hcut := fun (x : World) => cutLHn bw woff wn wc lo hi n hlh.symm (by omega) (by omega) x
  have hwn' : lo + n ≤ wn := by omega
  clear hlh
  clear c11 gB ho2 K0 K2 hs2 e2 hb2
  go_wp2_with fail

  go_loopg [34] n (fun g v wx => ∃ j : Nat, v = .int .i64 j ∧ j + g = n ∧ Hid (RowO wx W2.heap.size w1.heap.size (idx j) (pk us lo j) (vs[i]?.getD 0)) ∧ Hid (Below w.heap.size w wx) ∧ Hid (wx.heap[w.heap.size + 1 + 1]? = some (.cells #[.slice none 0 0, .slice none 0 0, .float .f64 0] 71)) ∧ W2.heap.size ≤ wx.heap.size)
  case atStart => exact ⟨0, rfl, by omega, HO2.out, HB2.out, K22.out, Nat.le_refl _⟩
  case round =>
    obtain ⟨j, rfl, hj, HO, HB, HK, hwr⟩ := hrel
    by_cases hlt : j < n
    · obtain ⟨g, rfl⟩ : ∃ g, gk = g + 1 := ⟨gk - 1, by omega⟩
      have hd : decide ((j : Int) < (n : Int)) = true := decide_eq_true (by omega)
      rcases (HW.out.later HB.out).cells with z | ⟨b', o', he, hcW⟩
      · omega
      cases he
      have gW := hcW (lo + j) (by omega)
      rw [← Nat.add_assoc] at gW
      have i0 : (0 : Int) ≤ (j : Int) := by omega
      have i1 : (j : Int) < (n : Int) := by omega
      have hw1 : IntKind.i64.wrap ((j : Int) + 1) = (j : Int) + 1 := by rw [IntKind.wrap_i64]; omega
      clear hcW
      go_wp2_with fail
      refine Calls.mono (put_any w1.heap.size W2.heap.size (idx j) (pk us lo j) _ j (us[lo + j]?.getD 0) _ HO.out hwr w.heap.size (by omega) (by omega) (by rw [idx_len]; omega) (by rw [pk_len]; omega)) ?_
      rintro e w4 ⟨rfl, o4, b4, t4⟩
      have HO4 : Hid _ := o4
      have HB4 : Hid (Below w.heap.size w w4) := HB.out.trans b4
      have HK4 : Hid (w4.heap[w.heap.size + 1 + 1]? = _) := (t4 _ (by omega) (by omega)).trans HK.out
      have hs4 := b4.size
      clear o4 b4 t4 gW
      go_wp2_with fail
      go_roundg g
      case measure => omega
      case rel => exact ⟨j + 1, by go_num, by omega, by have := HO4.out; rw [← idx_snoc, ← pk_snoc] at this; exact this, HB4.out, HK4.out, by omega⟩
    · obtain rfl : j = n := by omega
      have hd : decide ((j : Int) < (j : Int)) = false := decide_eq_false (by omega)
      obtain ⟨v1, v2, k1, p1, p2, ov⟩ := HO.out
      have HV : Hid (RowV wr w.heap.size v1 v2 (idx j) (pk us lo j)) := ov.mono (by omega)
      have K1 : Hid (wr.heap[w1.heap.size]? = _) := k1
      clear k1 ov
      go_wp2_with (first
        | (refine wpList_load_row (by rfl) 71 _ (by rfl) w1.heap.size _ (by rfl) K1.out _ Try.underlying71 rfl 3 Try.infoRow (by rfl) ?_)
        | (refine wpList_store_row (by rfl) 71 _ _ (by rfl) w w.heap.size (w.heap.size + 1 + 1) _ _ (by rfl) (by rfl) HK.out HB.out (by omega) 3 Try.infoRow (by rfl) (by rfl) (by exact one_row _ _ _ p1 p2) ?_; intro W9 e9 hb9 hs9 ho9))
      refine bodyPost_ret (res_one _ 6 71 (by kernel_rfl) _ _ (w.heap.size + 1 + 1) _ (by rfl) _ Try.underlying71 rfl 3 Try.infoRow rfl e9) rfl ?_
      refine ⟨v1, v2, rfl, p1, p2, HV.out.keep fun k hk hv => ho9 k fun e => ?_, hb9⟩
      rcases hv with hv | hv
      · exact own_ne HV.out.o1 HK.out (by decide) (e ▸ hv)
      · exact own_ne HV.out.o2 HK.out (by decide) (e ▸ hv)
end Go.Proofs.Ytmbnbleahehdaaa
