import Derived.Test.YtfldgjkpkmnkbaaDoorTrip
import Derived.Test.YtfldgjkpkmnkbaaDoorTold
import Derived.Test.YtfldgjkpkmnkbaaDoorMade
import Derived.Deep.RegionLaw
import Derived.Laws.CopyOwn
namespace Go.Proofs.YtfldgjkpkmnkbaaDoor
open Go.RowKit
set_option linter.unusedVariables false

set_option maxRecDepth 100000 in
set_option maxHeartbeats 2000000 in
theorem wireLong_pos (n r : Int) (m : Nat) (h0 : -9223372036854775808 ≤ n) (h1 : n ≤ 9223372036854775807) (hr : n.tmod 10 = r) (hr0 : 0 ≤ r) (hr1 : r ≤ 9) (hm : 1048576 - r = (m : Int)) (w : World) :
    Calls Tryd.prog 8 #[.int .i64 n] w fun e w' => e = .returned (.bool true) ∧ Below w.heap.size w w' := by
  have hmk := run_make_row' (P := Tryd.prog) 33 5 (.int .u8 0) 1 Tryd.underlying33 Tryd.infoByte rfl .i64 .i64 m (by omega) (by omega)
  go_enter Tryd.func8, Tryd.ntmps8
  go_wp2_with fail
  refine (told_any _).mono ?_
  rintro e w1 ⟨rfl, hB1⟩
  go_wp2_with fail
  refine (frame_small _ m m _ _ (Rd.made w1 m (by omega)) (by omega)).mono ?_
  rintro e w2 ⟨v2, rfl, hO2, hB2⟩
  have hB02 : Below w.heap.size w w2 := below_trans hB1 (below_trans ((Below.refl _ _).alloc (Nat.le_refl _) _) hB2)
  have hbody : Rd w2 (some ⟨w1.heap.size, 0, none⟩) m m (List.replicate m 0) := (Rd.made w1 m (by omega)).later hB2
  obtain ⟨a2, c2, rfl, hr2⟩ := hO2.rd (frame_byt (byt_rep m))
  have hFL : (frameB (List.replicate m 0)).length = m + 12 := by rw [frame_len, List.length_replicate]
  rw [hFL] at hr2 ⊢
  have hR := rdR_frame [] (List.replicate m 0) [] (by rw [List.length_replicate]; omega)
  rw [List.nil_append, List.append_nil, List.length_replicate] at hR
  have hRB := rdR_byt (frameB (List.replicate m 0)) 0 (frame_byt (byt_rep m))
  have HR2 : Hid _ := hr2
  have HB : Hid _ := hbody
  have HB02 : Hid _ := hB02
  clear hr2 hbody hFL hO2 hB2 hB1 hB02
  go_wp2_with fail
  refine (readFrame_any _ _ _ _ _ _ HR2.out).mono ?_
  rintro e w3 ⟨v3, rfl, hO3, hb3⟩
  have hR' : rdR (frameB (List.replicate m 0)) 0 = (List.replicate m 0, (m : Int) + 12, 0) := by
    have := hR
    simpa using this
  rw [hR'] at hO3 ⊢
  obtain ⟨a3, c3, rfl, hr3⟩ := hO3.rd (byt_rep m)
  have HR3 : Hid _ := hr3
  clear hO3 hr3 hR hR' hRB HR2
  simp only
  generalize (List.replicate m (0 : Int)).length = L3 at *
  have t1 : (((m : Int) + 12) == ((m : Int) + 12)) = true := beq_self_eq_true _
  go_wp2_with fail
  refine (same_any _ _ _ _ _ _ _ _ _ HR3.out (HB.out.later hb3)).mono ?_
  rintro e w4 ⟨rfl, hb4⟩
  have hd : decide (List.replicate m (0 : Int) = List.replicate m 0) = true := by simp
  rw [hd]
  clear hd
  go_wp2
  go_ret
  exact ⟨rfl, below_trans HB02.out (below_trans hb3 hb4)⟩

theorem src_cells {w : World} {ao : Option Addr} {len cap : Nat} {xs : List Int} (hr : Rd w ao len cap xs) (h0 : 0 < len) : Hid (∃ ad, ao = some ad ∧ ∀ j v, (xs.map (Value.int .u8))[j]? = some v → w.cell? (ad.add j) = some v) := by
  rcases hr.cells with h | ⟨b, off, rfl, hc⟩
  · omega
  · refine ⟨_, rfl, fun j v hv => ?_⟩
    have hl := hr.length
    rw [List.getElem?_map] at hv
    have hj : j < xs.length := by
      by_cases hj : j < xs.length
      · exact hj
      · rw [List.getElem?_eq_none (by omega)] at hv; simp at hv
    rw [Addr.add_lit, hc j (by omega), List.getElem?_eq_getElem hj]
    rw [List.getElem?_eq_getElem hj] at hv
    simpa using hv
theorem one_cells (xs : List Int) : Hid (∀ v ∈ xs.map (Value.int .u8), v.oneCell' = true) := by
  intro u hu
  rw [List.mem_map] at hu
  obtain ⟨y, _, rfl⟩ := hu
  rfl

theorem head_rd {w : World} {B : Nat} (k : Nat) (hk : k ≤ 9) (h : w.heap[B]? = some (.cells (splice ([(k : Int), 0, 16, 0, 0, 0, 0, 0].map (Value.int .u8)) 4 ((low8 (sum [(k : Int), 0, 16, 0]) 4).map (Value.int .u8))).toArray 5 (0, 0))) :
    Rd w (some ⟨B, 0, none⟩) 8 8 (low8 (1048576 + k) 4 ++ low8 (sum (low8 (1048576 + k) 4)) 4) := by
  have e1 : low8 (1048576 + k) 4 = [(k : Int), 0, 16, 0] := by
    simp only [low8, List.cons.injEq, and_true]
    omega
  have e2 : splice ([(k : Int), 0, 16, 0, 0, 0, 0, 0].map (Value.int .u8)) 4 ((low8 (sum [(k : Int), 0, 16, 0]) 4).map (Value.int .u8)) = ([(k : Int), 0, 16, 0] ++ low8 (sum [(k : Int), 0, 16, 0]) 4).map (Value.int .u8) := by
    unfold splice
    rw [List.length_map, low8_len, List.map_append]
    simp
  rw [e2] at h
  rw [e1]
  generalize hys : [(k : Int), 0, 16, 0] ++ low8 (sum [(k : Int), 0, 16, 0]) 4 = ys at *
  have hl : ys.length = 8 := by rw [← hys, List.length_append, low8_len]; rfl
  have hby : Byt ys := by
    rw [← hys, ← e1]; exact (low8_byt _ _).append (low8_byt _ _)
  refine ⟨hl, Nat.le_refl _, by decide, hby, (fun h => by cases h), .inr ⟨B, 0, rfl, fun j hj => ?_⟩⟩
  rw [Nat.zero_add, cell_of_row _ B j _ _ _ h]
  simp [List.getElem?_eq_getElem (show j < ys.length by omega)]

set_option maxRecDepth 100000 in
set_option maxHeartbeats 2000000 in
theorem wireLong_neg (n : Int) (k m : Nat) (h0 : -9223372036854775808 ≤ n) (h1 : n ≤ 9223372036854775807) (hr : n.tmod 10 = -(k : Int)) (hk0 : 1 ≤ k) (hk1 : k ≤ 9) (hm : 1048576 - -(k : Int) = (m : Int)) (w : World) :
    Calls Tryd.prog 8 #[.int .i64 n] w fun e w' => e = .returned (.bool true) ∧ Below w.heap.size w w' := by
  have hmk := run_make_row' (P := Tryd.prog) 33 5 (.int .u8 0) 1 Tryd.underlying33 Tryd.infoByte rfl .i64 .i64 m (by omega) (by omega)
  go_enter Tryd.func8, Tryd.ntmps8
  go_wp2_with fail
  refine (told_any _).mono ?_
  rintro e w1 ⟨rfl, hB1⟩
  go_wp2_with fail
  refine (frame_great _ m m _ (by omega) (by omega)).mono ?_
  rintro e w2 ⟨rfl, hw2⟩
  have hB2 : Below w.heap.size w w2 := by rw [hw2]; exact hB1.alloc hB1.size _
  clear hw2 hB1 hmk hm hr h0 h1
  have hkb : Byt [(k : Int), 0, 16, 0, 0, 0, 0, 0] := by intro x hx; simp only [List.mem_cons, List.mem_nil_iff, or_false] at hx; omega
  have hrl := Rd.fresh w2 [(k : Int), 0, 16, 0, 0, 0, 0, 0] hkb (by simp)
  have hrl4 : Rd (w2.alloc (.cells ([(k : Int), 0, 16, 0, 0, 0, 0, 0].map (Value.int .u8)).toArray 5)) (some ⟨w2.heap.size, 0, none⟩) 4 8 [(k : Int), 0, 16, 0] := hrl.cutAt 0 4 (by omega) (by simp)
  have hgl : (w2.alloc (.cells ([(k : Int), 0, 16, 0, 0, 0, 0, 0].map (Value.int .u8)).toArray 5)).heap[w2.heap.size]? = some (.cells ([(k : Int), 0, 16, 0, 0, 0, 0, 0].map (Value.int .u8)).toArray 5 (0, 0)) := heap_alloc_new w2 _
  have hB3 : Below w.heap.size w (w2.alloc (.cells ([(k : Int), 0, 16, 0, 0, 0, 0, 0].map (Value.int .u8)).toArray 5)) := hB2.alloc hB2.size _
  have hlt := hB2.size
  have hW0 : (w2.alloc (.cells #[.int .u8 k, .int .u8 0, .int .u8 16, .int .u8 0, .int .u8 0, .int .u8 0, .int .u8 0, .int .u8 0] 5)) = (w2.alloc (.cells ([(k : Int), 0, 16, 0, 0, 0, 0, 0].map (Value.int .u8)).toArray 5)) := rfl
  have HL : Hid _ := hrl4
  have HG : Hid _ := hgl
  have HB3 : Hid _ := hB3
  have HW0 : Hid _ := hW0
  clear hrl hrl4 hgl hB3 hB2 hW0 hkb
  go_wp2_with fail
  rw [HW0.out]
  clear HW0
  generalize (w2.alloc (.cells ([(k : Int), 0, 16, 0, 0, 0, 0, 0].map (Value.int .u8)).toArray 5)) = W at *
  generalize w2.heap.size = B at *
  have hBW : B < W.heap.size := (Array.getElem?_eq_some_iff.1 HG.out).1
  go_region_law (first
    | (refine step_copy_splice rfl (.tmp 34) (.tmp 37) 33 33 rfl 5 Tryd.underlying33 (by kernel_rfl) (some ⟨B, 4, none⟩) a3 4 4 4 c3 (by simp [Act.eval]) (by simp [Act.eval]) B 4 ([(k : Int), 0, 16, 0, 0, 0, 0, 0].map (Value.int .u8)) 5 hg3.out ((low8 (sum [(k : Int), 0, 16, 0]) 4).map (Value.int .u8)) hn3.out (fun _ => ⟨rfl, hp3.out⟩) hf3.out ho3.out w.heap.size w HB30.out hlt ?_; intro w4 hg4 hB4)
    | (go_simp; go_at_call 38; refine (sealed_any _ _ _ _ _ (HL.out.later (Below.refl _ _).drew)).mono ?_; rintro e w3 ⟨v3, rfl, hO3, hb3⟩; obtain ⟨a3, c3, rfl, hr3⟩ := hO3.rd (low8_byt _ _); rw [low8_len] at hr3 ⊢; have HB30 : Hid (Below w.heap.size w w3) := HB3.out.drew.trans (hb3.mono HB3.out.size); have hg3 : Hid (w3.heap[B]? = some (.cells ([(k : Int), 0, 16, 0, 0, 0, 0, 0].map (Value.int .u8)).toArray 5 (0, 0))) := (hb3.block B hBW).trans HG.out; have hn3 : Hid (((low8 (sum [(k : Int), 0, 16, 0]) 4).map (Value.int .u8)).length = Nat.min 4 4) := (by unfold Hid; rw [List.length_map, low8_len]; rfl); have hp3 := src_cells hr3 (by omega); have hf3 : Hid (4 + ((low8 (sum [(k : Int), 0, 16, 0]) 4).map (Value.int .u8)).length ≤ ([(k : Int), 0, 16, 0, 0, 0, 0, 0].map (Value.int .u8)).length) := (by unfold Hid; rw [List.length_map, low8_len]; simp); have ho3 := one_cells (low8 (sum [(k : Int), 0, 16, 0]) 4)))
  all_goals clear HL HG HB3 HB30 hg3 hn3 hp3 hf3 ho3 hr3 hO3 hb3
  have HR8 : Hid _ := head_rd k (by omega) hg4.out
  clear hg4
  generalize hH : low8 (1048576 + k) 4 ++ low8 (sum (low8 (1048576 + k) 4)) 4 = H at *
  generalize (low8 (sum [(k : Int), 0, 16, 0]) 4).length = L38
  have hbig : rdR (H ++ List.replicate 20 0) 0 = ([], 0, 13) := by rw [← hH]; exact rdR_big (1048576 + k) _ (by omega) (by omega)
  have HBIG : Hid _ := hbig
  have hHb : Byt H := by rw [← hH]; exact (low8_byt _ _).append (low8_byt _ _)
  clear hbig hH
  go_wp2_with (at_builtin; refine append_made _ rfl _ _ rfl rfl B 0 H rfl HR8.out ?_; intro v5 w5 hO5 hb5)
  obtain ⟨a5, L5, c5, rfl, hr5⟩ := hO5.rd' (hHb.append (byt_rep 20))
  have HR5 : Hid _ := hr5
  clear hO5 hr5
  refine (readFrame_any _ _ _ _ _ _ HR5.out).mono ?_
  rintro e w6 ⟨v6, rfl, hO6, hb6⟩
  rw [HBIG.out]
  clear hO6
  go_wp2
  go_ret
  exact ⟨rfl, hB4.trans (hb5.mono hB4.size |>.trans (hb6.mono (Nat.le_trans hB4.size hb5.size)))⟩

theorem wireLong_walk (n : Int) (h0 : -9223372036854775808 ≤ n) (h1 : n ≤ 9223372036854775807) (w : World) :
    Calls Tryd.prog 8 #[.int .i64 n] w fun e w' => e = .returned (.bool true) ∧ Below w.heap.size w w' := by
  have t1 := Int.tmod_lt_of_pos n (show (0 : Int) < 10 by decide)
  have t2 := Int.lt_tmod_of_pos n (show (0 : Int) < 10 by decide)
  have hb : -9 ≤ n.tmod 10 ∧ n.tmod 10 ≤ 9 := by omega
  by_cases hp : 0 ≤ n.tmod 10
  · exact wireLong_pos n (n.tmod 10) (1048576 - n.tmod 10).toNat h0 h1 rfl hp hb.2 (by omega) w
  · exact wireLong_neg n (-(n.tmod 10)).toNat (1048576 - n.tmod 10).toNat h0 h1 (by omega) (by omega) (by omega) (by omega) w
end Go.Proofs.YtfldgjkpkmnkbaaDoor
