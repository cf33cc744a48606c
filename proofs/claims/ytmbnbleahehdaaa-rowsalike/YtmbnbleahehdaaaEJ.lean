import Derived.Test.YtmbnbleahehdaaaEI
import Derived.Test.YtmbnbleahehdaaaEC
import Derived.Deep.RegionHeld3
namespace Go.Proofs.Ytmbnbleahehdaaa
open Go.RowKit
set_option linter.unusedVariables false

theorem cell_of_heapE {w w' : World} {B : Nat} (h : w'.heap[B]? = w.heap[B]?) (j : Nat) : w'.cell? ⟨B, j, none⟩ = w.cell? ⟨B, j, none⟩ := by unfold World.cell?; simp only [h]
theorem RowO.later {w w' : World} {base B : Nat} {cs : List Int} {ws : List Nat} {b : Nat} (h : RowO w base B cs ws b) (hb : Below w.heap.size w w') : RowO w' base B cs ws b := by
  obtain ⟨v1, v2, k, p1, p2, ov⟩ := h
  exact ⟨v1, v2, kept hb k, p1, p2, ov.later hb⟩
theorem OwnP.sl {w : World} {base : Nat} {v : Value} {ts : List P3} (h : OwnP w base v ts) : ∃ ao cap, v = .slice ao ts.length cap := by
  rcases h.form with ⟨rfl, rfl⟩ | ⟨g, cap, rfl, _⟩
  · exact ⟨_, _, rfl⟩
  · exact ⟨_, _, rfl⟩
theorem OwnP.at {w : World} {base : Nat} {ao : Option Addr} {n cap : Nat} {ts : List P3} (h : OwnP w base (.slice ao n cap) ts) {j : Nat} (hj : j < ts.length) : ∃ g, ao = some ⟨g, 0, none⟩ ∧ base ≤ g ∧ g < w.heap.size ∧ w.cell? ⟨g, j * 3, none⟩ = some (.int .i64 ts[j].1) ∧ w.cell? ⟨g, j * 3 + 1, none⟩ = some (.int .i64 ts[j].2.1) ∧ w.cell? ⟨g, j * 3 + 2, none⟩ = some (.int .i64 ts[j].2.2) := by
  rcases h.form with ⟨rfl, _⟩ | ⟨g, cap, e, hg, hl, hc⟩
  · simp at hj
  · cases e
    obtain ⟨q0, q1, q2⟩ := pcs_at ts j hj
    exact ⟨g, rfl, hg, hl, hc _ _ q0, hc _ _ q1, hc _ _ q2⟩
set_option maxRecDepth 100000 in
set_option maxHeartbeats 4000000 in
theorem meanRow_any (x0 x1 x2 x3 x4 x5 x6 x7 x8 x10 x11 x12 x13 : Value) (A : Nat) (c h k c' h' k' q r s i : Int) (ps : List P3) (ix : P3 → Int) (hps : ps.length ≤ 1000)
    (hO : ∀ w, Calls Try.prog 18 #[.agg #[x0, x1, x2, x3, x4, x5, x6, x7, x8, .float .f64 A, x10, x11, x12, x13], .agg #[.int .i64 c, .int .i64 h, .int .i64 k]] w fun e w' => e = .returned (.tuple #[.agg #[.int .i64 c', .int .i64 h', .int .i64 k'], .int .i64 0]) ∧ Below w.heap.size w w')
    (hP : ∀ w, Calls Try.prog 23 #[.int .i64 i, .agg #[.int .i64 c', .int .i64 h', .int .i64 k']] w fun e w' => e = .returned (.agg #[.int .i64 q, .int .i64 r, .int .i64 s]) ∧ Below w.heap.size w w')
    (hW : ∀ w, Calls Try.prog 22 #[.agg #[x0, x1, x2, x3, x4, x5, x6, x7, x8, .float .f64 A, x10, x11, x12, x13], .agg #[.int .i64 c, .int .i64 h, .int .i64 k], .agg #[.int .i64 q, .int .i64 r, .int .i64 s]] w fun e w' => ∃ v, e = .returned v ∧ OwnP w' w.heap.size v ps ∧ Below w.heap.size w w')
    (hI : ∀ p, p ∈ ps → ∀ w, Calls Try.prog 24 #[.agg #[.int .i64 p.1, .int .i64 p.2.1, .int .i64 p.2.2], .agg #[.int .i64 c, .int .i64 h, .int .i64 k]] w fun e w' => e = .returned (.int .i64 (ix p)) ∧ Below w.heap.size w w')
    (w : World) :
    Calls Try.prog 38 #[.agg #[x0, x1, x2, x3, x4, x5, x6, x7, x8, .float .f64 A, x10, x11, x12, x13], .agg #[.int .i64 c, .int .i64 h, .int .i64 k], .int .i64 i] w fun e w' => ∃ v1 v2, e = .returned (.agg #[v1, v2, .float .f64 0]) ∧ v1.oneCell' = true ∧ v2.oneCell' = true ∧ RowV w' w.heap.size v1 v2 (ps.map ix) (ps.map fun _ => A) ∧ Below w.heap.size w w' := by
  have HO : Hid _ := hO
  have HP : Hid _ := hP
  have HW : Hid _ := hW
  have HI : Hid _ := hI
  clear hO hP hW hI
  go_enter Try.func38, Try.ntmps38
  go_wp2_with fail
  refine Calls.mono (HO.out _) ?_
  rintro e w1 ⟨rfl, hb⟩
  have HB1 : Hid (Below w.heap.size w w1) := to_call ((((Below.refl _ w).alloc (Nat.le_refl _) _).alloc (by simp only [alloc_size]; omega) _).alloc (by simp only [alloc_size]; omega) _) hb
  have k0 := kept hb (alloc_kept (alloc_kept (heap_alloc_new w _) _) _)
  have k1 := kept hb (alloc_kept (heap_at _ _ (w.heap.size + 1) (by simp only [alloc_size])) _)
  have k2 := kept hb (heap_at _ _ (w.heap.size + 1 + 1) (by simp only [alloc_size]))
  have hsz := blk_lt k2
  clear hb HO
  go_upto_region 2 with (first | (refine wpList_store_row (by rfl) 25 _ _ (by rfl) w w.heap.size w1.heap.size _ _ (by rfl) (by rfl) (heap_alloc_new w1 _) (HB1.out.alloc (by omega) _) (by omega) 3 Try.infoShape (by rfl) (by rfl) (by exact one3 ..) ?_; intro W2 e2 hb2 hs2 ho2))
  go_upto_region 3 with fail
  have m0 := alloc_kept ((ho2 _ (by omega)).trans (alloc_kept k0 _)) (Obj.cells #[.slice none 0 0, .slice none 0 0, .float .f64 0] 71)
  have m1 := alloc_kept ((ho2 _ (by omega)).trans (alloc_kept k1 _)) (Obj.cells #[.slice none 0 0, .slice none 0 0, .float .f64 0] 71)
  have m2 := alloc_kept ((ho2 _ (by omega)).trans (alloc_kept k2 _)) (Obj.cells #[.slice none 0 0, .slice none 0 0, .float .f64 0] 71)
  have m3 := alloc_kept e2 (Obj.cells #[.slice none 0 0, .slice none 0 0, .float .f64 0] 71)
  have m4 := heap_alloc_new W2 (Obj.cells #[.slice none 0 0, .slice none 0 0, .float .f64 0] 71)
  have b3 := (hb2.alloc hb2.size (Obj.cells #[.slice none 0 0, .slice none 0 0, .float .f64 0] 71)).drew
  have hl2 := blk_lt e2
  have hR : W2.heap.size = w1.heap.size + 1 := by rw [hs2]; exact alloc_size ..
  obtain ⟨R, hRR⟩ : ∃ R, w1.heap.size + 1 = R := ⟨_, rfl⟩
  rw [hRR] at hR
  have hs3 : (W2.alloc (Obj.cells #[.slice none 0 0, .slice none 0 0, .float .f64 0] 71)).drew.heap.size = R + 1 := by rw [← hR]; exact alloc_size ..
  rw [hR] at m4
  rw [hRR]
  have hRl : w1.heap.size < R := by omega
  have N0 : Hid ((W2.alloc (Obj.cells #[.slice none 0 0, .slice none 0 0, .float .f64 0] 71)).drew.heap[w.heap.size]? = _) := m0
  have N1 : Hid ((W2.alloc (Obj.cells #[.slice none 0 0, .slice none 0 0, .float .f64 0] 71)).drew.heap[w.heap.size + 1]? = _) := m1
  have N2 : Hid ((W2.alloc (Obj.cells #[.slice none 0 0, .slice none 0 0, .float .f64 0] 71)).drew.heap[w.heap.size + 1 + 1]? = _) := m2
  have N3 : Hid ((W2.alloc (Obj.cells #[.slice none 0 0, .slice none 0 0, .float .f64 0] 71)).drew.heap[w1.heap.size]? = _) := m3
  have N4 : Hid ((W2.alloc (Obj.cells #[.slice none 0 0, .slice none 0 0, .float .f64 0] 71)).drew.heap[R]? = _) := m4
  have B3 : Hid (Below w.heap.size w (W2.alloc (Obj.cells #[.slice none 0 0, .slice none 0 0, .float .f64 0] 71)).drew) := b3
  clear m0 m1 m2 m3 m4 k0 k1 k2 e2 hb2 hs2 ho2 b3 HB1 hR hRR hl2
  generalize hWW : W2.alloc (Obj.cells #[.slice none 0 0, .slice none 0 0, .float .f64 0] 71) = W3 at *
  clear hWW
  obtain ⟨a0, a1, a2, a3, a4, a5, a6, a7, a8, a9, a10, a11, a12, a13⟩ := cells14 N0.out
  obtain ⟨b0, b1, b2⟩ := cells3 N1.out
  obtain ⟨d0, d1, d2⟩ := cells3 N3.out
  go_region_held3 (fun w' => w'.cell? ⟨w.heap.size, 0, none⟩ = some (x0) ∧ w'.cell? ⟨w.heap.size, 1, none⟩ = some (x1) ∧ w'.cell? ⟨w.heap.size, 2, none⟩ = some (x2) ∧ w'.cell? ⟨w.heap.size, 3, none⟩ = some (x3) ∧ w'.cell? ⟨w.heap.size, 4, none⟩ = some (x4) ∧ w'.cell? ⟨w.heap.size, 5, none⟩ = some (x5) ∧ w'.cell? ⟨w.heap.size, 6, none⟩ = some (x6) ∧ w'.cell? ⟨w.heap.size, 7, none⟩ = some (x7) ∧ w'.cell? ⟨w.heap.size, 8, none⟩ = some (x8) ∧ w'.cell? ⟨w.heap.size, 9, none⟩ = some (.float .f64 A) ∧ w'.cell? ⟨w.heap.size, 10, none⟩ = some (x10) ∧ w'.cell? ⟨w.heap.size, 11, none⟩ = some (x11) ∧ w'.cell? ⟨w.heap.size, 12, none⟩ = some (x12) ∧ w'.cell? ⟨w.heap.size, 13, none⟩ = some (x13) ∧ w'.cell? ⟨w.heap.size + 1, 0, none⟩ = some (.int .i64 c) ∧ w'.cell? ⟨w.heap.size + 1, 1, none⟩ = some (.int .i64 h) ∧ w'.cell? ⟨w.heap.size + 1, 2, none⟩ = some (.int .i64 k) ∧ w'.cell? ⟨w1.heap.size, 0, none⟩ = some (.int .i64 c') ∧ w'.cell? ⟨w1.heap.size, 1, none⟩ = some (.int .i64 h') ∧ w'.cell? ⟨w1.heap.size, 2, none⟩ = some (.int .i64 k')) (go_keep)
    (first
      | (go_at_call 23; refine Calls.mono (HP.out _) ?_; rintro e5 w5 ⟨rfl, hb5⟩; have B5 : Hid (Below w.heap.size w w5) := to_call B3.out hb5; have G5 : Hid (Below W3.drew.heap.size W3.drew w5) := hb5; clear hb5; obtain ⟨a0, a1, a2, a3, a4, a5, a6, a7, a8, a9, a10, a11, a12, a13⟩ := cells14 (kept G5.out N0.out); obtain ⟨b0, b1, b2⟩ := cells3 (kept G5.out N1.out); obtain ⟨d0, d1, d2⟩ := cells3 (kept G5.out N3.out))
      | (go_at_call 22; refine Calls.mono (HW.out _) ?_; rintro e6 w6 ⟨v6, rfl, op6, hb6⟩; have G6 : Hid (Below W3.drew.heap.size W3.drew w6) := G5.out.trans (hb6.mono G5.out.size); have OP6 : Hid (OwnP w6 W3.drew.heap.size v6 ps) := op6.mono G5.out.size; clear hb6 op6; obtain ⟨ao6, cap6, rfl⟩ := OP6.out.sl; obtain ⟨a0, a1, a2, a3, a4, a5, a6, a7, a8, a9, a10, a11, a12, a13⟩ := cells14 (kept G6.out N0.out); obtain ⟨b0, b1, b2⟩ := cells3 (kept G6.out N1.out); obtain ⟨d0, d1, d2⟩ := cells3 (kept G6.out N3.out)))
  have B6 : Hid (Below w.heap.size w w6) := to_call B3.out G6.out
  have M0 : Hid _ := kept G6.out N0.out
  have M1 : Hid _ := kept G6.out N1.out
  have M2 : Hid _ := kept G6.out N2.out
  have M4 : Hid _ := kept G6.out N4.out
  have hs6 := blk_lt M4.out
  have HO6 : Hid (RowO w6 w6.heap.size R [] [] 0) := ⟨_, _, M4.out, rfl, rfl, World.ownsRow_nil _ _ _ 1, World.ownsRow_nil _ _ _ 1⟩
  clear a0 a1 a2 a3 a4 a5 a6 a7 a8 a9 a10 a11 a12 a13 b0 b1 b2 d0 d1 d2 N0 N1 N2 N3 N4 G5 G6 B5 HP HW B3
  go_wp2_with fail
  go_loopg [25] ps.length (fun g v wx => ∃ j : Nat, v = .int .i64 j ∧ j + g = ps.length ∧ Hid (RowO wx w6.heap.size R ((ps.take j).map ix) ((ps.take j).map fun _ => A) 0) ∧ Hid (Below w.heap.size w wx) ∧ Hid (∀ k, k < w6.heap.size → k ≠ R → wx.heap[k]? = w6.heap[k]?) ∧ w6.heap.size ≤ wx.heap.size)
  case atStart => exact ⟨0, rfl, by omega, HO6.out, B6.out, fun _ _ _ => rfl, Nat.le_refl _⟩
  case round =>
    obtain ⟨j, rfl, hj, HO, HB, HK, hwr⟩ := hrel
    by_cases hlt : j < ps.length
    · obtain ⟨g, rfl⟩ : ∃ g, gk = g + 1 := ⟨gk - 1, by omega⟩
      have hd : decide ((j : Int) < (ps.length : Int)) = true := decide_eq_true (by omega)
      obtain ⟨gb, rfl, hgb, hgl, t0, t1, t2⟩ := OP6.out.at hlt
      obtain ⟨p, hp⟩ : ∃ p, ps[j] = p := ⟨_, rfl⟩
      have hpm : p ∈ ps := by rw [← hp]; exact List.getElem_mem hlt
      have HTK : Hid (ps.take (j + 1) = ps.take j ++ [p]) := by unfold Hid; rw [List.take_succ_eq_append_getElem hlt, hp]
      rw [hp] at t0 t1 t2
      have hgR : gb ≠ R := by omega
      have hcg := cell_of_heapE (HK.out gb hgl hgR)
      rw [← hcg] at t0 t1 t2
      have i0 : (0 : Int) ≤ (j : Int) := by omega
      have i1 : (j : Int) < (ps.length : Int) := by omega
      have hw1 : IntKind.i64.wrap ((j : Int) + 1) = (j : Int) + 1 := by have := hps; rw [IntKind.wrap_i64]; omega
      go_wp2_with fail
      have X0 : Hid (wr.heap[w.heap.size]? = _) := (HK.out _ (by omega) (by omega)).trans M0.out
      have X1 : Hid (wr.heap[w.heap.size + 1]? = _) := (HK.out _ (by omega) (by omega)).trans M1.out
      have hxb : Below wr.heap.size wr (wr.alloc (Obj.cells #[.int .i64 p.1, .int .i64 p.2.1, .int .i64 p.2.2] 67)).drew := ((Below.refl _ wr).alloc (Nat.le_refl _) _).drew
      have XP : Hid ((wr.alloc (Obj.cells #[.int .i64 p.1, .int .i64 p.2.1, .int .i64 p.2.2] 67)).drew.heap[wr.heap.size]? = _) := heap_alloc_new wr _
      have XB : Hid _ := hxb
      clear t0 t1 t2 hxb hcg
      obtain ⟨t0, t1, t2⟩ := cells3 XP.out
      obtain ⟨b0, b1, b2⟩ := cells3 (kept XB.out X1.out)
      have a9 := cellOf (kept XB.out X0.out) 9 (.float .f64 A) rfl
      have hl1 : ((ps.take j).map ix).length ≤ 1000 := by rw [List.length_map, List.length_take]; omega
      have hl2 : ((ps.take j).map fun _ => A).length ≤ 1000 := by rw [List.length_map, List.length_take]; omega
      go_region_with
        (first
          | (go_at_call 24; refine Calls.mono (HI.out p hpm _) ?_; rintro e7 w7 ⟨rfl, hb7⟩; have G7 : Hid (Below wr.heap.size wr w7) := to_call XB.out hb7; clear hb7; have a9 := cellOf (kept G7.out X0.out) 9 (.float .f64 A) rfl)
          | (go_at_call 44; refine Calls.mono (put_any R w6.heap.size _ _ 0 (ix p) A _ (RowO.later HO.out G7.out) (Nat.le_trans hwr G7.out.size) w.heap.size (by omega) (by omega) hl1 hl2) ?_; rintro e8 w8 ⟨rfl, o8, b8, t8⟩))
      all_goals
        have HO8 : Hid _ := o8
        have HB8 : Hid (Below w.heap.size w w8) := (to_call HB.out G7.out).trans b8
        have HK8 : Hid (∀ k, k < w6.heap.size → k ≠ R → w8.heap[k]? = w6.heap[k]?) := fun k hk hne => ((t8 k hk hne).trans (G7.out.block k (by omega))).trans (HK.out k hk hne)
        have hs8 : w6.heap.size ≤ w8.heap.size := Nat.le_trans (Nat.le_trans hwr G7.out.size) b8.size
        clear o8 b8 t8 t0 t1 t2 b0 b1 b2 a9
        go_wp2_with fail
        go_roundg g
        case measure => omega
        case rel => exact ⟨j + 1, by go_num, by omega, by have := HO8.out; unfold Hid; rw [HTK.out, List.map_append, List.map_append]; exact this, HB8.out, HK8.out, hs8⟩
    · obtain rfl : j = ps.length := by omega
      have hd : decide ((ps.length : Int) < (ps.length : Int)) = false := decide_eq_false (by omega)
      obtain ⟨v1, v2, k1, p1, p2, ov⟩ := HO.out
      have HV : Hid (RowV wr w.heap.size v1 v2 (ps.map ix) (ps.map fun _ => A)) := by
        have := ov.mono (show w.heap.size ≤ w6.heap.size by omega)
        rw [List.take_length] at this
        exact this
      have K1 : Hid (wr.heap[R]? = _) := k1
      have HKR : Hid (wr.heap[w.heap.size + 1 + 1]? = _) := (HK.out _ (by omega) (by omega)).trans M2.out
      clear k1 ov
      go_wp2_with (first
        | (refine wpList_load_row (by rfl) 71 _ (by rfl) R _ (by rfl) K1.out _ Try.underlying71 rfl 3 Try.infoRow (by rfl) ?_)
        | (refine wpList_store_row (by rfl) 71 _ _ (by rfl) w w.heap.size (w.heap.size + 1 + 1) _ _ (by rfl) (by rfl) HKR.out HB.out (by omega) 3 Try.infoRow (by rfl) (by rfl) (by exact one_row _ _ _ p1 p2) ?_; intro W9 e9 hb9 hs9 ho9))
      refine bodyPost_ret (res_one _ 6 71 (by kernel_rfl) _ _ (w.heap.size + 1 + 1) _ (by rfl) _ Try.underlying71 rfl 3 Try.infoRow rfl e9) rfl ?_
      refine ⟨v1, v2, rfl, p1, p2, HV.out.keep fun k hk hv => ho9 k fun e => ?_, hb9⟩
      rcases hv with hv | hv
      · exact own_ne HV.out.o1 HKR.out (by decide) (e ▸ hv)
      · exact own_ne HV.out.o2 HKR.out (by decide) (e ▸ hv)
end Go.Proofs.Ytmbnbleahehdaaa
