import Derived.Test.YtfldgjkpkmnkbabDoorTold
import Derived.Test.YtfldgjkpkmnkbabDoorOwnL
import Derived.Lib.SlBytesConst
namespace Go.Proofs.YtfldgjkpkmnkbabDoor
open Go.RowKit
set_option linter.unusedVariables false

theorem Tryd.elemLists : Tryd.prog.elem 46 = 23 := by kernel_rfl
theorem Tryd.sizeBytes (w : World) : (sizeOf 23).run Tryd.prog w = .ok 1 w := by kernel_rfl

/-- 'parts[:q]' -/
theorem cutL_to {W : World} {ao : Option Addr} {n cap : Nat} {pss : List (List Int)} (hr : RdL W ao n pss) (hc : n ≤ cap) (q : Nat) (hq : q ≤ n) :
    ∃ ao' n' cap', (∀ w, (Instr.slice 46 (.slice ao n cap) none (some (.int .i64 q)) none).run Tryd.prog w = .ok (.slice ao' n' cap') w) ∧ RdL W ao' n' (pss.take q) ∧ n' ≤ cap' := by
  refine ⟨if cap = 0 then ao else ao.map (·.add (0 * 1)), q, cap, fun w => ?_, ?_, by omega⟩
  · rw [run_slice_h w _ _ _ _ (by rw [Tryd.elemLists]; exact Tryd.underlying46) .i64 q (by omega) (by omega), Tryd.elemLists, Tryd.sizeBytes]
    simp [Result.andThen, sliced]
  · refine ⟨by rw [List.length_take, hr.length]; omega, by have := hr.max; omega, ?_⟩
    by_cases h0 : q = 0
    · exact .inl h0
    · right
      rcases hr.cells with h1 | ⟨b, off, rfl, hcell⟩
      · omega
      · refine ⟨b, off, ?_, fun j hj => ?_⟩
        · rw [if_neg (by omega), Option.map_some, Addr.add_lit]; rfl
        · rw [List.getElem?_take, if_pos hj]
          exact hcell j (by omega)

/-- The values are slices of old memory that read as these. -/
def AllRd (w : World) (vs : List Value) (qss : List (List Int)) : Prop := vs.length = qss.length ∧ ∀ j, j < vs.length → ∃ a l c, vs[j]? = some (.slice a l c) ∧ Rd w a l c (qss[j]?.getD [])

theorem AllRd.nil (w : World) : AllRd w [] [] := ⟨rfl, fun j hj => by simp at hj⟩
theorem AllRd.snoc {w : World} {vs : List Value} {qss : List (List Int)} (h : AllRd w vs qss) {a : Option Addr} {l c : Nat} {ys : List Int} (hr : Rd w a l c ys) : AllRd w (vs ++ [.slice a l c]) (qss ++ [ys]) := by
  refine ⟨by simp [h.1], fun j hj => ?_⟩
  by_cases hjl : j < vs.length
  · rw [List.getElem?_append_left hjl, List.getElem?_append_left (by rw [← h.1]; exact hjl)]
    exact h.2 j hjl
  · have : j = vs.length := by simp at hj; omega
    subst this
    refine ⟨a, l, c, by simp, ?_⟩
    rw [h.1]
    simpa using hr
theorem AllRd.rdL {w wr : World} {base : Nat} {v : Value} {vs : List Value} {qss : List (List Int)} (h : AllRd w vs qss) (hb : Below w.heap.size w wr) (ho : OwnV wr base v vs) (hl : vs.length ≤ 1000) :
    ∃ ao cap, v = .slice ao vs.length cap ∧ RdL wr ao vs.length qss := by
  rcases ho.2 with ⟨rfl, h0⟩ | ⟨g, cap, cur, rfl, hg, hh, hnc, hcm, hcs, ht⟩
  · exact ⟨none, 0, by rw [h0], by rw [← h.1], by omega, .inl h0⟩
  · refine ⟨_, cap, rfl, by rw [← h.1], by omega, ?_⟩
    by_cases h0 : vs.length = 0
    · exact .inl h0
    · refine .inr ⟨g, 0, rfl, fun j hj => ?_⟩
      obtain ⟨a, l, c, h1, h2⟩ := h.2 j hj
      refine ⟨a, l, c, ?_, h2.later hb⟩
      have := World.ownsRow.cells ho (g := g) rfl j _ h1
      rw [Addr.add_lit] at this
      exact this

def capped (pss : List (List Int)) : List (List Int) := pss.map (·.take 1048576)

theorem flat_le (pss : List (List Int)) : (capped pss).flatten.length ≤ 1048576 * pss.length := by
  induction pss with
  | nil => simp [capped]
  | cons p ps ih =>
    simp only [capped, List.map_cons, List.flatten_cons, List.length_append, List.length_take, List.length_cons] at ih ⊢
    omega
theorem capped_snoc (pss : List (List Int)) (k : Nat) (hk : k < pss.length) : capped (pss.take (k + 1)) = capped (pss.take k) ++ [(pss[k]?.getD []).take 1048576] := by
  rw [List.take_succ_eq_append_getElem hk, List.getElem?_eq_getElem hk]
  unfold capped
  rw [List.map_append]
  rfl
theorem flat_byt {w : World} {vs : List Value} {qss : List (List Int)} (h : AllRd w vs qss) : Byt qss.flatten := by
  intro x hx
  obtain ⟨l, hl, hxl⟩ := List.mem_flatten.1 hx
  obtain ⟨j, hj, rfl⟩ := List.getElem_of_mem hl
  obtain ⟨a, n, c, _, hr⟩ := h.2 j (by rw [h.1]; exact hj)
  rw [List.getElem?_eq_getElem hj] at hr
  exact hr.byt x hxl

theorem sum_digits : sum [49, 50, 51, 52, 53, 54, 55, 56, 57] = 3808858755 := by decide +kernel
theorem sum_nil : sum [] = 0 := by decide +kernel

theorem Rd.freshF (w : World) (xs : List Int) (fr : Nat × Nat) (hb : Byt xs) (hl : xs.length ≤ 1000) : Rd (w.alloc (.cells (xs.map (Value.int .u8)).toArray 5 fr)) (some ⟨w.heap.size, 0, none⟩) xs.length xs.length xs := by
  refine ⟨rfl, Nat.le_refl _, by omega, hb, (fun h => by cases h), ?_⟩
  by_cases h0 : xs.length = 0
  · exact .inl h0
  · refine .inr ⟨_, _, rfl, fun j hj => ?_⟩
    rw [Nat.zero_add, cell_of_row _ w.heap.size j _ _ _ (heap_alloc_new w _)]
    simp [List.getElem?_eq_getElem hj]
theorem size_alloc1 (w : World) (o : Obj) : (w.alloc o).heap.size = w.heap.size + 1 := by simp
theorem rdL_nil (w : World) : RdL w none 0 [] := ⟨rfl, by decide, .inl rfl⟩

set_option maxRecDepth 100000 in
set_option maxHeartbeats 4000000 in
theorem wireJoined_small (ao : Option Addr) (n cap : Nat) (pss : List (List Int)) (w : World) (hr : RdL w ao n pss) (hn : n ≤ 20) :
    Calls Tryd.prog 6 #[.slice ao n cap] w fun e w' => e = .returned (.bool true) ∧ Below w.heap.size w w' := by
  have hcl := hr.cells
  have HL : Hid _ := hr.length
  have HR : Hid _ := hr
  clear hr
  go_enter Tryd.func6, Tryd.ntmps6
  go_wp2
  go_loopw [3, 4, 5] (fun all cut i wr => ∃ (k : Nat) (vs : List Value), k ≤ n ∧ i = .int .i64 k ∧ Own wr w.heap.size all (capped (pss.take k)).flatten ∧ OwnV wr w.heap.size cut vs ∧ Hid (AllRd w vs (capped (pss.take k))) ∧ Hid (vs.length = k) ∧ Below w.heap.size w wr) (fun _ _ i _ => n - (intOf i).toNat)
  case atStart => exact ⟨0, [], by omega, rfl, Own.nil _ _, OwnV.nil _ _, AllRd.nil _, rfl, Below.refl _ _⟩
  case round =>
    obtain ⟨k, vs, hk, rfl, hO, hV, hA, hvl, hbel⟩ := hrel
    have hsz := hbel.size
    by_cases hlt : k < n
    · rcases hcl with h0 | ⟨b, off, rfl, hc⟩
      · omega
      obtain ⟨a, l, c, hcell, hrd⟩ := hc k hlt
      have g := (hbel.cell (World.block_lt_of_cell? w _ hcell)).trans hcell
      have hml : l ≤ 9223372036854775807 := by have := hrd.le; have := hrd.max; omega
      have Hsn : Hid _ := capped_snoc pss k (by rw [HL.out]; exact hlt)
      have Hfl : Hid ((capped (pss.take k)).flatten.length ≤ 1048576 * 20) := by
        unfold Hid
        have := flat_le (pss.take k)
        rw [List.length_take] at this
        omega
      have hvs : vs.length ≤ 20 := by rw [hvl.out]; omega
      clear hcell hc
      generalize pss[k]?.getD [] = ys at *
      generalize capped (pss.take k) = qss at *
      by_cases hbig : 1048576 < l
      · obtain ⟨a', l', c', hcut, hr'⟩ := cut_to hrd 1048576 (by omega)
        have hcut' : ∀ w, (Instr.slice 23 (.slice a l c) none (some (.int .i64 1048576)) none).run Tryd.prog w = .ok (.slice a' l' c') w := hcut
        have hl' : l' ≤ 1048576 := by have h := hr'.length; rw [List.length_take] at h; omega
        have HR' : Hid _ := hr'
        clear hcut hr' hrd
        go_wp2_with (first | (at_builtin; refine appendV wr rfl (.tmp 27) (.tmp 29) rfl w.heap.size u4 vs rfl hV _ rfl rfl (by omega) hsz ?_; intro v4 w4 hV4 hk4 hb4) | (at_builtin; refine append_rdV _ rfl _ _ rfl w.heap.size _ _ rfl (hk4 _ _ hO) _ _ _ _ rfl (HR'.out.later (hbel.trans hb4)) (by have := Hfl.out; omega) (hbel.trans hb4).size ?_; intro v5 w5 hO5 hk5 hb5))
        go_roundw
        case rel => exact ⟨k + 1, vs ++ [.slice a' l' c'], by omega, by go_num, by rw [Hsn.out, List.flatten_append]; simpa using hO5, hk5 _ _ hV4, by unfold Hid; rw [Hsn.out]; exact hA.out.snoc HR'.out, by unfold Hid; simp [hvl.out], (hbel.trans hb4).trans hb5⟩
        case measure => simp [intOf]; omega
      · have hyt : Hid (ys.take 1048576 = ys) := by unfold Hid; exact List.take_of_length_le (by rw [hrd.length]; omega)
        have HR' : Hid _ := hrd
        clear hrd
        go_wp2_with (first | (at_builtin; refine appendV wr rfl (.tmp 27) (.tmp 29) rfl w.heap.size u4 vs rfl hV _ rfl rfl (by omega) hsz ?_; intro v4 w4 hV4 hk4 hb4) | (at_builtin; refine append_rdV _ rfl _ _ rfl w.heap.size _ _ rfl (hk4 _ _ hO) _ _ _ _ rfl (HR'.out.later (hbel.trans hb4)) (by have := Hfl.out; omega) (hbel.trans hb4).size ?_; intro v5 w5 hO5 hk5 hb5))
        go_roundw
        case rel => exact ⟨k + 1, vs ++ [.slice a l c], by omega, by go_num, by rw [Hsn.out, List.flatten_append, hyt.out]; simpa using hO5, hk5 _ _ hV4, by unfold Hid; rw [Hsn.out, hyt.out]; exact hA.out.snoc HR'.out, by unfold Hid; simp [hvl.out], (hbel.trans hb4).trans hb5⟩
        case measure => simp [intOf]; omega
    · have hkn : k = n := by omega
      clear hcl
      generalize capped (pss.take k) = qss at *
      obtain ⟨a4, c4, rfl, hL4⟩ := hA.out.rdL hbel hV (by rw [hvl.out]; omega)
      obtain ⟨a3, l3, c3, rfl, hr3⟩ := hO.rd' (flat_byt hA.out)
      have HL4 : Hid _ := hL4
      have HR3 : Hid _ := hr3
      clear hL4 hr3 hV hO hkn
      generalize vs.length = m at *
      go_wp2_with fail
      refine (sum_any _ _ _ _ _ HL4.out).mono ?_
      rintro e w5 ⟨rfl, hb5⟩
      have HR35 : Hid _ := RdL.one (HR3.out.later hb5)
      go_wp2_with fail
      refine (sum_any _ 1 1 _ _ HR35.out).mono ?_
      rintro e w6 ⟨rfl, hb6⟩
      rw [flatOne]
      generalize sum qss.flatten = S at *
      have hSS : ((S : Int) == (S : Int)) = true := by simp
      have HB6 : Hid (Below w.heap.size w w6) := below_trans hbel (below_trans hb5 (below_trans ((Below.refl _ _).alloc (Nat.le_refl _) _) hb6))
      clear hb5 hb6 hbel HR35 HL4 HR3
      have hcv := Lib.run_convert_bytes_const (P := Tryd.prog) w6 23 5 #[.int .u8 49, .int .u8 50, .int .u8 51, .int .u8 52, .int .u8 53, .int .u8 54, .int .u8 55, .int .u8 56, .int .u8 57] 9 9 Tryd.underlying23 Tryd.underlying5
      have HD : Hid (RdL ((w6.alloc (.cells #[.int .u8 49, .int .u8 50, .int .u8 51, .int .u8 52, .int .u8 53, .int .u8 54, .int .u8 55, .int .u8 56, .int .u8 57] 5 (9, 10))).alloc (.cells #[.slice (some ⟨w6.heap.size, 0, none⟩) 9 9] 23)) (some ⟨w6.heap.size + 1, 0, none⟩) 1 [[49, 50, 51, 52, 53, 54, 55, 56, 57]]) := by
        have h := RdL.one (Rd.freshF w6 [49, 50, 51, 52, 53, 54, 55, 56, 57] (9, 10) (by intro x hx; simp at hx; omega) (by simp))
        rw [size_alloc1] at h
        exact h
      go_wp2_with fail
      refine (sum_any _ 1 1 _ _ HD.out).mono ?_
      rintro e w7 ⟨rfl, hb7⟩
      rw [flatOne]
      have hS2 := sum_digits
      generalize sum [49, 50, 51, 52, 53, 54, 55, 56, 57] = S2 at *
      have hS3 : ((S2 : Int) == 3808858755) = true := beq_iff_eq.2 (by omega)
      clear hS2
      have HB7 : Hid (Below w6.heap.size w6 w7) := below_trans ((Below.refl _ _).alloc (Nat.le_refl _) _) (below_trans ((Below.refl _ _).alloc (Nat.le_refl _) _) hb7)
      clear hb7 hcv
      go_wp2_with fail
      refine (sum_any none 0 0 [] _ (rdL_nil _)).mono ?_
      rintro e w8 ⟨rfl, hb8⟩
      have e0 : sum ([] : List (List Int)).flatten = 0 := sum_nil
      generalize sum ([] : List (List Int)).flatten = S4 at *
      have hS5 : ((S4 : Int) == 0) = true := beq_iff_eq.2 (by omega)
      clear e0
      go_wp2_with fail
      refine (told_any _).mono ?_
      rintro e w9 ⟨rfl, hb9⟩
      go_wp2
      go_ret
      exact ⟨rfl, below_trans HB6.out (below_trans HB7.out (below_trans hb8 hb9))⟩

set_option maxRecDepth 100000 in
set_option maxHeartbeats 4000000 in
theorem wireJoined_great (ao0 : Option Addr) (n0 cap0 : Nat) (hn0 : 20 < n0) (hm0 : n0 ≤ 9223372036854775807) (ao : Option Addr) (n cap : Nat) (hcutP : ∀ w, (Instr.slice 46 (.slice ao0 n0 cap0) none (some (.int .i64 20)) none).run Tryd.prog w = .ok (.slice ao n cap) w) (pss : List (List Int)) (w : World) (hr : RdL w ao n pss) (hn : n ≤ 20) :
    Calls Tryd.prog 6 #[.slice ao0 n0 cap0] w fun e w' => e = .returned (.bool true) ∧ Below w.heap.size w w' := by
  have hcl := hr.cells
  have HL : Hid _ := hr.length
  have HR : Hid _ := hr
  clear hr
  have hd20 : decide ((20 : Int) < (n0 : Int)) = true := by simp; omega
  go_enter Tryd.func6, Tryd.ntmps6
  go_wp2
  clear hcutP
  go_loopw [3, 4, 5] (fun all cut i wr => ∃ (k : Nat) (vs : List Value), k ≤ n ∧ i = .int .i64 k ∧ Own wr w.heap.size all (capped (pss.take k)).flatten ∧ OwnV wr w.heap.size cut vs ∧ Hid (AllRd w vs (capped (pss.take k))) ∧ Hid (vs.length = k) ∧ Below w.heap.size w wr) (fun _ _ i _ => n - (intOf i).toNat)
  case atStart => exact ⟨0, [], by omega, rfl, Own.nil _ _, OwnV.nil _ _, AllRd.nil _, rfl, Below.refl _ _⟩
  case round =>
    obtain ⟨k, vs, hk, rfl, hO, hV, hA, hvl, hbel⟩ := hrel
    have hsz := hbel.size
    by_cases hlt : k < n
    · rcases hcl with h0 | ⟨b, off, rfl, hc⟩
      · omega
      obtain ⟨a, l, c, hcell, hrd⟩ := hc k hlt
      have g := (hbel.cell (World.block_lt_of_cell? w _ hcell)).trans hcell
      have hml : l ≤ 9223372036854775807 := by have := hrd.le; have := hrd.max; omega
      have Hsn : Hid _ := capped_snoc pss k (by rw [HL.out]; exact hlt)
      have Hfl : Hid ((capped (pss.take k)).flatten.length ≤ 1048576 * 20) := by
        unfold Hid
        have := flat_le (pss.take k)
        rw [List.length_take] at this
        omega
      have hvs : vs.length ≤ 20 := by rw [hvl.out]; omega
      clear hcell hc
      generalize pss[k]?.getD [] = ys at *
      generalize capped (pss.take k) = qss at *
      by_cases hbig : 1048576 < l
      · obtain ⟨a', l', c', hcut, hr'⟩ := cut_to hrd 1048576 (by omega)
        have hcut' : ∀ w, (Instr.slice 23 (.slice a l c) none (some (.int .i64 1048576)) none).run Tryd.prog w = .ok (.slice a' l' c') w := hcut
        have hl' : l' ≤ 1048576 := by have h := hr'.length; rw [List.length_take] at h; omega
        have HR' : Hid _ := hr'
        clear hcut hr' hrd
        go_wp2_with (first | (at_builtin; refine appendV wr rfl (.tmp 27) (.tmp 29) rfl w.heap.size u4 vs rfl hV _ rfl rfl (by omega) hsz ?_; intro v4 w4 hV4 hk4 hb4) | (at_builtin; refine append_rdV _ rfl _ _ rfl w.heap.size _ _ rfl (hk4 _ _ hO) _ _ _ _ rfl (HR'.out.later (hbel.trans hb4)) (by have := Hfl.out; omega) (hbel.trans hb4).size ?_; intro v5 w5 hO5 hk5 hb5))
        go_roundw
        case rel => exact ⟨k + 1, vs ++ [.slice a' l' c'], by omega, by go_num, by rw [Hsn.out, List.flatten_append]; simpa using hO5, hk5 _ _ hV4, by unfold Hid; rw [Hsn.out]; exact hA.out.snoc HR'.out, by unfold Hid; simp [hvl.out], (hbel.trans hb4).trans hb5⟩
        case measure => simp [intOf]; omega
      · have hyt : Hid (ys.take 1048576 = ys) := by unfold Hid; exact List.take_of_length_le (by rw [hrd.length]; omega)
        have HR' : Hid _ := hrd
        clear hrd
        go_wp2_with (first | (at_builtin; refine appendV wr rfl (.tmp 27) (.tmp 29) rfl w.heap.size u4 vs rfl hV _ rfl rfl (by omega) hsz ?_; intro v4 w4 hV4 hk4 hb4) | (at_builtin; refine append_rdV _ rfl _ _ rfl w.heap.size _ _ rfl (hk4 _ _ hO) _ _ _ _ rfl (HR'.out.later (hbel.trans hb4)) (by have := Hfl.out; omega) (hbel.trans hb4).size ?_; intro v5 w5 hO5 hk5 hb5))
        go_roundw
        case rel => exact ⟨k + 1, vs ++ [.slice a l c], by omega, by go_num, by rw [Hsn.out, List.flatten_append, hyt.out]; simpa using hO5, hk5 _ _ hV4, by unfold Hid; rw [Hsn.out, hyt.out]; exact hA.out.snoc HR'.out, by unfold Hid; simp [hvl.out], (hbel.trans hb4).trans hb5⟩
        case measure => simp [intOf]; omega
    · have hkn : k = n := by omega
      clear hcl
      generalize capped (pss.take k) = qss at *
      obtain ⟨a4, c4, rfl, hL4⟩ := hA.out.rdL hbel hV (by rw [hvl.out]; omega)
      obtain ⟨a3, l3, c3, rfl, hr3⟩ := hO.rd' (flat_byt hA.out)
      have HL4 : Hid _ := hL4
      have HR3 : Hid _ := hr3
      clear hL4 hr3 hV hO hkn
      generalize vs.length = m at *
      go_wp2_with fail
      refine (sum_any _ _ _ _ _ HL4.out).mono ?_
      rintro e w5 ⟨rfl, hb5⟩
      have HR35 : Hid _ := RdL.one (HR3.out.later hb5)
      go_wp2_with fail
      refine (sum_any _ 1 1 _ _ HR35.out).mono ?_
      rintro e w6 ⟨rfl, hb6⟩
      rw [flatOne]
      generalize sum qss.flatten = S at *
      have hSS : ((S : Int) == (S : Int)) = true := by simp
      have HB6 : Hid (Below w.heap.size w w6) := below_trans hbel (below_trans hb5 (below_trans ((Below.refl _ _).alloc (Nat.le_refl _) _) hb6))
      clear hb5 hb6 hbel HR35 HL4 HR3
      have hcv := Lib.run_convert_bytes_const (P := Tryd.prog) w6 23 5 #[.int .u8 49, .int .u8 50, .int .u8 51, .int .u8 52, .int .u8 53, .int .u8 54, .int .u8 55, .int .u8 56, .int .u8 57] 9 9 Tryd.underlying23 Tryd.underlying5
      have HD : Hid (RdL ((w6.alloc (.cells #[.int .u8 49, .int .u8 50, .int .u8 51, .int .u8 52, .int .u8 53, .int .u8 54, .int .u8 55, .int .u8 56, .int .u8 57] 5 (9, 10))).alloc (.cells #[.slice (some ⟨w6.heap.size, 0, none⟩) 9 9] 23)) (some ⟨w6.heap.size + 1, 0, none⟩) 1 [[49, 50, 51, 52, 53, 54, 55, 56, 57]]) := by
        have h := RdL.one (Rd.freshF w6 [49, 50, 51, 52, 53, 54, 55, 56, 57] (9, 10) (by intro x hx; simp at hx; omega) (by simp))
        rw [size_alloc1] at h
        exact h
      go_wp2_with fail
      refine (sum_any _ 1 1 _ _ HD.out).mono ?_
      rintro e w7 ⟨rfl, hb7⟩
      rw [flatOne]
      have hS2 := sum_digits
      generalize sum [49, 50, 51, 52, 53, 54, 55, 56, 57] = S2 at *
      have hS3 : ((S2 : Int) == 3808858755) = true := beq_iff_eq.2 (by omega)
      clear hS2
      have HB7 : Hid (Below w6.heap.size w6 w7) := below_trans ((Below.refl _ _).alloc (Nat.le_refl _) _) (below_trans ((Below.refl _ _).alloc (Nat.le_refl _) _) hb7)
      clear hb7 hcv
      go_wp2_with fail
      refine (sum_any none 0 0 [] _ (rdL_nil _)).mono ?_
      rintro e w8 ⟨rfl, hb8⟩
      have e0 : sum ([] : List (List Int)).flatten = 0 := sum_nil
      generalize sum ([] : List (List Int)).flatten = S4 at *
      have hS5 : ((S4 : Int) == 0) = true := beq_iff_eq.2 (by omega)
      clear e0
      go_wp2_with fail
      refine (told_any _).mono ?_
      rintro e w9 ⟨rfl, hb9⟩
      go_wp2
      go_ret
      exact ⟨rfl, below_trans HB6.out (below_trans HB7.out (below_trans hb8 hb9))⟩

theorem wireJoined_walk (ao : Option Addr) (n cap : Nat) (pss : List (List Int)) (w : World) (hr : RdL w ao n pss) (hc : n ≤ cap) :
    Calls Tryd.prog 6 #[.slice ao n cap] w fun e w' => e = .returned (.bool true) ∧ Below w.heap.size w w' := by
  by_cases hn : n ≤ 20
  · exact wireJoined_small ao n cap pss w hr hn
  · obtain ⟨ao', n', cap', hcut, hr', hc'⟩ := cutL_to hr hc 20 (by omega)
    have hn' : n' ≤ 20 := by have := hr'.length; rw [List.length_take] at this; omega
    exact wireJoined_great ao n cap (by omega) hr.max ao' n' cap' hcut _ w hr' hn'
end Go.Proofs.YtfldgjkpkmnkbabDoor
