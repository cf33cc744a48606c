import Derived.Test.YtcpbccckjlnkaaaGCa
import Derived.Test.YtcpbccckjlnkaaaJZx
namespace Go.Proofs.Ytcpbccckjlnkaaa
open Go.RowKit Go.Shelf
set_option linter.unusedVariables false
set_option linter.unusedSimpArgs false

/-- The rows of a target above the first k outputs. -/
def tgL (m t : Nat) : Nat → List (List Nat)
  | 0 => []
  | j + 1 => if j = t then tgL m t j else tgL m t j ++ [abR m t j]
def tgT (m : Nat) (t : Int) (k : Nat) : List (List Nat) := if t < 0 then [] else tgL m t.toNat k
theorem tgL_len (m t : Nat) : ∀ k, (tgL m t k).length ≤ k
  | 0 => Nat.le_refl _
  | k + 1 => by
    have := tgL_len m t k
    unfold tgL
    split
    · omega
    · rw [List.length_append]; simp; omega
theorem tgT_len (m : Nat) (t : Int) (k : Nat) : (tgT m t k).length ≤ k := by
  unfold tgT; split
  · exact Nat.zero_le _
  · exact tgL_len _ _ _
/-- Rows of floats, each in a block of its own. -/
structure FlL (w : World) (base : Nat) (gs : List (List Nat)) (vg : Value) (gl : List Value) : Prop where
  g : w.ownsRow base 22 1 vg gl.length gl
  len : gl.length = gs.length
  col : ∀ (j : Nat) (u : Value), gl[j]? = some u → w.ownsRow base 40 1 u (gs[j]?.getD []).length ((gs[j]?.getD []).map fF)
theorem FlL.nil (w : World) (base : Nat) : FlL w base [] (.slice none 0 0) [] := ⟨World.ownsRow_nil _ _ _ _, rfl, fun j u hj => by simp at hj⟩
theorem FlL.later {w w' : World} {base : Nat} {gs : List (List Nat)} {vg : Value} {gl : List Value} (h : FlL w base gs vg gl) (hb : Below w.heap.size w w') : FlL w' base gs vg gl :=
  ⟨owns_keepT h.g fun k cur hc => hb.block k (blk_lt hc), h.len, fun j u hj => owns_keepT (h.col j u hj) fun k cur hc => hb.block k (blk_lt hc)⟩
theorem FlL.push {w w' : World} {base : Nat} {us : List Nat} {gs : List (List Nat)} {vg vg' v : Value} {gl : List Value} (h : FlL w base gs vg gl) (hg : Grw w w' vg.ownBlock vg'.ownBlock)
    (ho : w'.ownsRow base 22 1 vg' (gl.length + 1) (gl ++ [v])) (hv : w.ownsRow base 40 1 v us.length (us.map fF)) : FlL w' base (gs ++ [us]) vg' (gl ++ [v]) := by
  have hk := grw_types h.g hg
  refine ⟨by simpa using ho, by simp [h.len], fun j u hj => ?_⟩
  by_cases e : j < gl.length
  · rw [List.getElem?_append_left e] at hj
    rw [List.getElem?_append_left (by rw [← h.len]; exact e)]
    exact owns_keepT (h.col j u hj) fun k cur => hk k cur _ (by decide)
  · have hl := (List.getElem?_eq_some_iff.1 hj).1
    have ej : j = gl.length := by simp at hl; omega
    subst ej
    rw [List.getElem?_append_right (Nat.le_refl _), Nat.sub_self, List.getElem?_cons_zero] at hj
    cases hj
    rw [List.getElem?_append_right (by rw [h.len]; exact Nat.le_refl _), h.len, Nat.sub_self, List.getElem?_cons_zero]
    exact owns_keepT hv fun k cur => hk k cur _ (by decide)
theorem own_rdF {w : World} {base : Nat} {v : Value} {us : List Nat} (h : w.ownsRow base 40 1 v us.length (us.map fF)) (hlt : ∀ u ∈ us, u < 18446744073709551616) : ∃ ao c, v = .slice ao us.length c ∧ RdF w ao us.length c us := by
  obtain ⟨ao, c, rfl, hm, h1⟩ := owns_slice h
  refine ⟨ao, c, rfl, rfl, hm, hlt, ?_⟩
  rcases h1 with h0 | ⟨g, rfl, h2⟩
  · exact .inl h0
  · refine .inr ⟨g, 0, rfl, fun j hj => ?_⟩
    rw [Nat.zero_add, h2 j hj, List.getElem?_map, List.getElem?_eq_getElem hj]
    rfl
theorem FlL.rd {w : World} {base : Nat} {gs : List (List Nat)} {vg : Value} {gl : List Value} (h : FlL w base gs vg gl) (hlt : ∀ us ∈ gs, ∀ u ∈ us, u < 18446744073709551616) : ∃ (go : Option Addr) (gc : Nat) (gv : Nat → Option Addr × Nat × Nat), vg = .slice go gs.length gc ∧ RdGs w go gs.length gc gv gs ∧ ∀ j, j < gs.length → (gv j).2.1 = (gs[j]?.getD []).length := by
  have hg := h.g
  rw [h.len] at hg
  obtain ⟨go, gc, rfl, hm, h1⟩ := owns_slice hg
  have hx : ∀ j : Nat, ∃ p : Option Addr × Nat, j < gs.length → gl[j]? = some (.slice p.1 (gs[j]?.getD []).length p.2) ∧ RdF w p.1 (gs[j]?.getD []).length p.2 (gs[j]?.getD []) := fun j => by
    by_cases hj : j < gs.length
    · have hjv : j < gl.length := by rw [h.len]; exact hj
      obtain ⟨ao, c, e1, e2⟩ := own_rdF (h.col j _ (List.getElem?_eq_getElem hjv)) (by rw [List.getElem?_eq_getElem hj]; exact hlt _ (List.getElem_mem hj))
      exact ⟨(ao, c), fun _ => ⟨by rw [List.getElem?_eq_getElem hjv, e1], e2⟩⟩
    · exact ⟨(none, 0), fun h => absurd h hj⟩
  refine ⟨go, gc, fun j => ((Classical.choose (hx j)).1, (gs[j]?.getD []).length, (Classical.choose (hx j)).2), rfl, ⟨rfl, hm, ?_, fun j hj => (Classical.choose_spec (hx j) hj).2⟩, fun j hj => rfl⟩
  rcases h1 with h0 | ⟨g, rfl, h2⟩
  · exact .inl h0
  · exact .inr ⟨g, 0, rfl, fun j hj => by rw [Nat.zero_add, h2 j hj]; exact (Classical.choose_spec (hx j) hj).1⟩
theorem Try.infoFM3 : (Try.prog.info? 40).map (fun i => (i.zero, i.size, i.bytes)) = some (some (.float .f64 0), 1, 8) := by kernel_rfl
set_option maxRecDepth 100000 in
set_option maxHeartbeats 4000000 in
theorem clone_any (b off len cap : Nat) (us : List Nat) (w : World) (h : RdF w (some ⟨b, off, none⟩) len cap us) (h0 : 0 < len) (hl : len ≤ 1050000) :
    Calls Try.prog 16 #[.slice (some ⟨b, off, none⟩) len cap] w fun e w' => (∃ (ao : Option Addr) (c : Nat), e = .returned (.slice ao len c) ∧ w'.ownsRow w.heap.size 40 1 (.slice ao len c) us.length (us.map fF)) ∧ Below w.heap.size w w' := by
  have HLN : Hid (us.length = len) := h.length
  have HNW : Hid (∀ W', Below w.heap.size w W' → ∀ (j : Nat) (u : Value), (us.map fF)[j]? = some u → W'.cell? ((⟨b, off, none⟩ : Addr).add j) = some u) := by
    intro W' hb j u hj
    have hjl : j < len := by have := (List.getElem?_eq_some_iff.1 hj).1; rw [List.length_map, HLN.out] at this; exact this
    rcases (h.later hb).cells with h9 | ⟨b9, off9, e9, hc⟩
    · omega
    injection e9 with e9
    injection e9 with e91 e92
    subst e91 e92
    have h8 := hc j hjl
    rw [List.getElem?_map, List.getElem?_eq_getElem (by rw [HLN.out]; exact hjl)] at hj
    rw [List.getElem?_eq_getElem (by rw [HLN.out]; exact hjl)] at h8
    cases hj
    by_cases hj0 : j = 0
    · subst hj0; simpa [Addr.add, fF] using h8
    · simpa [Addr.add, fF, hj0] using h8
  have B0 : Below w.heap.size w (w.alloc (.cells #[] 40)) := (Below.refl _ w).alloc (Nat.le_refl _) _
  have HO : Hid ((w.alloc (.cells #[] 40)).ownsRow w.heap.size 40 1 (.slice (some ⟨w.heap.size, 0, none⟩) 0 0) 0 []) := ⟨rfl, .inr ⟨w.heap.size, 0, #[], rfl, Nat.le_refl _, heap_alloc_new w _, Nat.le_refl _, Nat.zero_le _, rfl, rfl⟩⟩
  have HB0 : Hid _ := B0
  have heq : ∀ W : World, (binOp .eql 22 (.slice (some ⟨b, off, none⟩) len cap) (.slice none 0 0)).run Try.prog W = .ok (.bool false) W := by intro W; kernel_rfl
  clear h B0
  go_enter Try.func16, Try.ntmps16
  go_wp2_with (first
    | (at_builtin; refine append_gsJ Try.underlying22 Try.infoFM3 rfl (by decide) (by decide) _ (by rfl) _ _ (by rfl) w.heap.size _ 0 [] (by rfl) HO.out ⟨b, off, none⟩ len cap (us.map fF) (by rfl) (by rw [List.length_map, HLN.out, Nat.mul_one]) (HNW.out _ HB0.out) (fun u hu => by obtain ⟨x, -, rfl⟩ := List.mem_map.1 hu; rfl) (by omega) (by simp only [alloc_size]; omega) ?_; intro v6 w6 o6 g6))
  have P6 : Hid (w6.ownsRow w.heap.size 40 1 v6 len (us.map fF)) := by rw [Nat.zero_add] at o6; exact o6
  have B6 : Hid (Below w.heap.size w w6) := HB0.out.trans (g6.below (fun k hk => (World.ownsRow.lt HO.out k hk).1) HB0.out.size)
  clear o6 g6
  obtain ⟨ao6, c6, hv6, -⟩ := owns_slice P6.out
  subst hv6
  go_wp2_with fail
  go_ret
  exact ⟨⟨ao6, c6, rfl, by rw [HLN.out]; exact P6.out⟩, B6.out⟩
end Go.Proofs.Ytcpbccckjlnkaaa

namespace Go.Proofs.Ytcpbccckjlnkaaa
open Go.RowKit Go.Shelf
set_option linter.unusedVariables false
set_option linter.unusedSimpArgs false

theorem mayE_ok {m t : Int} {ls : List (List Nat)} (h : mayE m t ls = 0) : 1 ≤ m ∧ m ≤ 256 ∧ -1 ≤ t ∧ t < m ∧ ls.any (unl m) = false ∧ ls.any (fun a => !numsB a) = false := by
  unfold mayE at h
  split at h
  · cases h
  · rename_i h1
    split at h
    · cases h
    · split at h
      · cases h
      · rename_i h3
        split at h
        · cases h
        · rename_i h4
          exact ⟨by omega, by omega, by omega, by omega, by simpa using h3, by simpa using h4⟩
/-- The claims. -/
def clL (m t : Int) (ls : List (List Nat)) : List (List Nat) := if mayE m t ls = 0 then tgT m.toNat t m.toNat ++ ls else []
theorem take_snocL {css : List (List Nat)} {k : Nat} (h : k < css.length) : css.take (k + 1) = css.take k ++ [css[k]?.getD []] := by
  rw [List.take_succ_eq_append_getElem h, List.getElem?_eq_getElem h]; rfl
set_option maxRecDepth 100000 in
set_option maxHeartbeats 4000000 in
theorem claims17_any (co go lo : Option Addr) (cn cc gn gc ln lc : Nat) (gv : Nat → Option Addr × Nat × Nat) (ls : List (List Nat)) (t K D L m : Int) (w : World) (hl : RdGs w lo ln lc gv ls) (hln : ln ≤ 1050000) :
    Calls Try.prog 5 #[.agg #[.slice co cn cc, .slice go gn gc, .int .i64 t, .slice lo ln lc, .int .i64 K, .int .i64 D, .int .i64 L], .int .i64 m] w fun e w' => (∃ (vg : Value) (gl : List Value), e = .returned (.tuple #[vg, .int .i64 (mayE m t ls)]) ∧ Hid (FlL w' w.heap.size (clL m t ls) vg gl)) ∧ Below w.heap.size w w' := by
  have HL : Hid (∀ W', Below w.heap.size w W' → RdGs W' lo ln lc gv ls) := fun W' hb => hl.later hb
  have HLN : Hid (ls.length = ln) := hl.length
  have hmx : ln ≤ 9223372036854775807 := Nat.le_trans hl.max maxLen_le
  have X0 : Below w.heap.size w (w.alloc (.cells #[.slice co cn cc, .slice go gn gc, .int .i64 t, .slice lo ln lc, .int .i64 K, .int .i64 D, .int .i64 L] 25)) := (Below.refl _ w).alloc (Nat.le_refl _) _
  have Y0 : (w.alloc (.cells #[.slice co cn cc, .slice go gn gc, .int .i64 t, .slice lo ln lc, .int .i64 K, .int .i64 D, .int .i64 L] 25)).heap[w.heap.size]? = some (.cells #[.slice co cn cc, .slice go gn gc, .int .i64 t, .slice lo ln lc, .int .i64 K, .int .i64 D, .int .i64 L] 25) := heap_alloc_new w _
  clear hl
  go_enter Try.func5, Try.ntmps5
  go_upto_region 1 with fail
  obtain ⟨X, hX⟩ : ∃ X, (w.alloc (.cells #[.slice co cn cc, .slice go gn gc, .int .i64 t, .slice lo ln lc, .int .i64 K, .int .i64 D, .int .i64 L] 25)) = X := ⟨_, rfl⟩
  rw [hX] at X0 Y0 ⊢
  have PX : Hid (Below w.heap.size w X ∧ X.heap[w.heap.size]? = some (.cells #[.slice co cn cc, .slice go gn gc, .int .i64 t, .slice lo ln lc, .int .i64 K, .int .i64 D, .int .i64 L] 25)) := ⟨X0, Y0⟩
  clear hX X0 Y0
  go_wp2_with (first | (refine wpList_load_row (by rfl) 25 _ (by rfl) w.heap.size _ (by rfl) PX.out.2 _ Try.underlying25 rfl 7 Try.infoPM (by rfl) ?_))
  refine Calls.mono (may17_any co go lo cn cc gn gc ln lc gv ls t K D L m _ (HL.out _ PX.out.1)) ?_
  rintro e w1 ⟨rfl, b1⟩
  have P1 : Hid (Below w.heap.size w w1 ∧ w1.heap[w.heap.size]? = some (.cells #[.slice co cn cc, .slice go gn gc, .int .i64 t, .slice lo ln lc, .int .i64 K, .int .i64 D, .int .i64 L] 25)) := ⟨to_call PX.out.1 b1, kept b1 PX.out.2⟩
  clear b1 PX
  obtain ⟨er, her⟩ : ∃ er, mayE m t ls = er := ⟨_, rfl⟩
  have HER : Hid (mayE m t ls = er) := her
  rw [her]
  by_cases h0 : er = 0
  · subst h0
    obtain ⟨q1, q2, q3, q4, q5, q6⟩ := mayE_ok her
    obtain ⟨M, rfl⟩ : ∃ M : Nat, m = M := ⟨m.toNat, by omega⟩
    have HCL : Hid (clL (M : Int) t ls = tgT M t M ++ ls) := by unfold Hid clL; rw [if_pos her, Int.toNat_natCast]
    have HRL : Hid (∀ k, k < ln → (ls[k]?.getD []).length = M + 1) := by
      intro k hk
      rw [List.any_eq_false] at q5
      have hkl : k < ls.length := by rw [HLN.out]; exact hk
      have h9 := q5 _ (List.getElem_mem hkl)
      rw [List.getElem?_eq_getElem hkl]
      show ls[k].length = M + 1
      unfold unl at h9
      simp only [bne_iff_ne, ne_eq, Decidable.not_not] at h9
      omega
    have hM : M ≤ 256 := by omega
    have hM1 : 1 ≤ M := by omega
    clear her q5 q6 q2
    go_wp2_with fail
    go_loopg [7, 18] M (fun g v7 iv wx => ∃ (k : Nat) (gl : List Value), iv = .int .i64 k ∧ k + g = M ∧ Hid (FlL wx w.heap.size (tgT M t k) v7 gl ∧ Below w.heap.size w wx ∧ wx.heap[w.heap.size]? = some (.cells #[.slice co cn cc, .slice go gn gc, .int .i64 t, .slice lo ln lc, .int .i64 K, .int .i64 D, .int .i64 L] 25)))
    case atStart =>
      refine ⟨0, [], rfl, by omega, ?_, P1.out.1, P1.out.2⟩
      have e : tgT M t 0 = [] := by unfold tgT tgL; split <;> rfl
      rw [e]; exact FlL.nil _ _
    case round =>
      clear P1
      obtain ⟨k, gl, rfl, hk, HI⟩ := hrel
      have c2 := cellAtJ HI.out.2.2 2 _ rfl
      by_cases hlt : k < M
      · have hd : decide ((k : Int) < (M : Int)) = true := decide_eq_true (by omega)
        obtain ⟨g, rfl⟩ : ∃ g, gk = g + 1 := ⟨gk - 1, by omega⟩
        have HIG : Hid (k + (g + 1) = M) := hk
        clear hk
        by_cases ht : t < 0
        · have hdt : decide (t ≥ 0) = false := decide_eq_false (by omega)
          have HI2 : Hid (FlL wr w.heap.size (tgT M t (k + 1)) u7 gl ∧ Below w.heap.size w wr ∧ wr.heap[w.heap.size]? = some (.cells #[.slice co cn cc, .slice go gn gc, .int .i64 t, .slice lo ln lc, .int .i64 K, .int .i64 D, .int .i64 L] 25)) := by
            have e : tgT M t (k + 1) = tgT M t k := by unfold tgT; rw [if_pos ht, if_pos ht]
            unfold Hid; rw [e]; exact HI.out
          clear HI
          go_wp2_with fail
          go_roundg g
          case measure => omega
          case rel => exact ⟨k + 1, gl, by go_num, by have := HIG.out; omega, HI2⟩
        · obtain ⟨T, rfl⟩ : ∃ T : Nat, t = T := ⟨t.toNat, by omega⟩
          have hdt : decide ((T : Int) ≥ 0) = true := decide_eq_true (by omega)
          have HTG : Hid (∀ j, tgT M (T : Int) j = tgL M T j) := fun j => by unfold tgT; rw [if_neg ht, Int.toNat_natCast]
          clear ht
          by_cases hkt : k = T
          · have hne : ((k : Int) != (T : Int)) = false := by rw [hkt]; simp
            have HI2 : Hid (FlL wr w.heap.size (tgT M (T : Int) (k + 1)) u7 gl ∧ Below w.heap.size w wr ∧ wr.heap[w.heap.size]? = some (.cells #[.slice co cn cc, .slice go gn gc, .int .i64 (T : Int), .slice lo ln lc, .int .i64 K, .int .i64 D, .int .i64 L] 25)) := by
              have e : tgT M (T : Int) (k + 1) = tgT M (T : Int) k := by rw [HTG.out, HTG.out, tgL, if_pos hkt]
              unfold Hid; rw [e]; exact HI.out
            clear HI hkt
            go_wp2_with fail
            go_roundg g
            case measure => omega
            case rel => exact ⟨k + 1, gl, by go_num, by have := HIG.out; omega, HI2⟩
          · have hne : ((k : Int) != (T : Int)) = true := by rw [bne_iff_ne]; omega
            have HTK : Hid (tgT M (T : Int) (k + 1) = tgT M (T : Int) k ++ [abR M T k]) := by unfold Hid; rw [HTG.out, HTG.out, tgL, if_neg hkt]
            have hTM : T ≤ M := by omega
            go_wp2_with fail
            refine Calls.mono (above_any17 T k M hTM (by omega) hM _) ?_
            rintro e w3 ⟨rfl, o3, b3⟩
            have L1 : Hid (FlL w3 w.heap.size (tgT M (T : Int) k) u7 gl ∧ Below w.heap.size w w3 ∧ w3.heap[w.heap.size]? = some (.cells #[.slice co cn cc, .slice go gn gc, .int .i64 (T : Int), .slice lo ln lc, .int .i64 K, .int .i64 D, .int .i64 L] 25)) := ⟨HI.out.1.later b3, to_call HI.out.2.1 b3, kept b3 HI.out.2.2⟩
            have O1 : Hid (w3.ownsRow w.heap.size 40 1 (Value.slice (some ⟨wr.heap.size, 0, none⟩) (M + 1) (M + 1)) (abR M T k).length ((abR M T k).map fF)) := owns_monoJ o3 HI.out.2.1.size
            clear o3 b3 c2
            have A1 : Below w3.heap.size w3 (w3.alloc (.cells #[Value.slice (some ⟨wr.heap.size, 0, none⟩) (M + 1) (M + 1)] 22)) := (Below.refl _ w3).alloc (Nat.le_refl _) _
            have Lz : Hid (FlL (w3.alloc (.cells #[Value.slice (some ⟨wr.heap.size, 0, none⟩) (M + 1) (M + 1)] 22)) w.heap.size (tgT M (T : Int) k) u7 gl) := L1.out.1.later A1
            have Oz : Hid ((w3.alloc (.cells #[Value.slice (some ⟨wr.heap.size, 0, none⟩) (M + 1) (M + 1)] 22)).ownsRow w.heap.size 40 1 (Value.slice (some ⟨wr.heap.size, 0, none⟩) (M + 1) (M + 1)) (abR M T k).length ((abR M T k).map fF)) := World.ownsRow.alloc O1.out _
            have hgl : gl.length ≤ 2000000 := by have h1 := HI.out.1.len; have h2 := tgT_len M (T : Int) k; omega
            go_wp2_with (first
              | (at_builtin; refine append_gsJ Try.underlying23 Try.infoFsM rfl (by decide) (by decide) _ (by rfl) _ _ (by rfl) w.heap.size _ gl.length gl (by rfl) Lz.out.g ⟨w3.heap.size, 0, none⟩ 1 1 [Value.slice (some ⟨wr.heap.size, 0, none⟩) (M + 1) (M + 1)] (by rfl) rfl (news_oneJ (heap_alloc_new w3 _)) (oneI _ (own_valJ O1.out).1) (by omega) (by have := L1.out.2.1.size; simp only [alloc_size]; omega) ?_; intro v6 w6 o6 g6))
            have b6 : Below w.heap.size w w6 := (to_call L1.out.2.1 A1).trans (g6.below (fun k hk => (World.ownsRow.lt Lz.out.g k hk).1) (to_call L1.out.2.1 A1).size)
            have HI2 : Hid (FlL w6 w.heap.size (tgT M (T : Int) k ++ [abR M T k]) v6 (gl ++ [Value.slice (some ⟨wr.heap.size, 0, none⟩) (M + 1) (M + 1)]) ∧ Below w.heap.size w w6 ∧ w6.heap[w.heap.size]? = some (.cells #[.slice co cn cc, .slice go gn gc, .int .i64 (T : Int), .slice lo ln lc, .int .i64 K, .int .i64 D, .int .i64 L] 25)) := by
              refine ⟨Lz.out.push g6 o6 Oz.out, b6, ?_⟩
              have h9 := kept A1 L1.out.2.2
              have hk := grw_types Lz.out.g g6
              exact (hk w.heap.size _ _ (by decide) h9).trans h9
            clear o6 g6 A1 Lz Oz O1 L1 b6 hgl
            have HI3 : Hid (FlL w6 w.heap.size (tgT M (T : Int) (k + 1)) v6 (gl ++ [Value.slice (some ⟨wr.heap.size, 0, none⟩) (M + 1) (M + 1)]) ∧ Below w.heap.size w w6 ∧ w6.heap[w.heap.size]? = some (.cells #[.slice co cn cc, .slice go gn gc, .int .i64 (T : Int), .slice lo ln lc, .int .i64 K, .int .i64 D, .int .i64 L] 25)) := by unfold Hid; rw [HTK.out]; exact HI2.out
            clear HI2 HI
            go_roundg g
            case measure => omega
            case rel => exact ⟨k + 1, _, by go_num, by have := HIG.out; omega, HI3⟩
      · have hd : decide ((k : Int) < (M : Int)) = false := decide_eq_false (by omega)
        have hd' : decide (k < M) = false := decide_eq_false (by omega)
        have ek : k = M := by omega
        have HI0 : Hid (FlL wr w.heap.size (tgT M t M ++ ls.take 0) u7 gl ∧ Below w.heap.size w wr ∧ wr.heap[w.heap.size]? = some (.cells #[.slice co cn cc, .slice go gn gc, .int .i64 t, .slice lo ln lc, .int .i64 K, .int .i64 D, .int .i64 L] 25)) := by
          unfold Hid; rw [List.take_zero, List.append_nil, ← ek]; exact ek ▸ HI.out
        have c3 := cellAtJ HI.out.2.2 3 _ rfl
        clear HI hk ek
        go_wp2_with fail
        clear c2 c3 hd hd'
        go_loopg [7, 42] ln (fun g v7 iv wx => ∃ (k : Nat) (gl : List Value), iv = .int .i64 k ∧ k + g = ln ∧ Hid (FlL wx w.heap.size (tgT M t M ++ ls.take k) v7 gl ∧ Below w.heap.size w wx ∧ wx.heap[w.heap.size]? = some (.cells #[.slice co cn cc, .slice go gn gc, .int .i64 t, .slice lo ln lc, .int .i64 K, .int .i64 D, .int .i64 L] 25)))
        case atStart => exact ⟨0, gl, rfl, by omega, HI0⟩
        case round =>
          clear HI0
          obtain ⟨k, gl, rfl, hk, HI⟩ := hrel
          by_cases hlt2 : k < ln
          · have hd : decide ((k : Int) < (ln : Int)) = true := decide_eq_true (by omega)
            obtain ⟨g, rfl⟩ : ∃ g, gk = g + 1 := ⟨gk - 1, by omega⟩
            have HIG : Hid (k + (g + 1) = ln) := hk
            have hlt' : (k : Int) < (ln : Int) := by omega
            have rx := HL.out _ HI.out.2.1
            rcases rx.cells with h0 | ⟨gb, goff, ego, hcg⟩
            · omega
            subst ego
            have gg := hcg k hlt2
            have rg := rx.each k hlt2
            have hxl := rg.length
            rw [HRL.out k hlt2] at hxl
            obtain ⟨x1, ex1⟩ : ∃ t, (gv k).1 = t := ⟨_, rfl⟩
            obtain ⟨x2, ex2⟩ : ∃ t, (gv k).2.1 = t := ⟨_, rfl⟩
            obtain ⟨x3, ex3⟩ : ∃ t, (gv k).2.2 = t := ⟨_, rfl⟩
            rw [ex1, ex2, ex3] at rg gg
            rw [ex2] at hxl
            subst hxl
            rcases rg.cells with h0 | ⟨xb, xoff, ex, -⟩
            · omega
            subst ex
            have HTK : Hid (ls.take (k + 1) = ls.take k ++ [ls[k]?.getD []]) := take_snocL (by rw [HLN.out]; exact hlt2)
            have RG : Hid (RdF wr (some ⟨xb, xoff, none⟩) (M + 1) x3 (ls[k]?.getD [])) := rg
            clear rx hcg rg ex1 ex2 ex3 hk
            go_wp2_with fail
            refine Calls.mono (clone_any xb xoff (M + 1) x3 (ls[k]?.getD []) _ RG.out (by omega) (by omega)) ?_
            rintro e w3 ⟨⟨ao2, c2, rfl, o3⟩, b3⟩
            have L1 : Hid (FlL w3 w.heap.size (tgT M t M ++ ls.take k) u7 gl ∧ Below w.heap.size w w3 ∧ w3.heap[w.heap.size]? = some (.cells #[.slice co cn cc, .slice go gn gc, .int .i64 t, .slice (some ⟨gb, goff, none⟩) ln lc, .int .i64 K, .int .i64 D, .int .i64 L] 25)) := ⟨HI.out.1.later b3, to_call HI.out.2.1 b3, kept b3 HI.out.2.2⟩
            have O1 : Hid (w3.ownsRow w.heap.size 40 1 (Value.slice ao2 (M + 1) c2) (ls[k]?.getD []).length ((ls[k]?.getD []).map fF)) := owns_monoJ o3 HI.out.2.1.size
            clear o3 b3 RG gg
            have A1 : Below w3.heap.size w3 (w3.alloc (.cells #[Value.slice ao2 (M + 1) c2] 22)) := (Below.refl _ w3).alloc (Nat.le_refl _) _
            have Lz : Hid (FlL (w3.alloc (.cells #[Value.slice ao2 (M + 1) c2] 22)) w.heap.size (tgT M t M ++ ls.take k) u7 gl) := L1.out.1.later A1
            have Oz : Hid ((w3.alloc (.cells #[Value.slice ao2 (M + 1) c2] 22)).ownsRow w.heap.size 40 1 (Value.slice ao2 (M + 1) c2) (ls[k]?.getD []).length ((ls[k]?.getD []).map fF)) := World.ownsRow.alloc O1.out _
            have hgl : gl.length ≤ 2000000 := by have h1 := HI.out.1.len; have h2 := tgT_len M t M; rw [List.length_append, List.length_take] at h1; omega
            go_wp2_with (first
              | (at_builtin; refine append_gsJ Try.underlying23 Try.infoFsM rfl (by decide) (by decide) _ (by rfl) _ _ (by rfl) w.heap.size _ gl.length gl (by rfl) Lz.out.g ⟨w3.heap.size, 0, none⟩ 1 1 [Value.slice ao2 (M + 1) c2] (by rfl) rfl (news_oneJ (heap_alloc_new w3 _)) (oneI _ (own_valJ O1.out).1) (by omega) (by have := L1.out.2.1.size; simp only [alloc_size]; omega) ?_; intro v6 w6 o6 g6))
            have b6 : Below w.heap.size w w6 := (to_call L1.out.2.1 A1).trans (g6.below (fun k hk => (World.ownsRow.lt Lz.out.g k hk).1) (to_call L1.out.2.1 A1).size)
            have HI2 : Hid (FlL w6 w.heap.size (tgT M t M ++ ls.take k ++ [ls[k]?.getD []]) v6 (gl ++ [Value.slice ao2 (M + 1) c2]) ∧ Below w.heap.size w w6 ∧ w6.heap[w.heap.size]? = some (.cells #[.slice co cn cc, .slice go gn gc, .int .i64 t, .slice (some ⟨gb, goff, none⟩) ln lc, .int .i64 K, .int .i64 D, .int .i64 L] 25)) := by
              refine ⟨Lz.out.push g6 o6 Oz.out, b6, ?_⟩
              have h9 := kept A1 L1.out.2.2
              have hk := grw_types Lz.out.g g6
              exact (hk w.heap.size _ _ (by decide) h9).trans h9
            clear o6 g6 A1 Lz Oz O1 L1 b6 hgl
            have HI3 : Hid (FlL w6 w.heap.size (tgT M t M ++ ls.take (k + 1)) v6 (gl ++ [Value.slice ao2 (M + 1) c2]) ∧ Below w.heap.size w w6 ∧ w6.heap[w.heap.size]? = some (.cells #[.slice co cn cc, .slice go gn gc, .int .i64 t, .slice (some ⟨gb, goff, none⟩) ln lc, .int .i64 K, .int .i64 D, .int .i64 L] 25)) := by unfold Hid; rw [HTK.out, ← List.append_assoc]; exact HI2.out
            clear HI2 HI
            go_roundg g
            case measure => omega
            case rel => exact ⟨k + 1, _, by go_num, by have := HIG.out; omega, HI3⟩
          · have hd : decide ((k : Int) < (ln : Int)) = false := decide_eq_false (by omega)
            have hd' : decide (k < ln) = false := decide_eq_false (by omega)
            have HF : Hid (FlL wr w.heap.size (clL (M : Int) t ls) u7 gl) := by
              have h9 := HI.out.1
              rw [List.take_of_length_le (by rw [HLN.out]; omega)] at h9
              unfold Hid; rw [HCL.out]; exact h9
            go_wp2_with fail
            refine bodyPost_ret (v := .tuple #[u7, .int .i64 0]) (res_tmp2J _ 4 5 (by kernel_rfl) _ _ _ _ (by rfl) (by rfl)) rfl ?_
            exact ⟨⟨u7, gl, by rw [HER.out], HF⟩, HI.out.2.1⟩
  · have hne : (er != 0) = true := by rw [bne_iff_ne]; exact h0
    have HF : Hid (FlL w1 w.heap.size (clL m t ls) (.slice none 0 0) []) := by
      unfold Hid clL; rw [if_neg (by rw [her]; exact h0)]; exact FlL.nil _ _
    clear her h0
    go_wp2_with fail
    refine bodyPost_ret (v := .tuple #[.slice none 0 0, .int .i64 er]) (res_tmp2J _ 4 5 (by kernel_rfl) _ _ _ _ (by rfl) (by rfl)) rfl ?_
    exact ⟨⟨_, [], by rw [HER.out], HF⟩, P1.out.1⟩
end Go.Proofs.Ytcpbccckjlnkaaa

namespace Go.Proofs.Ytcpbccckjlnkaaa
open Go.RowKit Go.Shelf
set_option linter.unusedVariables false
set_option linter.unusedSimpArgs false

theorem numberRefM (u : Nat) (hu : u < 18446744073709551616) (w : World) : Calls Try.prog 31 #[.int .u64 (u : Int)] w fun e w' => e = .returned (.bool (decide (Fin u))) ∧ w' = w := by
  obtain ⟨E, hE⟩ : ∃ E : Nat, u / 4503599627370496 % 2048 = E := ⟨_, rfl⟩
  have fE : bits .and .u64 ((u : Int) / 4503599627370496) 2047 = (E : Int) := by
    have k := u64_and_nat (u / 4503599627370496) 2047 (by omega) (by decide)
    rw [show ((2047 : Nat) : Int) = 2047 from rfl] at k
    rw [show (u : Int) / 4503599627370496 = ((u / 4503599627370496 : Nat) : Int) by omega, k, and_2047, hE]
  have hFin : Fin u ↔ E < 2047 := by unfold Fin infK frung; omega
  have HX : Hid (((E : Int) != 2047) = decide (Fin u)) := by
    unfold Hid
    by_cases h : E < 2047
    · rw [decide_eq_true (hFin.2 h)]; simp; omega
    · rw [decide_eq_false (fun c => h (hFin.1 c))]; simp; omega
  clear hE hFin
  go_enter Try.func31, Try.ntmps31
  go_wp2_with fail
  go_ret
  exact ⟨congrArg (fun b => Ending.returned (.bool b)) HX.out, rfl⟩
set_option maxRecDepth 100000 in
set_option maxHeartbeats 4000000 in
theorem numbers6_any (ao : Option Addr) (len cap : Nat) (us : List Nat) (w : World) (h : RdUs w ao len cap us) (hlt : ∀ u ∈ us, u < 18446744073709551616) :
    Calls Try.prog 17 #[.slice ao len cap] w fun e w' => e = .returned (.bool (numsB us)) ∧ w' = w := by
  have HR : Hid (RdUs w ao len cap us) := h
  have HLT : Hid (∀ u ∈ us, u < 18446744073709551616) := hlt
  have hmx : len ≤ 9223372036854775807 := Nat.le_trans h.max maxLen_le
  have HLN : Hid (us.length = len) := h.length
  clear h hlt
  go_enter Try.func17, Try.ntmps17
  go_wp2_with fail
  go_loopg [3] len (fun g iv wx => ∃ k : Nat, iv = .int .i64 k ∧ k + g = len ∧ Hid (wx = w) ∧ Hid (numsB us = numsB (us.drop k)))
  case atStart => exact ⟨0, rfl, by omega, rfl, rfl⟩
  case round =>
    obtain ⟨k, rfl, hk, HW, HF⟩ := hrel
    have e0 : wr = w := HW.out
    subst e0
    by_cases hlt : k < len
    · have hd : decide ((k : Int) < (len : Int)) = true := decide_eq_true (by omega)
      obtain ⟨g, rfl⟩ : ∃ g, gk = g + 1 := ⟨gk - 1, by omega⟩
      rcases HR.out.cells with h0 | ⟨ab, aoff, rfl, hca⟩
      · omega
      have ga := hca k hlt
      have hlt' : (k : Int) < (len : Int) := by omega
      have hkl : k < us.length := by rw [HLN.out]; exact hlt
      have hax := HLT.out _ (getD_mem (us := us) (j := k) hkl)
      have HDS : Hid _ := numsB_drop us hkl
      obtain ⟨x, hx⟩ : ∃ x, us[k]?.getD 0 = x := ⟨_, rfl⟩
      rw [hx] at ga hax HDS
      have HIG : Hid (k + (g + 1) = len) := hk
      have HN := numberRefM x hax
      clear hca hx hk hkl
      by_cases hf : Fin x
      · have hfd : decide (Fin x) = true := decide_eq_true hf
        rw [hfd] at HN HDS
        go_wp2_with (go_at_call 31; refine (HN _).mono ?_; rintro e w' ⟨rfl, rfl⟩)
        go_roundg g
        case measure => omega
        case rel => exact ⟨k + 1, by go_num, by have := HIG.out; omega, rfl, by unfold Hid; rw [HF.out, HDS.out]; rfl⟩
      · have hfd : decide (Fin x) = false := decide_eq_false hf
        rw [hfd] at HN HDS
        go_wp2_with (go_at_call 31; refine (HN _).mono ?_; rintro e w' ⟨rfl, rfl⟩)
        go_ret
        exact ⟨by rw [HF.out, HDS.out]; rfl, rfl⟩
    · have hd : decide ((k : Int) < (len : Int)) = false := decide_eq_false (by omega)
      have hd' : decide (k < len) = false := decide_eq_false (by omega)
      have HE : Hid (numsB us = true) := by unfold Hid; rw [HF.out, List.drop_eq_nil_of_le (by rw [HLN.out]; omega)]; rfl
      go_wp2_with fail
      go_ret
      exact ⟨by rw [HE.out]; rfl, rfl⟩
end Go.Proofs.Ytcpbccckjlnkaaa

namespace Go.Proofs.Ytcpbccckjlnkaaa
open Go.RowKit Go.Shelf
set_option linter.unusedVariables false
set_option linter.unusedSimpArgs false

set_option maxRecDepth 100000 in
set_option maxHeartbeats 4000000 in
theorem refClaims17_any (o1 o2 lo : Option Addr) (l1 c1 l2 c2 ln lc : Nat) (gv : Nat → Option Addr × Nat × Nat) (ls : List (List Nat)) (t K D L m : Int) (w : World) (hl : RdGu w lo ln lc gv ls) (hln : ln ≤ 1050000) (hlt : ∀ k, k < ln → ∀ u ∈ ls[k]?.getD [], u < 18446744073709551616) :
    Calls Try.prog 6 #[.agg #[.slice o1 l1 c1, .slice o2 l2 c2, .int .i64 t, .slice lo ln lc, .int .i64 K, .int .i64 D, .int .i64 L], .int .i64 m] w fun e w' => (∃ (vg : Value) (gl : List Value), e = .returned (.tuple #[vg, .int .i64 (mayE m t ls)]) ∧ Hid (OfL w' w.heap.size [] [] [] (clL m t ls) (.slice none 0 0) (.slice none 0 0) (.slice none 0 0) vg gl)) ∧ Below w.heap.size w w' := by
  have HL : Hid (∀ W', Below w.heap.size w W' → RdGu W' lo ln lc gv ls) := fun W' hb => hl.later hb
  have HLT : Hid (∀ k, k < ln → ∀ u ∈ ls[k]?.getD [], u < 18446744073709551616) := hlt
  have HLN : Hid (ls.length = ln) := hl.length
  have hmx : ln ≤ 9223372036854775807 := Nat.le_trans hl.max maxLen_le
  have X0 : Below w.heap.size w (w.alloc (.cells #[.slice o1 l1 c1, .slice o2 l2 c2, .int .i64 t, .slice lo ln lc, .int .i64 K, .int .i64 D, .int .i64 L] 35)) := (Below.refl _ w).alloc (Nat.le_refl _) _
  have Y0 : (w.alloc (.cells #[.slice o1 l1 c1, .slice o2 l2 c2, .int .i64 t, .slice lo ln lc, .int .i64 K, .int .i64 D, .int .i64 L] 35)).heap[w.heap.size]? = some (.cells #[.slice o1 l1 c1, .slice o2 l2 c2, .int .i64 t, .slice lo ln lc, .int .i64 K, .int .i64 D, .int .i64 L] 35) := heap_alloc_new w _
  clear hl hlt
  go_enter Try.func6, Try.ntmps6
  go_upto_region 1 with fail
  obtain ⟨X, hX⟩ : ∃ X, (w.alloc (.cells #[.slice o1 l1 c1, .slice o2 l2 c2, .int .i64 t, .slice lo ln lc, .int .i64 K, .int .i64 D, .int .i64 L] 35)) = X := ⟨_, rfl⟩
  rw [hX] at X0 Y0 ⊢
  have PX : Hid (Below w.heap.size w X ∧ X.heap[w.heap.size]? = some (.cells #[.slice o1 l1 c1, .slice o2 l2 c2, .int .i64 t, .slice lo ln lc, .int .i64 K, .int .i64 D, .int .i64 L] 35)) := ⟨X0, Y0⟩
  have RL : Hid (RdGu X lo ln lc gv ls) := HL.out _ X0
  clear hX X0 Y0
  have c2' := cellAtJ PX.out.2 2 _ rfl
  have c3 := cellAtJ PX.out.2 3 _ rfl
  by_cases h1 : m < 1
  · have hd1 : decide (m < 1) = true := decide_eq_true h1
    have HV : Hid (mayE m t ls = 68) := by unfold Hid mayE; exact if_pos (by omega)
    have HF : Hid (OfL X w.heap.size [] [] [] (clL m t ls) (.slice none 0 0) (.slice none 0 0) (.slice none 0 0) (.slice none 0 0) []) := by unfold Hid clL; rw [if_neg (by rw [HV.out]; decide)]; exact OfL.nilM _ _
    go_wp2_with fail
    refine bodyPost_ret (v := .tuple #[.slice none 0 0, .int .i64 68]) (res_tmp2J _ 4 5 (by kernel_rfl) _ _ _ _ (by rfl) (by rfl)) rfl ?_
    first | exact ⟨⟨_, by rw [HV.out], [], HF⟩, PX.out.1⟩ | exact ⟨⟨_, [], by rw [HV.out], HF⟩, PX.out.1⟩
  have hd1 : decide (m < 1) = false := decide_eq_false h1
  by_cases h2 : m > 256
  · have hd2 : decide (m > 256) = true := decide_eq_true h2
    have HV : Hid (mayE m t ls = 68) := by unfold Hid mayE; exact if_pos (by omega)
    have HF : Hid (OfL X w.heap.size [] [] [] (clL m t ls) (.slice none 0 0) (.slice none 0 0) (.slice none 0 0) (.slice none 0 0) []) := by unfold Hid clL; rw [if_neg (by rw [HV.out]; decide)]; exact OfL.nilM _ _
    go_wp2_with fail
    refine bodyPost_ret (v := .tuple #[.slice none 0 0, .int .i64 68]) (res_tmp2J _ 4 5 (by kernel_rfl) _ _ _ _ (by rfl) (by rfl)) rfl ?_
    first | exact ⟨⟨_, by rw [HV.out], [], HF⟩, PX.out.1⟩ | exact ⟨⟨_, [], by rw [HV.out], HF⟩, PX.out.1⟩
  have hd2 : decide (m > 256) = false := decide_eq_false h2
  by_cases h3 : t < -1
  · have hd3 : decide (t < -1) = true := decide_eq_true h3
    have HV : Hid (mayE m t ls = 68) := by unfold Hid mayE; exact if_pos (by omega)
    have HF : Hid (OfL X w.heap.size [] [] [] (clL m t ls) (.slice none 0 0) (.slice none 0 0) (.slice none 0 0) (.slice none 0 0) []) := by unfold Hid clL; rw [if_neg (by rw [HV.out]; decide)]; exact OfL.nilM _ _
    go_wp2_with fail
    refine bodyPost_ret (v := .tuple #[.slice none 0 0, .int .i64 68]) (res_tmp2J _ 4 5 (by kernel_rfl) _ _ _ _ (by rfl) (by rfl)) rfl ?_
    first | exact ⟨⟨_, by rw [HV.out], [], HF⟩, PX.out.1⟩ | exact ⟨⟨_, [], by rw [HV.out], HF⟩, PX.out.1⟩
  have hd3 : decide (t < -1) = false := decide_eq_false h3
  by_cases h4 : t ≥ m
  · have hd4 : decide (t ≥ m) = true := decide_eq_true h4
    have HV : Hid (mayE m t ls = 68) := by unfold Hid mayE; exact if_pos (by omega)
    have HF : Hid (OfL X w.heap.size [] [] [] (clL m t ls) (.slice none 0 0) (.slice none 0 0) (.slice none 0 0) (.slice none 0 0) []) := by unfold Hid clL; rw [if_neg (by rw [HV.out]; decide)]; exact OfL.nilM _ _
    go_wp2_with fail
    refine bodyPost_ret (v := .tuple #[.slice none 0 0, .int .i64 68]) (res_tmp2J _ 4 5 (by kernel_rfl) _ _ _ _ (by rfl) (by rfl)) rfl ?_
    first | exact ⟨⟨_, by rw [HV.out], [], HF⟩, PX.out.1⟩ | exact ⟨⟨_, [], by rw [HV.out], HF⟩, PX.out.1⟩
  have hd4 : decide (t ≥ m) = false := decide_eq_false h4
  have H1 : Hid (mayE m t ls = if ls.length = 0 ∧ (t = -1 ∨ m = 1) then 68 else if ls.any (unl m) = true then 63 else if ls.any (fun a => !numsB a) = true then 64 else 0) := by unfold Hid mayE; exact if_neg (by omega)
  have HB : Hid (1 ≤ m ∧ m ≤ 256 ∧ -1 ≤ t ∧ t < m) := by unfold Hid; omega
  by_cases h5 : ln = 0 ∧ (t < 0 ∨ m = 1)
  · obtain ⟨h5, h6⟩ := h5
    have hd5 : ((ln : Int) == 0) = true := by rw [h5]; rfl
    have H5 : Hid (ls.length = 0) := HLN.out.trans h5
    clear h5
    by_cases h7 : t < 0
    · have hd7 : decide (t < 0) = true := decide_eq_true h7
      have HV : Hid (mayE m t ls = 68) := by unfold Hid; rw [H1.out]; exact if_pos ⟨H5.out, .inl (by omega)⟩
      have HF : Hid (OfL X w.heap.size [] [] [] (clL m t ls) (.slice none 0 0) (.slice none 0 0) (.slice none 0 0) (.slice none 0 0) []) := by unfold Hid clL; rw [if_neg (by rw [HV.out]; decide)]; exact OfL.nilM _ _
      clear h6 h7
      go_wp2_with fail
      refine bodyPost_ret (v := .tuple #[.slice none 0 0, .int .i64 68]) (res_tmp2J _ 4 5 (by kernel_rfl) _ _ _ _ (by rfl) (by rfl)) rfl ?_
      first | exact ⟨⟨_, by rw [HV.out], [], HF⟩, PX.out.1⟩ | exact ⟨⟨_, [], by rw [HV.out], HF⟩, PX.out.1⟩
    · have hd7 : decide (t < 0) = false := decide_eq_false h7
      have h8 : m = 1 := by omega
      have hd8 : (m == 1) = true := by rw [h8]; rfl
      have HV : Hid (mayE m t ls = 68) := by unfold Hid; rw [H1.out]; exact if_pos ⟨H5.out, .inr h8⟩
      have HF : Hid (OfL X w.heap.size [] [] [] (clL m t ls) (.slice none 0 0) (.slice none 0 0) (.slice none 0 0) (.slice none 0 0) []) := by unfold Hid clL; rw [if_neg (by rw [HV.out]; decide)]; exact OfL.nilM _ _
      clear h6 h8
      go_wp2_with fail
      refine bodyPost_ret (v := .tuple #[.slice none 0 0, .int .i64 68]) (res_tmp2J _ 4 5 (by kernel_rfl) _ _ _ _ (by rfl) (by rfl)) rfl ?_
      first | exact ⟨⟨_, by rw [HV.out], [], HF⟩, PX.out.1⟩ | exact ⟨⟨_, [], by rw [HV.out], HF⟩, PX.out.1⟩
  have H2 : Hid (mayE m t ls = if ls.any (unl m) = true then 63 else if ls.any (fun a => !numsB a) = true then 64 else 0) := by
    unfold Hid; rw [H1.out]
    refine if_neg fun h => h5 ⟨HLN.out ▸ h.1, ?_⟩
    rcases h.2 with h | h
    · exact .inl (by omega)
    · exact .inr h
  obtain ⟨P5, hP5⟩ : ∃ b : Bool, (if (ln : Int) == 0 then (if decide (t < 0) then true else m == 1) else false) = b := ⟨_, rfl⟩
  have hw1 : IntKind.i64.wrap (m + 1) = m + 1 := by rw [IntKind.wrap_i64]; omega
  clear hP5 P5 H1
  have HST : Hid (((ln : Int) == 0) = false ∨ (((ln : Int) == 0) = true ∧ decide (t < 0) = false ∧ (m == 1) = false)) := by
    by_cases hz : ln = 0
    · refine .inr ⟨by rw [hz]; rfl, decide_eq_false fun h => h5 ⟨hz, .inl h⟩, ?_⟩
      rw [beq_eq_false_iff_ne]; exact fun h => h5 ⟨hz, .inr h⟩
    · exact .inl (by rw [beq_eq_false_iff_ne]; omega)
  clear h1 h2 h3 h4 h5
  rcases HST.out with hd5 | ⟨hd5, hd7, hd8⟩
  · clear HST
    have HA3 : Hid (∀ k, k < ln → (ls[k]?.getD []).length = (gv k).2.1) := fun k hk => (RL.out.each k hk).length
    go_upto_region 3 with fail
    clear hd1 hd2 hd3 hd4 hd5 
    go_wp2_with fail
    go_loopg [6] ln (fun g iv wx => ∃ k : Nat, iv = .int .i64 k ∧ k + g = ln ∧ Hid (wx = X) ∧ Hid ((ls.take k).any (unl m) = false))
    case atStart => exact ⟨0, rfl, by omega, rfl, rfl⟩
    case round =>
      obtain ⟨k, rfl, hk, HW, HF1⟩ := hrel
      have e0 : wr = X := HW.out
      subst e0
      by_cases hlt : k < ln
      · have hd : decide ((k : Int) < (ln : Int)) = true := decide_eq_true (by omega)
        obtain ⟨g, rfl⟩ : ∃ g, gk = g + 1 := ⟨gk - 1, by omega⟩
        rcases RL.out.cells with h0 | ⟨gb, goff, ego, hcg⟩
        · omega
        have gg := hcg k hlt
        have rg := RL.out.each k hlt
        have hlt' : (k : Int) < (ln : Int) := by omega
        have HKL : Hid (k < ls.length) := by unfold Hid; rw [HLN.out]; exact hlt
        obtain ⟨x1, ex1⟩ : ∃ t, (gv k).1 = t := ⟨_, rfl⟩
        obtain ⟨x2, ex2⟩ : ∃ t, (gv k).2.1 = t := ⟨_, rfl⟩
        obtain ⟨x3, ex3⟩ : ∃ t, (gv k).2.2 = t := ⟨_, rfl⟩
        rw [ex1, ex2, ex3] at rg gg
        have RG : Hid (RdUs wr x1 x2 x3 (ls[k]?.getD [])) := rg
        have HXL : Hid ((ls[k]?.getD []).length = x2) := rg.length
        have hxm : x2 ≤ 9223372036854775807 := Nat.le_trans rg.max maxLen_le
        have HIG : Hid (k + (g + 1) = ln) := hk
        rw [ego] at c3
        clear hcg rg ex1 ex2 ex3 hk ego
        by_cases hu : (x2 : Int) = m + 1
        · have hne : ((x2 : Int) != m + 1) = false := by rw [hu]; simp
          have HU : Hid (unl m (ls[k]?.getD []) = false) := by unfold Hid unl; rw [HXL.out]; exact hne
          clear hu
          go_wp2_with fail
          go_roundg g
          case measure => omega
          case rel => exact ⟨k + 1, by go_num, by have := HIG.out; omega, rfl, by unfold Hid; rw [any_take_snoc HKL.out, HF1.out, HU.out]; rfl⟩
        · have hne : ((x2 : Int) != m + 1) = true := by rw [bne_iff_ne]; exact hu
          have HU : Hid (unl m (ls[k]?.getD []) = true) := by unfold Hid unl; rw [HXL.out]; exact hne
          clear hu
          have HV : Hid (mayE m t ls = 63) := by unfold Hid; rw [H2.out]; exact if_pos (any_of_at HKL.out HU.out)
          have HF : Hid (OfL wr w.heap.size [] [] [] (clL m t ls) (.slice none 0 0) (.slice none 0 0) (.slice none 0 0) (.slice none 0 0) []) := by unfold Hid clL; rw [if_neg (by rw [HV.out]; decide)]; exact OfL.nilM _ _
          go_wp2_with fail
          refine bodyPost_ret (v := .tuple #[.slice none 0 0, .int .i64 63]) (res_tmp2J _ 4 5 (by kernel_rfl) _ _ _ _ (by rfl) (by rfl)) rfl ?_
          first | exact ⟨⟨_, by rw [HV.out], [], HF⟩, PX.out.1⟩ | exact ⟨⟨_, [], by rw [HV.out], HF⟩, PX.out.1⟩
      · have hd : decide ((k : Int) < (ln : Int)) = false := decide_eq_false (by omega)
        have hd' : decide (k < ln) = false := decide_eq_false (by omega)
        have HN1 : Hid (ls.any (unl m) = false) := by
          have h9 := HF1.out
          rw [List.take_of_length_le (by rw [HLN.out]; omega)] at h9
          exact h9
        have H3 : Hid (mayE m t ls = if ls.any (fun a => !numsB a) = true then 64 else 0) := by unfold Hid; rw [H2.out]; exact if_neg (by rw [HN1.out]; decide)
        clear hk
        go_wp2_with fail
        clear hd hd' H2 HF1
        go_loopg [7] ln (fun g iv wx => ∃ k : Nat, iv = .int .i64 k ∧ k + g = ln ∧ Hid (wx = wr) ∧ Hid ((ls.take k).any (fun a => !numsB a) = false))
        case atStart => exact ⟨0, rfl, by omega, rfl, rfl⟩
        case round =>
          rename_i X _
          obtain ⟨k, rfl, hk, HW, HF1⟩ := hrel
          have e0 := HW.out
          subst e0
          by_cases hlt : k < ln
          · have hd : decide ((k : Int) < (ln : Int)) = true := decide_eq_true (by omega)
            obtain ⟨g, rfl⟩ : ∃ g, gk = g + 1 := ⟨gk - 1, by omega⟩
            have HTK := HLT.out k hlt
            rcases RL.out.cells with h0 | ⟨gb, goff, ego, hcg⟩
            · omega
            have gg := hcg k hlt
            have rg := RL.out.each k hlt
            have hlt' : (k : Int) < (ln : Int) := by omega
            have HKL : Hid (k < ls.length) := by unfold Hid; rw [HLN.out]; exact hlt
            obtain ⟨x1, ex1⟩ : ∃ t, (gv k).1 = t := ⟨_, rfl⟩
            obtain ⟨x2, ex2⟩ : ∃ t, (gv k).2.1 = t := ⟨_, rfl⟩
            obtain ⟨x3, ex3⟩ : ∃ t, (gv k).2.2 = t := ⟨_, rfl⟩
            rw [ex1, ex2, ex3] at rg gg
            have RG : Hid (RdUs _ x1 x2 x3 (ls[k]?.getD [])) := rg
            have HXL : Hid ((ls[k]?.getD []).length = x2) := rg.length
            have hxm : x2 ≤ 9223372036854775807 := Nat.le_trans rg.max maxLen_le
            have HIG : Hid (k + (g + 1) = ln) := hk
            rw [ego] at c3
            clear hcg rg ex1 ex2 ex3 hk ego
            have HNB := numbers6_any x1 x2 x3 (ls[k]?.getD []) _ RG.out HTK
            obtain ⟨b, hb⟩ : ∃ b, numsB (ls[k]?.getD []) = b := ⟨_, rfl⟩
            rw [hb] at HNB
            have HU : Hid ((fun a => !numsB a) (ls[k]?.getD []) = !b) := by unfold Hid; show (!numsB (ls[k]?.getD [])) = !b; rw [hb]
            clear hb HTK
            cases b with
            | true =>
              go_wp2_with (go_at_call 17; refine HNB.mono ?_; rintro e w' ⟨rfl, hw'⟩; rw [hw']; clear hw')
              go_roundg g
              case measure => omega
              case rel => exact ⟨k + 1, by go_num, by have := HIG.out; omega, rfl, by unfold Hid; rw [any_take_snoc HKL.out, HF1.out, HU.out]; rfl⟩
            | false =>
              have HV : Hid (mayE m t ls = 64) := by unfold Hid; rw [H3.out]; exact if_pos (any_of_at HKL.out HU.out)
              have HF : Hid (∀ W, OfL W w.heap.size [] [] [] (clL m t ls) (.slice none 0 0) (.slice none 0 0) (.slice none 0 0) (.slice none 0 0) []) := by intro W; unfold clL; rw [if_neg (by rw [HV.out]; decide)]; exact OfL.nilM _ _
              go_wp2_with (go_at_call 17; refine HNB.mono ?_; rintro e w' ⟨rfl, hw'⟩; rw [hw']; clear hw')
              refine bodyPost_ret (v := .tuple #[.slice none 0 0, .int .i64 64]) (res_tmp2J _ 4 5 (by kernel_rfl) _ _ _ _ (by rfl) (by rfl)) rfl ?_
              first | exact ⟨⟨_, by rw [HV.out], [], HF.out _⟩, PX.out.1⟩ | exact ⟨⟨_, [], by rw [HV.out], HF.out _⟩, PX.out.1⟩
          · have hd : decide ((k : Int) < (ln : Int)) = false := decide_eq_false (by omega)
            have hd' : decide (k < ln) = false := decide_eq_false (by omega)
            have HN2 : Hid (ls.any (fun a => !numsB a) = false) := by
              have h9 := HF1.out
              rw [List.take_of_length_le (by rw [HLN.out]; omega)] at h9
              exact h9
            have HER : Hid (mayE m t ls = 0) := by unfold Hid; rw [H3.out]; exact if_neg (by rw [HN2.out]; decide)
            obtain ⟨M, hMM⟩ : ∃ M : Nat, m = M := ⟨m.toNat, by have := HB.out; omega⟩
            subst hMM
            have HCL : Hid (clL (M : Int) t ls = tgT M t M ++ ls) := by unfold Hid clL; rw [if_pos HER.out, Int.toNat_natCast]
            have HRL : Hid (∀ k, k < ln → (ls[k]?.getD []).length = M + 1) := by
              intro k hk
              have q5 := HN1.out
              rw [List.any_eq_false] at q5
              have hkl : k < ls.length := by rw [HLN.out]; exact hk
              have h9 := q5 _ (List.getElem_mem hkl)
              rw [List.getElem?_eq_getElem hkl]
              show ls[k].length = M + 1
              unfold unl at h9
              simp only [bne_iff_ne, ne_eq, Decidable.not_not] at h9
              omega
            have hM : M ≤ 256 := by have := HB.out; omega
            have hM1 : 1 ≤ M := by have := HB.out; omega
            have htm : t < (M : Int) := HB.out.2.2.2
            clear hk H3 HF1 HN1 HN2 hw1
            go_wp2_with fail
            clear c2' c3 RL
            go_loopg [8, 9] M (fun g v8 iv wx => ∃ (k : Nat) (gl : List Value), iv = .int .i64 k ∧ k + g = M ∧ Hid (OfL wx w.heap.size [] [] [] (tgT M t k) (.slice none 0 0) (.slice none 0 0) (.slice none 0 0) v8 gl ∧ Below w.heap.size w wx ∧ wx.heap[w.heap.size]? = some (.cells #[.slice o1 l1 c1, .slice o2 l2 c2, .int .i64 t, .slice lo ln lc, .int .i64 K, .int .i64 D, .int .i64 L] 35)))
            case atStart =>
              refine ⟨0, [], rfl, by omega, ?_, PX.out.1, PX.out.2⟩
              have e : tgT M t 0 = [] := by unfold tgT tgL; split <;> rfl
              rw [e]; exact OfL.nilM _ _
            case round =>
              clear PX
              obtain ⟨k, gl, rfl, hk, HI⟩ := hrel
              have d2 := cellAtJ HI.out.2.2 2 _ rfl
              by_cases hlt : k < M
              · have hd : decide ((k : Int) < (M : Int)) = true := decide_eq_true (by omega)
                by_cases ht : t < 0
                · have hdt : decide (t ≥ 0) = false := decide_eq_false (by omega)
                  have HI0 : Hid (OfL wr w.heap.size [] [] [] (tgT M t M ++ ls.take 0) (.slice none 0 0) (.slice none 0 0) (.slice none 0 0) u8 gl ∧ Below w.heap.size w wr ∧ wr.heap[w.heap.size]? = some (.cells #[.slice o1 l1 c1, .slice o2 l2 c2, .int .i64 t, .slice lo ln lc, .int .i64 K, .int .i64 D, .int .i64 L] 35)) := by
                    have e : tgT M t M = tgT M t k := by unfold tgT; rw [if_pos ht, if_pos ht]
                    unfold Hid; rw [List.take_zero, List.append_nil, e]; exact HI.out
                  clear HI hk
                  have c3 := cellAtJ HI0.out.2.2 3 _ rfl
                  go_wp2_with fail
                  clear d2 c3 hd hdt
                  go_loopg [8, 10] ln (fun g v8 iv wx => ∃ (k : Nat) (gl : List Value), iv = .int .i64 k ∧ k + g = ln ∧ Hid (OfL wx w.heap.size [] [] [] (tgT M t M ++ ls.take k) (.slice none 0 0) (.slice none 0 0) (.slice none 0 0) v8 gl ∧ Below w.heap.size w wx ∧ wx.heap[w.heap.size]? = some (.cells #[.slice o1 l1 c1, .slice o2 l2 c2, .int .i64 t, .slice lo ln lc, .int .i64 K, .int .i64 D, .int .i64 L] 35)))
                  case atStart => exact ⟨0, gl, rfl, by omega, HI0⟩
                  case round =>
                    clear HI0
                    obtain ⟨k, gl, rfl, hk, HI⟩ := hrel
                    have c3 := cellAtJ HI.out.2.2 3 _ rfl
                    by_cases hlt2 : k < ln
                    · have hd : decide ((k : Int) < (ln : Int)) = true := decide_eq_true (by omega)
                      obtain ⟨g, rfl⟩ : ∃ g, gk = g + 1 := ⟨gk - 1, by omega⟩
                      have HIG : Hid (k + (g + 1) = ln) := hk
                      have hlt' : (k : Int) < (ln : Int) := by omega
                      have rx := HL.out _ HI.out.2.1
                      rcases rx.cells with h0 | ⟨gb, goff, ego, hcg⟩
                      · omega
                      subst ego
                      have gg := hcg k hlt2
                      have rg := rx.each k hlt2
                      have hxl := rg.length
                      rw [HRL.out k hlt2] at hxl
                      obtain ⟨x1, ex1⟩ : ∃ t, (gv k).1 = t := ⟨_, rfl⟩
                      obtain ⟨x2, ex2⟩ : ∃ t, (gv k).2.1 = t := ⟨_, rfl⟩
                      obtain ⟨x3, ex3⟩ : ∃ t, (gv k).2.2 = t := ⟨_, rfl⟩
                      rw [ex1, ex2, ex3] at rg gg
                      rw [ex2] at hxl
                      subst hxl
                      rcases rg.cells with h0 | ⟨xb, xoff, ex, hcx⟩
                      · omega
                      subst ex
                      have HTK : Hid (ls.take (k + 1) = ls.take k ++ [ls[k]?.getD []]) := take_snocL (by rw [HLN.out]; exact hlt2)
                      have HUL : Hid ((ls[k]?.getD []).length = M + 1) := HRL.out k hlt2
                      have HNW : Hid (∀ (j : Nat) (u : Value), (uJ (ls[k]?.getD []))[j]? = some u → wr.cell? ((⟨xb, xoff, none⟩ : Addr).add j) = some u) := by
                        intro j u hj
                        have hjl : j < M + 1 := by have := (List.getElem?_eq_some_iff.1 hj).1; rw [uJ_len, HUL.out] at this; exact this
                        have h8 := hcx j hjl
                        rw [uJ_at _ j (by rw [HUL.out]; exact hjl)] at hj
                        cases hj
                        by_cases hj0 : j = 0
                        · subst hj0; simpa [Addr.add] using h8
                        · simpa [Addr.add, hj0] using h8
                      clear rx hcg rg ex1 ex2 ex3 hk hcx
                      go_wp2_with (first
                        | (at_builtin; refine append_gsJ Try.underlying33 Try.infoUJ rfl (by decide) (by decide) wr (by rfl) _ _ (by rfl) w.heap.size (.slice none 0 0) 0 [] (by rfl) (World.ownsRow_nil _ _ _ _) ⟨xb, xoff, none⟩ (M + 1) x3 (uJ (ls[k]?.getD [])) (by rfl) (by rw [uJ_len, HUL.out, Nat.mul_one]) HNW.out (fun u hu => by obtain ⟨x, -, rfl⟩ := List.mem_map.1 hu; rfl) (by omega) HI.out.2.1.size ?_; intro v5 w5 o5 g5; rw [Nat.zero_add] at o5; obtain ⟨ao2, c9, hv5, -⟩ := owns_slice o5; subst hv5; have b5 : Below wr.heap.size wr w5 := g5.below (fun k hk => by simp [Value.ownBlock] at hk) (Nat.le_refl _); have L1 : Hid (OfL w5 w.heap.size [] [] [] (tgT M t M ++ ls.take k) (.slice none 0 0) (.slice none 0 0) (.slice none 0 0) u8 gl ∧ Below w.heap.size w w5 ∧ w5.heap[w.heap.size]? = some (.cells #[.slice o1 l1 c1, .slice o2 l2 c2, .int .i64 t, .slice (some ⟨gb, goff, none⟩) ln lc, .int .i64 K, .int .i64 D, .int .i64 L] 35)) := ⟨HI.out.1.later b5, to_call HI.out.2.1 b5, kept b5 HI.out.2.2⟩; have O1 : Hid (w5.ownsRow w.heap.size 67 1 (Value.slice ao2 (M + 1) c9) (ls[k]?.getD []).length (uJ (ls[k]?.getD []))) := (by unfold Hid; rw [HUL.out]; exact o5); have A1 : Below w5.heap.size w5 (w5.alloc (.cells #[Value.slice ao2 (M + 1) c9] 33)) := (Below.refl _ w5).alloc (Nat.le_refl _) _; have Lz : Hid (OfL (w5.alloc (.cells #[Value.slice ao2 (M + 1) c9] 33)) w.heap.size [] [] [] (tgT M t M ++ ls.take k) (.slice none 0 0) (.slice none 0 0) (.slice none 0 0) u8 gl) := L1.out.1.later A1; have Oz : Hid ((w5.alloc (.cells #[Value.slice ao2 (M + 1) c9] 33)).ownsRow w.heap.size 67 1 (Value.slice ao2 (M + 1) c9) (ls[k]?.getD []).length (uJ (ls[k]?.getD []))) := World.ownsRow.alloc O1.out _; have hgl : gl.length ≤ 2000000 := (by have h1 := HI.out.1.len; have h2 := tgT_len M t M; rw [List.length_append, List.length_take] at h1; omega))
                        | (at_builtin; refine append_gsJ Try.underlying30 Try.infoUsM rfl (by decide) (by decide) _ (by rfl) _ _ (by rfl) w.heap.size _ gl.length gl (by rfl) Lz.out.g ⟨w5.heap.size, 0, none⟩ 1 1 [Value.slice ao2 (M + 1) c9] (by rfl) rfl (news_oneJ (heap_alloc_new w5 _)) (oneI _ (own_valJ O1.out).1) (by omega) (by have := L1.out.2.1.size; simp only [alloc_size]; omega) ?_; intro v6 w6 o6 g6))
                      clear gg HNW c3
                      have b6 : Below w.heap.size w w6 := (to_call L1.out.2.1 A1).trans (g6.below (fun k hk => (World.ownsRow.lt Lz.out.g k hk).1) (to_call L1.out.2.1 A1).size)
                      have HI2 : Hid (OfL w6 w.heap.size [] [] [] (tgT M t M ++ ls.take k ++ [ls[k]?.getD []]) (.slice none 0 0) (.slice none 0 0) (.slice none 0 0) v6 (gl ++ [Value.slice ao2 (M + 1) c9]) ∧ Below w.heap.size w w6 ∧ w6.heap[w.heap.size]? = some (.cells #[.slice o1 l1 c1, .slice o2 l2 c2, .int .i64 t, .slice (some ⟨gb, goff, none⟩) ln lc, .int .i64 K, .int .i64 D, .int .i64 L] 35)) := by
                        refine ⟨Lz.out.pushG g6 o6 Oz.out, b6, ?_⟩
                        have h9 := kept A1 L1.out.2.2
                        have hk := grw_types Lz.out.g g6
                        exact (hk w.heap.size _ _ (by decide) h9).trans h9
                      clear o6 g6 A1 Lz Oz O1 L1 b6 hgl
                      have HI3 : Hid (OfL w6 w.heap.size [] [] [] (tgT M t M ++ ls.take (k + 1)) (.slice none 0 0) (.slice none 0 0) (.slice none 0 0) v6 (gl ++ [Value.slice ao2 (M + 1) c9]) ∧ Below w.heap.size w w6 ∧ w6.heap[w.heap.size]? = some (.cells #[.slice o1 l1 c1, .slice o2 l2 c2, .int .i64 t, .slice (some ⟨gb, goff, none⟩) ln lc, .int .i64 K, .int .i64 D, .int .i64 L] 35)) := by unfold Hid; rw [HTK.out, ← List.append_assoc]; exact HI2.out
                      clear HI2 HI
                      go_roundg g
                      case measure => omega
                      case rel => exact ⟨k + 1, _, by go_num, by have := HIG.out; omega, HI3⟩
                    · have hd : decide ((k : Int) < (ln : Int)) = false := decide_eq_false (by omega)
                      have hd' : decide (k < ln) = false := decide_eq_false (by omega)
                      have HF : Hid (OfL wr w.heap.size [] [] [] (clL (M : Int) t ls) (.slice none 0 0) (.slice none 0 0) (.slice none 0 0) u8 gl) := by
                        have h9 := HI.out.1
                        rw [List.take_of_length_le (by rw [HLN.out]; omega)] at h9
                        unfold Hid; rw [HCL.out]; exact h9
                      clear hk
                      go_wp2_with fail
                      refine bodyPost_ret (v := .tuple #[u8, .int .i64 0]) (res_tmp2J _ 4 5 (by kernel_rfl) _ _ _ _ (by rfl) (by rfl)) rfl ?_
                      first | exact ⟨⟨u8, gl, by rw [HER.out], HF⟩, HI.out.2.1⟩ | exact ⟨⟨u8, by rw [HER.out], gl, HF⟩, HI.out.2.1⟩
                · obtain ⟨T, rfl⟩ : ∃ T : Nat, t = T := ⟨t.toNat, by omega⟩
                  obtain ⟨g, rfl⟩ : ∃ g, gk = g + 1 := ⟨gk - 1, by omega⟩
                  have HIG : Hid (k + (g + 1) = M) := hk
                  clear hk
                  have hdt : decide ((T : Int) ≥ 0) = true := decide_eq_true (by omega)
                  have HTG : Hid (∀ j, tgT M (T : Int) j = tgL M T j) := fun j => by unfold tgT; rw [if_neg ht, Int.toNat_natCast]
                  clear ht
                  by_cases hkt : k = T
                  · have hne : ((k : Int) != (T : Int)) = false := by rw [hkt]; simp
                    have HI2 : Hid (OfL wr w.heap.size [] [] [] (tgT M (T : Int) (k + 1)) (.slice none 0 0) (.slice none 0 0) (.slice none 0 0) u8 gl ∧ Below w.heap.size w wr ∧ wr.heap[w.heap.size]? = some (.cells #[.slice o1 l1 c1, .slice o2 l2 c2, .int .i64 (T : Int), .slice lo ln lc, .int .i64 K, .int .i64 D, .int .i64 L] 35)) := by
                      have e : tgT M (T : Int) (k + 1) = tgT M (T : Int) k := by rw [HTG.out, HTG.out, tgL, if_pos hkt]
                      unfold Hid; rw [e]; exact HI.out
                    clear HI hkt
                    go_wp2_with fail
                    go_roundg g
                    case measure => omega
                    case rel => exact ⟨k + 1, gl, by go_num, by have := HIG.out; omega, HI2⟩
                  · have hne : ((k : Int) != (T : Int)) = true := by rw [bne_iff_ne]; omega
                    have HTK : Hid (tgT M (T : Int) (k + 1) = tgT M (T : Int) k ++ [abR M T k]) := by unfold Hid; rw [HTG.out, HTG.out, tgL, if_neg hkt]
                    have hTM : T ≤ M := by omega
                    go_wp2_with fail
                    refine Calls.mono (row17_any T k M hTM (by omega) hM _) ?_
                    rintro e w3 ⟨rfl, o3, b3⟩
                    have L1 : Hid (OfL w3 w.heap.size [] [] [] (tgT M (T : Int) k) (.slice none 0 0) (.slice none 0 0) (.slice none 0 0) u8 gl ∧ Below w.heap.size w w3 ∧ w3.heap[w.heap.size]? = some (.cells #[.slice o1 l1 c1, .slice o2 l2 c2, .int .i64 (T : Int), .slice lo ln lc, .int .i64 K, .int .i64 D, .int .i64 L] 35)) := ⟨HI.out.1.later b3, to_call HI.out.2.1 b3, kept b3 HI.out.2.2⟩
                    have O1 : Hid (w3.ownsRow w.heap.size 67 1 (Value.slice (some ⟨wr.heap.size, 0, none⟩) (M + 1) (M + 1)) (abR M T k).length (uJ (abR M T k))) := owns_monoJ o3 HI.out.2.1.size
                    clear o3 b3 d2
                    have A1 : Below w3.heap.size w3 (w3.alloc (.cells #[Value.slice (some ⟨wr.heap.size, 0, none⟩) (M + 1) (M + 1)] 33)) := (Below.refl _ w3).alloc (Nat.le_refl _) _
                    have Lz : Hid (OfL (w3.alloc (.cells #[Value.slice (some ⟨wr.heap.size, 0, none⟩) (M + 1) (M + 1)] 33)) w.heap.size [] [] [] (tgT M (T : Int) k) (.slice none 0 0) (.slice none 0 0) (.slice none 0 0) u8 gl) := L1.out.1.later A1
                    have Oz : Hid ((w3.alloc (.cells #[Value.slice (some ⟨wr.heap.size, 0, none⟩) (M + 1) (M + 1)] 33)).ownsRow w.heap.size 67 1 (Value.slice (some ⟨wr.heap.size, 0, none⟩) (M + 1) (M + 1)) (abR M T k).length (uJ (abR M T k))) := World.ownsRow.alloc O1.out _
                    have hgl : gl.length ≤ 2000000 := by have h1 := HI.out.1.len; have h2 := tgT_len M (T : Int) k; omega
                    go_wp2_with (first
                      | (at_builtin; refine append_gsJ Try.underlying30 Try.infoUsM rfl (by decide) (by decide) _ (by rfl) _ _ (by rfl) w.heap.size _ gl.length gl (by rfl) Lz.out.g ⟨w3.heap.size, 0, none⟩ 1 1 [Value.slice (some ⟨wr.heap.size, 0, none⟩) (M + 1) (M + 1)] (by rfl) rfl (news_oneJ (heap_alloc_new w3 _)) (oneI _ (own_valJ O1.out).1) (by omega) (by have := L1.out.2.1.size; simp only [alloc_size]; omega) ?_; intro v6 w6 o6 g6))
                    have b6 : Below w.heap.size w w6 := (to_call L1.out.2.1 A1).trans (g6.below (fun k hk => (World.ownsRow.lt Lz.out.g k hk).1) (to_call L1.out.2.1 A1).size)
                    have HI2 : Hid (OfL w6 w.heap.size [] [] [] (tgT M (T : Int) k ++ [abR M T k]) (.slice none 0 0) (.slice none 0 0) (.slice none 0 0) v6 (gl ++ [Value.slice (some ⟨wr.heap.size, 0, none⟩) (M + 1) (M + 1)]) ∧ Below w.heap.size w w6 ∧ w6.heap[w.heap.size]? = some (.cells #[.slice o1 l1 c1, .slice o2 l2 c2, .int .i64 (T : Int), .slice lo ln lc, .int .i64 K, .int .i64 D, .int .i64 L] 35)) := by
                      refine ⟨Lz.out.pushG g6 o6 Oz.out, b6, ?_⟩
                      have h9 := kept A1 L1.out.2.2
                      have hk := grw_types Lz.out.g g6
                      exact (hk w.heap.size _ _ (by decide) h9).trans h9
                    clear o6 g6 A1 Lz Oz O1 L1 b6 hgl
                    have HI3 : Hid (OfL w6 w.heap.size [] [] [] (tgT M (T : Int) (k + 1)) (.slice none 0 0) (.slice none 0 0) (.slice none 0 0) v6 (gl ++ [Value.slice (some ⟨wr.heap.size, 0, none⟩) (M + 1) (M + 1)]) ∧ Below w.heap.size w w6 ∧ w6.heap[w.heap.size]? = some (.cells #[.slice o1 l1 c1, .slice o2 l2 c2, .int .i64 (T : Int), .slice lo ln lc, .int .i64 K, .int .i64 D, .int .i64 L] 35)) := by unfold Hid; rw [HTK.out]; exact HI2.out
                    clear HI2 HI
                    go_roundg g
                    case measure => omega
                    case rel => exact ⟨k + 1, _, by go_num, by have := HIG.out; omega, HI3⟩
              · have hd : decide ((k : Int) < (M : Int)) = false := decide_eq_false (by omega)
                have hd' : decide (k < M) = false := decide_eq_false (by omega)
                have ek : k = M := by omega
                have HI0 : Hid (OfL wr w.heap.size [] [] [] (tgT M t M ++ ls.take 0) (.slice none 0 0) (.slice none 0 0) (.slice none 0 0) u8 gl ∧ Below w.heap.size w wr ∧ wr.heap[w.heap.size]? = some (.cells #[.slice o1 l1 c1, .slice o2 l2 c2, .int .i64 t, .slice lo ln lc, .int .i64 K, .int .i64 D, .int .i64 L] 35)) := by
                  unfold Hid; rw [List.take_zero, List.append_nil, ← ek]; exact ek ▸ HI.out
                clear HI hk ek
                have c3 := cellAtJ HI0.out.2.2 3 _ rfl
                go_wp2_with fail
                clear d2 c3 hd hd'
                go_loopg [8, 10] ln (fun g v8 iv wx => ∃ (k : Nat) (gl : List Value), iv = .int .i64 k ∧ k + g = ln ∧ Hid (OfL wx w.heap.size [] [] [] (tgT M t M ++ ls.take k) (.slice none 0 0) (.slice none 0 0) (.slice none 0 0) v8 gl ∧ Below w.heap.size w wx ∧ wx.heap[w.heap.size]? = some (.cells #[.slice o1 l1 c1, .slice o2 l2 c2, .int .i64 t, .slice lo ln lc, .int .i64 K, .int .i64 D, .int .i64 L] 35)))
                case atStart => exact ⟨0, gl, rfl, by omega, HI0⟩
                case round =>
                  clear HI0
                  obtain ⟨k, gl, rfl, hk, HI⟩ := hrel
                  have c3 := cellAtJ HI.out.2.2 3 _ rfl
                  by_cases hlt2 : k < ln
                  · have hd : decide ((k : Int) < (ln : Int)) = true := decide_eq_true (by omega)
                    obtain ⟨g, rfl⟩ : ∃ g, gk = g + 1 := ⟨gk - 1, by omega⟩
                    have HIG : Hid (k + (g + 1) = ln) := hk
                    have hlt' : (k : Int) < (ln : Int) := by omega
                    have rx := HL.out _ HI.out.2.1
                    rcases rx.cells with h0 | ⟨gb, goff, ego, hcg⟩
                    · omega
                    subst ego
                    have gg := hcg k hlt2
                    have rg := rx.each k hlt2
                    have hxl := rg.length
                    rw [HRL.out k hlt2] at hxl
                    obtain ⟨x1, ex1⟩ : ∃ t, (gv k).1 = t := ⟨_, rfl⟩
                    obtain ⟨x2, ex2⟩ : ∃ t, (gv k).2.1 = t := ⟨_, rfl⟩
                    obtain ⟨x3, ex3⟩ : ∃ t, (gv k).2.2 = t := ⟨_, rfl⟩
                    rw [ex1, ex2, ex3] at rg gg
                    rw [ex2] at hxl
                    subst hxl
                    rcases rg.cells with h0 | ⟨xb, xoff, ex, hcx⟩
                    · omega
                    subst ex
                    have HTK : Hid (ls.take (k + 1) = ls.take k ++ [ls[k]?.getD []]) := take_snocL (by rw [HLN.out]; exact hlt2)
                    have HUL : Hid ((ls[k]?.getD []).length = M + 1) := HRL.out k hlt2
                    have HNW : Hid (∀ (j : Nat) (u : Value), (uJ (ls[k]?.getD []))[j]? = some u → wr.cell? ((⟨xb, xoff, none⟩ : Addr).add j) = some u) := by
                      intro j u hj
                      have hjl : j < M + 1 := by have := (List.getElem?_eq_some_iff.1 hj).1; rw [uJ_len, HUL.out] at this; exact this
                      have h8 := hcx j hjl
                      rw [uJ_at _ j (by rw [HUL.out]; exact hjl)] at hj
                      cases hj
                      by_cases hj0 : j = 0
                      · subst hj0; simpa [Addr.add] using h8
                      · simpa [Addr.add, hj0] using h8
                    clear rx hcg rg ex1 ex2 ex3 hk hcx
                    go_wp2_with (first
                      | (at_builtin; refine append_gsJ Try.underlying33 Try.infoUJ rfl (by decide) (by decide) wr (by rfl) _ _ (by rfl) w.heap.size (.slice none 0 0) 0 [] (by rfl) (World.ownsRow_nil _ _ _ _) ⟨xb, xoff, none⟩ (M + 1) x3 (uJ (ls[k]?.getD [])) (by rfl) (by rw [uJ_len, HUL.out, Nat.mul_one]) HNW.out (fun u hu => by obtain ⟨x, -, rfl⟩ := List.mem_map.1 hu; rfl) (by omega) HI.out.2.1.size ?_; intro v5 w5 o5 g5; rw [Nat.zero_add] at o5; obtain ⟨ao2, c9, hv5, -⟩ := owns_slice o5; subst hv5; have b5 : Below wr.heap.size wr w5 := g5.below (fun k hk => by simp [Value.ownBlock] at hk) (Nat.le_refl _); have L1 : Hid (OfL w5 w.heap.size [] [] [] (tgT M t M ++ ls.take k) (.slice none 0 0) (.slice none 0 0) (.slice none 0 0) u8 gl ∧ Below w.heap.size w w5 ∧ w5.heap[w.heap.size]? = some (.cells #[.slice o1 l1 c1, .slice o2 l2 c2, .int .i64 t, .slice (some ⟨gb, goff, none⟩) ln lc, .int .i64 K, .int .i64 D, .int .i64 L] 35)) := ⟨HI.out.1.later b5, to_call HI.out.2.1 b5, kept b5 HI.out.2.2⟩; have O1 : Hid (w5.ownsRow w.heap.size 67 1 (Value.slice ao2 (M + 1) c9) (ls[k]?.getD []).length (uJ (ls[k]?.getD []))) := (by unfold Hid; rw [HUL.out]; exact o5); have A1 : Below w5.heap.size w5 (w5.alloc (.cells #[Value.slice ao2 (M + 1) c9] 33)) := (Below.refl _ w5).alloc (Nat.le_refl _) _; have Lz : Hid (OfL (w5.alloc (.cells #[Value.slice ao2 (M + 1) c9] 33)) w.heap.size [] [] [] (tgT M t M ++ ls.take k) (.slice none 0 0) (.slice none 0 0) (.slice none 0 0) u8 gl) := L1.out.1.later A1; have Oz : Hid ((w5.alloc (.cells #[Value.slice ao2 (M + 1) c9] 33)).ownsRow w.heap.size 67 1 (Value.slice ao2 (M + 1) c9) (ls[k]?.getD []).length (uJ (ls[k]?.getD []))) := World.ownsRow.alloc O1.out _; have hgl : gl.length ≤ 2000000 := (by have h1 := HI.out.1.len; have h2 := tgT_len M t M; rw [List.length_append, List.length_take] at h1; omega))
                      | (at_builtin; refine append_gsJ Try.underlying30 Try.infoUsM rfl (by decide) (by decide) _ (by rfl) _ _ (by rfl) w.heap.size _ gl.length gl (by rfl) Lz.out.g ⟨w5.heap.size, 0, none⟩ 1 1 [Value.slice ao2 (M + 1) c9] (by rfl) rfl (news_oneJ (heap_alloc_new w5 _)) (oneI _ (own_valJ O1.out).1) (by omega) (by have := L1.out.2.1.size; simp only [alloc_size]; omega) ?_; intro v6 w6 o6 g6))
                    clear gg HNW c3
                    have b6 : Below w.heap.size w w6 := (to_call L1.out.2.1 A1).trans (g6.below (fun k hk => (World.ownsRow.lt Lz.out.g k hk).1) (to_call L1.out.2.1 A1).size)
                    have HI2 : Hid (OfL w6 w.heap.size [] [] [] (tgT M t M ++ ls.take k ++ [ls[k]?.getD []]) (.slice none 0 0) (.slice none 0 0) (.slice none 0 0) v6 (gl ++ [Value.slice ao2 (M + 1) c9]) ∧ Below w.heap.size w w6 ∧ w6.heap[w.heap.size]? = some (.cells #[.slice o1 l1 c1, .slice o2 l2 c2, .int .i64 t, .slice (some ⟨gb, goff, none⟩) ln lc, .int .i64 K, .int .i64 D, .int .i64 L] 35)) := by
                      refine ⟨Lz.out.pushG g6 o6 Oz.out, b6, ?_⟩
                      have h9 := kept A1 L1.out.2.2
                      have hk := grw_types Lz.out.g g6
                      exact (hk w.heap.size _ _ (by decide) h9).trans h9
                    clear o6 g6 A1 Lz Oz O1 L1 b6 hgl
                    have HI3 : Hid (OfL w6 w.heap.size [] [] [] (tgT M t M ++ ls.take (k + 1)) (.slice none 0 0) (.slice none 0 0) (.slice none 0 0) v6 (gl ++ [Value.slice ao2 (M + 1) c9]) ∧ Below w.heap.size w w6 ∧ w6.heap[w.heap.size]? = some (.cells #[.slice o1 l1 c1, .slice o2 l2 c2, .int .i64 t, .slice (some ⟨gb, goff, none⟩) ln lc, .int .i64 K, .int .i64 D, .int .i64 L] 35)) := by unfold Hid; rw [HTK.out, ← List.append_assoc]; exact HI2.out
                    clear HI2 HI
                    go_roundg g
                    case measure => omega
                    case rel => exact ⟨k + 1, _, by go_num, by have := HIG.out; omega, HI3⟩
                  · have hd : decide ((k : Int) < (ln : Int)) = false := decide_eq_false (by omega)
                    have hd' : decide (k < ln) = false := decide_eq_false (by omega)
                    have HF : Hid (OfL wr w.heap.size [] [] [] (clL (M : Int) t ls) (.slice none 0 0) (.slice none 0 0) (.slice none 0 0) u8 gl) := by
                      have h9 := HI.out.1
                      rw [List.take_of_length_le (by rw [HLN.out]; omega)] at h9
                      unfold Hid; rw [HCL.out]; exact h9
                    clear hk
                    go_wp2_with fail
                    refine bodyPost_ret (v := .tuple #[u8, .int .i64 0]) (res_tmp2J _ 4 5 (by kernel_rfl) _ _ _ _ (by rfl) (by rfl)) rfl ?_
                    first | exact ⟨⟨u8, gl, by rw [HER.out], HF⟩, HI.out.2.1⟩ | exact ⟨⟨u8, by rw [HER.out], gl, HF⟩, HI.out.2.1⟩
  · clear HST
    have HA3 : Hid (∀ k, k < ln → (ls[k]?.getD []).length = (gv k).2.1) := fun k hk => (RL.out.each k hk).length
    go_upto_region 3 with fail
    clear hd1 hd2 hd3 hd4 hd5 hd7 hd8
    go_wp2_with fail
    go_loopg [6] ln (fun g iv wx => ∃ k : Nat, iv = .int .i64 k ∧ k + g = ln ∧ Hid (wx = X) ∧ Hid ((ls.take k).any (unl m) = false))
    case atStart => exact ⟨0, rfl, by omega, rfl, rfl⟩
    case round =>
      obtain ⟨k, rfl, hk, HW, HF1⟩ := hrel
      have e0 : wr = X := HW.out
      subst e0
      by_cases hlt : k < ln
      · have hd : decide ((k : Int) < (ln : Int)) = true := decide_eq_true (by omega)
        obtain ⟨g, rfl⟩ : ∃ g, gk = g + 1 := ⟨gk - 1, by omega⟩
        rcases RL.out.cells with h0 | ⟨gb, goff, ego, hcg⟩
        · omega
        have gg := hcg k hlt
        have rg := RL.out.each k hlt
        have hlt' : (k : Int) < (ln : Int) := by omega
        have HKL : Hid (k < ls.length) := by unfold Hid; rw [HLN.out]; exact hlt
        obtain ⟨x1, ex1⟩ : ∃ t, (gv k).1 = t := ⟨_, rfl⟩
        obtain ⟨x2, ex2⟩ : ∃ t, (gv k).2.1 = t := ⟨_, rfl⟩
        obtain ⟨x3, ex3⟩ : ∃ t, (gv k).2.2 = t := ⟨_, rfl⟩
        rw [ex1, ex2, ex3] at rg gg
        have RG : Hid (RdUs wr x1 x2 x3 (ls[k]?.getD [])) := rg
        have HXL : Hid ((ls[k]?.getD []).length = x2) := rg.length
        have hxm : x2 ≤ 9223372036854775807 := Nat.le_trans rg.max maxLen_le
        have HIG : Hid (k + (g + 1) = ln) := hk
        rw [ego] at c3
        clear hcg rg ex1 ex2 ex3 hk ego
        by_cases hu : (x2 : Int) = m + 1
        · have hne : ((x2 : Int) != m + 1) = false := by rw [hu]; simp
          have HU : Hid (unl m (ls[k]?.getD []) = false) := by unfold Hid unl; rw [HXL.out]; exact hne
          clear hu
          go_wp2_with fail
          go_roundg g
          case measure => omega
          case rel => exact ⟨k + 1, by go_num, by have := HIG.out; omega, rfl, by unfold Hid; rw [any_take_snoc HKL.out, HF1.out, HU.out]; rfl⟩
        · have hne : ((x2 : Int) != m + 1) = true := by rw [bne_iff_ne]; exact hu
          have HU : Hid (unl m (ls[k]?.getD []) = true) := by unfold Hid unl; rw [HXL.out]; exact hne
          clear hu
          have HV : Hid (mayE m t ls = 63) := by unfold Hid; rw [H2.out]; exact if_pos (any_of_at HKL.out HU.out)
          have HF : Hid (OfL wr w.heap.size [] [] [] (clL m t ls) (.slice none 0 0) (.slice none 0 0) (.slice none 0 0) (.slice none 0 0) []) := by unfold Hid clL; rw [if_neg (by rw [HV.out]; decide)]; exact OfL.nilM _ _
          go_wp2_with fail
          refine bodyPost_ret (v := .tuple #[.slice none 0 0, .int .i64 63]) (res_tmp2J _ 4 5 (by kernel_rfl) _ _ _ _ (by rfl) (by rfl)) rfl ?_
          first | exact ⟨⟨_, by rw [HV.out], [], HF⟩, PX.out.1⟩ | exact ⟨⟨_, [], by rw [HV.out], HF⟩, PX.out.1⟩
      · have hd : decide ((k : Int) < (ln : Int)) = false := decide_eq_false (by omega)
        have hd' : decide (k < ln) = false := decide_eq_false (by omega)
        have HN1 : Hid (ls.any (unl m) = false) := by
          have h9 := HF1.out
          rw [List.take_of_length_le (by rw [HLN.out]; omega)] at h9
          exact h9
        have H3 : Hid (mayE m t ls = if ls.any (fun a => !numsB a) = true then 64 else 0) := by unfold Hid; rw [H2.out]; exact if_neg (by rw [HN1.out]; decide)
        clear hk
        go_wp2_with fail
        clear hd hd' H2 HF1
        go_loopg [7] ln (fun g iv wx => ∃ k : Nat, iv = .int .i64 k ∧ k + g = ln ∧ Hid (wx = wr) ∧ Hid ((ls.take k).any (fun a => !numsB a) = false))
        case atStart => exact ⟨0, rfl, by omega, rfl, rfl⟩
        case round =>
          rename_i X _
          obtain ⟨k, rfl, hk, HW, HF1⟩ := hrel
          have e0 := HW.out
          subst e0
          by_cases hlt : k < ln
          · have hd : decide ((k : Int) < (ln : Int)) = true := decide_eq_true (by omega)
            obtain ⟨g, rfl⟩ : ∃ g, gk = g + 1 := ⟨gk - 1, by omega⟩
            have HTK := HLT.out k hlt
            rcases RL.out.cells with h0 | ⟨gb, goff, ego, hcg⟩
            · omega
            have gg := hcg k hlt
            have rg := RL.out.each k hlt
            have hlt' : (k : Int) < (ln : Int) := by omega
            have HKL : Hid (k < ls.length) := by unfold Hid; rw [HLN.out]; exact hlt
            obtain ⟨x1, ex1⟩ : ∃ t, (gv k).1 = t := ⟨_, rfl⟩
            obtain ⟨x2, ex2⟩ : ∃ t, (gv k).2.1 = t := ⟨_, rfl⟩
            obtain ⟨x3, ex3⟩ : ∃ t, (gv k).2.2 = t := ⟨_, rfl⟩
            rw [ex1, ex2, ex3] at rg gg
            have RG : Hid (RdUs _ x1 x2 x3 (ls[k]?.getD [])) := rg
            have HXL : Hid ((ls[k]?.getD []).length = x2) := rg.length
            have hxm : x2 ≤ 9223372036854775807 := Nat.le_trans rg.max maxLen_le
            have HIG : Hid (k + (g + 1) = ln) := hk
            rw [ego] at c3
            clear hcg rg ex1 ex2 ex3 hk ego
            have HNB := numbers6_any x1 x2 x3 (ls[k]?.getD []) _ RG.out HTK
            obtain ⟨b, hb⟩ : ∃ b, numsB (ls[k]?.getD []) = b := ⟨_, rfl⟩
            rw [hb] at HNB
            have HU : Hid ((fun a => !numsB a) (ls[k]?.getD []) = !b) := by unfold Hid; show (!numsB (ls[k]?.getD [])) = !b; rw [hb]
            clear hb HTK
            cases b with
            | true =>
              go_wp2_with (go_at_call 17; refine HNB.mono ?_; rintro e w' ⟨rfl, hw'⟩; rw [hw']; clear hw')
              go_roundg g
              case measure => omega
              case rel => exact ⟨k + 1, by go_num, by have := HIG.out; omega, rfl, by unfold Hid; rw [any_take_snoc HKL.out, HF1.out, HU.out]; rfl⟩
            | false =>
              have HV : Hid (mayE m t ls = 64) := by unfold Hid; rw [H3.out]; exact if_pos (any_of_at HKL.out HU.out)
              have HF : Hid (∀ W, OfL W w.heap.size [] [] [] (clL m t ls) (.slice none 0 0) (.slice none 0 0) (.slice none 0 0) (.slice none 0 0) []) := by intro W; unfold clL; rw [if_neg (by rw [HV.out]; decide)]; exact OfL.nilM _ _
              go_wp2_with (go_at_call 17; refine HNB.mono ?_; rintro e w' ⟨rfl, hw'⟩; rw [hw']; clear hw')
              refine bodyPost_ret (v := .tuple #[.slice none 0 0, .int .i64 64]) (res_tmp2J _ 4 5 (by kernel_rfl) _ _ _ _ (by rfl) (by rfl)) rfl ?_
              first | exact ⟨⟨_, by rw [HV.out], [], HF.out _⟩, PX.out.1⟩ | exact ⟨⟨_, [], by rw [HV.out], HF.out _⟩, PX.out.1⟩
          · have hd : decide ((k : Int) < (ln : Int)) = false := decide_eq_false (by omega)
            have hd' : decide (k < ln) = false := decide_eq_false (by omega)
            have HN2 : Hid (ls.any (fun a => !numsB a) = false) := by
              have h9 := HF1.out
              rw [List.take_of_length_le (by rw [HLN.out]; omega)] at h9
              exact h9
            have HER : Hid (mayE m t ls = 0) := by unfold Hid; rw [H3.out]; exact if_neg (by rw [HN2.out]; decide)
            obtain ⟨M, hMM⟩ : ∃ M : Nat, m = M := ⟨m.toNat, by have := HB.out; omega⟩
            subst hMM
            have HCL : Hid (clL (M : Int) t ls = tgT M t M ++ ls) := by unfold Hid clL; rw [if_pos HER.out, Int.toNat_natCast]
            have HRL : Hid (∀ k, k < ln → (ls[k]?.getD []).length = M + 1) := by
              intro k hk
              have q5 := HN1.out
              rw [List.any_eq_false] at q5
              have hkl : k < ls.length := by rw [HLN.out]; exact hk
              have h9 := q5 _ (List.getElem_mem hkl)
              rw [List.getElem?_eq_getElem hkl]
              show ls[k].length = M + 1
              unfold unl at h9
              simp only [bne_iff_ne, ne_eq, Decidable.not_not] at h9
              omega
            have hM : M ≤ 256 := by have := HB.out; omega
            have hM1 : 1 ≤ M := by have := HB.out; omega
            have htm : t < (M : Int) := HB.out.2.2.2
            clear hk H3 HF1 HN1 HN2 hw1
            go_wp2_with fail
            clear c2' c3 RL
            go_loopg [8, 9] M (fun g v8 iv wx => ∃ (k : Nat) (gl : List Value), iv = .int .i64 k ∧ k + g = M ∧ Hid (OfL wx w.heap.size [] [] [] (tgT M t k) (.slice none 0 0) (.slice none 0 0) (.slice none 0 0) v8 gl ∧ Below w.heap.size w wx ∧ wx.heap[w.heap.size]? = some (.cells #[.slice o1 l1 c1, .slice o2 l2 c2, .int .i64 t, .slice lo ln lc, .int .i64 K, .int .i64 D, .int .i64 L] 35)))
            case atStart =>
              refine ⟨0, [], rfl, by omega, ?_, PX.out.1, PX.out.2⟩
              have e : tgT M t 0 = [] := by unfold tgT tgL; split <;> rfl
              rw [e]; exact OfL.nilM _ _
            case round =>
              clear PX
              obtain ⟨k, gl, rfl, hk, HI⟩ := hrel
              have d2 := cellAtJ HI.out.2.2 2 _ rfl
              by_cases hlt : k < M
              · have hd : decide ((k : Int) < (M : Int)) = true := decide_eq_true (by omega)
                by_cases ht : t < 0
                · have hdt : decide (t ≥ 0) = false := decide_eq_false (by omega)
                  have HI0 : Hid (OfL wr w.heap.size [] [] [] (tgT M t M ++ ls.take 0) (.slice none 0 0) (.slice none 0 0) (.slice none 0 0) u8 gl ∧ Below w.heap.size w wr ∧ wr.heap[w.heap.size]? = some (.cells #[.slice o1 l1 c1, .slice o2 l2 c2, .int .i64 t, .slice lo ln lc, .int .i64 K, .int .i64 D, .int .i64 L] 35)) := by
                    have e : tgT M t M = tgT M t k := by unfold tgT; rw [if_pos ht, if_pos ht]
                    unfold Hid; rw [List.take_zero, List.append_nil, e]; exact HI.out
                  clear HI hk
                  have c3 := cellAtJ HI0.out.2.2 3 _ rfl
                  go_wp2_with fail
                  clear d2 c3 hd hdt
                  go_loopg [8, 10] ln (fun g v8 iv wx => ∃ (k : Nat) (gl : List Value), iv = .int .i64 k ∧ k + g = ln ∧ Hid (OfL wx w.heap.size [] [] [] (tgT M t M ++ ls.take k) (.slice none 0 0) (.slice none 0 0) (.slice none 0 0) v8 gl ∧ Below w.heap.size w wx ∧ wx.heap[w.heap.size]? = some (.cells #[.slice o1 l1 c1, .slice o2 l2 c2, .int .i64 t, .slice lo ln lc, .int .i64 K, .int .i64 D, .int .i64 L] 35)))
                  case atStart => exact ⟨0, gl, rfl, by omega, HI0⟩
                  case round =>
                    clear HI0
                    obtain ⟨k, gl, rfl, hk, HI⟩ := hrel
                    have c3 := cellAtJ HI.out.2.2 3 _ rfl
                    by_cases hlt2 : k < ln
                    · have hd : decide ((k : Int) < (ln : Int)) = true := decide_eq_true (by omega)
                      obtain ⟨g, rfl⟩ : ∃ g, gk = g + 1 := ⟨gk - 1, by omega⟩
                      have HIG : Hid (k + (g + 1) = ln) := hk
                      have hlt' : (k : Int) < (ln : Int) := by omega
                      have rx := HL.out _ HI.out.2.1
                      rcases rx.cells with h0 | ⟨gb, goff, ego, hcg⟩
                      · omega
                      subst ego
                      have gg := hcg k hlt2
                      have rg := rx.each k hlt2
                      have hxl := rg.length
                      rw [HRL.out k hlt2] at hxl
                      obtain ⟨x1, ex1⟩ : ∃ t, (gv k).1 = t := ⟨_, rfl⟩
                      obtain ⟨x2, ex2⟩ : ∃ t, (gv k).2.1 = t := ⟨_, rfl⟩
                      obtain ⟨x3, ex3⟩ : ∃ t, (gv k).2.2 = t := ⟨_, rfl⟩
                      rw [ex1, ex2, ex3] at rg gg
                      rw [ex2] at hxl
                      subst hxl
                      rcases rg.cells with h0 | ⟨xb, xoff, ex, hcx⟩
                      · omega
                      subst ex
                      have HTK : Hid (ls.take (k + 1) = ls.take k ++ [ls[k]?.getD []]) := take_snocL (by rw [HLN.out]; exact hlt2)
                      have HUL : Hid ((ls[k]?.getD []).length = M + 1) := HRL.out k hlt2
                      have HNW : Hid (∀ (j : Nat) (u : Value), (uJ (ls[k]?.getD []))[j]? = some u → wr.cell? ((⟨xb, xoff, none⟩ : Addr).add j) = some u) := by
                        intro j u hj
                        have hjl : j < M + 1 := by have := (List.getElem?_eq_some_iff.1 hj).1; rw [uJ_len, HUL.out] at this; exact this
                        have h8 := hcx j hjl
                        rw [uJ_at _ j (by rw [HUL.out]; exact hjl)] at hj
                        cases hj
                        by_cases hj0 : j = 0
                        · subst hj0; simpa [Addr.add] using h8
                        · simpa [Addr.add, hj0] using h8
                      clear rx hcg rg ex1 ex2 ex3 hk hcx
                      go_wp2_with (first
                        | (at_builtin; refine append_gsJ Try.underlying33 Try.infoUJ rfl (by decide) (by decide) wr (by rfl) _ _ (by rfl) w.heap.size (.slice none 0 0) 0 [] (by rfl) (World.ownsRow_nil _ _ _ _) ⟨xb, xoff, none⟩ (M + 1) x3 (uJ (ls[k]?.getD [])) (by rfl) (by rw [uJ_len, HUL.out, Nat.mul_one]) HNW.out (fun u hu => by obtain ⟨x, -, rfl⟩ := List.mem_map.1 hu; rfl) (by omega) HI.out.2.1.size ?_; intro v5 w5 o5 g5; rw [Nat.zero_add] at o5; obtain ⟨ao2, c9, hv5, -⟩ := owns_slice o5; subst hv5; have b5 : Below wr.heap.size wr w5 := g5.below (fun k hk => by simp [Value.ownBlock] at hk) (Nat.le_refl _); have L1 : Hid (OfL w5 w.heap.size [] [] [] (tgT M t M ++ ls.take k) (.slice none 0 0) (.slice none 0 0) (.slice none 0 0) u8 gl ∧ Below w.heap.size w w5 ∧ w5.heap[w.heap.size]? = some (.cells #[.slice o1 l1 c1, .slice o2 l2 c2, .int .i64 t, .slice (some ⟨gb, goff, none⟩) ln lc, .int .i64 K, .int .i64 D, .int .i64 L] 35)) := ⟨HI.out.1.later b5, to_call HI.out.2.1 b5, kept b5 HI.out.2.2⟩; have O1 : Hid (w5.ownsRow w.heap.size 67 1 (Value.slice ao2 (M + 1) c9) (ls[k]?.getD []).length (uJ (ls[k]?.getD []))) := (by unfold Hid; rw [HUL.out]; exact o5); have A1 : Below w5.heap.size w5 (w5.alloc (.cells #[Value.slice ao2 (M + 1) c9] 33)) := (Below.refl _ w5).alloc (Nat.le_refl _) _; have Lz : Hid (OfL (w5.alloc (.cells #[Value.slice ao2 (M + 1) c9] 33)) w.heap.size [] [] [] (tgT M t M ++ ls.take k) (.slice none 0 0) (.slice none 0 0) (.slice none 0 0) u8 gl) := L1.out.1.later A1; have Oz : Hid ((w5.alloc (.cells #[Value.slice ao2 (M + 1) c9] 33)).ownsRow w.heap.size 67 1 (Value.slice ao2 (M + 1) c9) (ls[k]?.getD []).length (uJ (ls[k]?.getD []))) := World.ownsRow.alloc O1.out _; have hgl : gl.length ≤ 2000000 := (by have h1 := HI.out.1.len; have h2 := tgT_len M t M; rw [List.length_append, List.length_take] at h1; omega))
                        | (at_builtin; refine append_gsJ Try.underlying30 Try.infoUsM rfl (by decide) (by decide) _ (by rfl) _ _ (by rfl) w.heap.size _ gl.length gl (by rfl) Lz.out.g ⟨w5.heap.size, 0, none⟩ 1 1 [Value.slice ao2 (M + 1) c9] (by rfl) rfl (news_oneJ (heap_alloc_new w5 _)) (oneI _ (own_valJ O1.out).1) (by omega) (by have := L1.out.2.1.size; simp only [alloc_size]; omega) ?_; intro v6 w6 o6 g6))
                      clear gg HNW c3
                      have b6 : Below w.heap.size w w6 := (to_call L1.out.2.1 A1).trans (g6.below (fun k hk => (World.ownsRow.lt Lz.out.g k hk).1) (to_call L1.out.2.1 A1).size)
                      have HI2 : Hid (OfL w6 w.heap.size [] [] [] (tgT M t M ++ ls.take k ++ [ls[k]?.getD []]) (.slice none 0 0) (.slice none 0 0) (.slice none 0 0) v6 (gl ++ [Value.slice ao2 (M + 1) c9]) ∧ Below w.heap.size w w6 ∧ w6.heap[w.heap.size]? = some (.cells #[.slice o1 l1 c1, .slice o2 l2 c2, .int .i64 t, .slice (some ⟨gb, goff, none⟩) ln lc, .int .i64 K, .int .i64 D, .int .i64 L] 35)) := by
                        refine ⟨Lz.out.pushG g6 o6 Oz.out, b6, ?_⟩
                        have h9 := kept A1 L1.out.2.2
                        have hk := grw_types Lz.out.g g6
                        exact (hk w.heap.size _ _ (by decide) h9).trans h9
                      clear o6 g6 A1 Lz Oz O1 L1 b6 hgl
                      have HI3 : Hid (OfL w6 w.heap.size [] [] [] (tgT M t M ++ ls.take (k + 1)) (.slice none 0 0) (.slice none 0 0) (.slice none 0 0) v6 (gl ++ [Value.slice ao2 (M + 1) c9]) ∧ Below w.heap.size w w6 ∧ w6.heap[w.heap.size]? = some (.cells #[.slice o1 l1 c1, .slice o2 l2 c2, .int .i64 t, .slice (some ⟨gb, goff, none⟩) ln lc, .int .i64 K, .int .i64 D, .int .i64 L] 35)) := by unfold Hid; rw [HTK.out, ← List.append_assoc]; exact HI2.out
                      clear HI2 HI
                      go_roundg g
                      case measure => omega
                      case rel => exact ⟨k + 1, _, by go_num, by have := HIG.out; omega, HI3⟩
                    · have hd : decide ((k : Int) < (ln : Int)) = false := decide_eq_false (by omega)
                      have hd' : decide (k < ln) = false := decide_eq_false (by omega)
                      have HF : Hid (OfL wr w.heap.size [] [] [] (clL (M : Int) t ls) (.slice none 0 0) (.slice none 0 0) (.slice none 0 0) u8 gl) := by
                        have h9 := HI.out.1
                        rw [List.take_of_length_le (by rw [HLN.out]; omega)] at h9
                        unfold Hid; rw [HCL.out]; exact h9
                      clear hk
                      go_wp2_with fail
                      refine bodyPost_ret (v := .tuple #[u8, .int .i64 0]) (res_tmp2J _ 4 5 (by kernel_rfl) _ _ _ _ (by rfl) (by rfl)) rfl ?_
                      first | exact ⟨⟨u8, gl, by rw [HER.out], HF⟩, HI.out.2.1⟩ | exact ⟨⟨u8, by rw [HER.out], gl, HF⟩, HI.out.2.1⟩
                · obtain ⟨T, rfl⟩ : ∃ T : Nat, t = T := ⟨t.toNat, by omega⟩
                  obtain ⟨g, rfl⟩ : ∃ g, gk = g + 1 := ⟨gk - 1, by omega⟩
                  have HIG : Hid (k + (g + 1) = M) := hk
                  clear hk
                  have hdt : decide ((T : Int) ≥ 0) = true := decide_eq_true (by omega)
                  have HTG : Hid (∀ j, tgT M (T : Int) j = tgL M T j) := fun j => by unfold tgT; rw [if_neg ht, Int.toNat_natCast]
                  clear ht
                  by_cases hkt : k = T
                  · have hne : ((k : Int) != (T : Int)) = false := by rw [hkt]; simp
                    have HI2 : Hid (OfL wr w.heap.size [] [] [] (tgT M (T : Int) (k + 1)) (.slice none 0 0) (.slice none 0 0) (.slice none 0 0) u8 gl ∧ Below w.heap.size w wr ∧ wr.heap[w.heap.size]? = some (.cells #[.slice o1 l1 c1, .slice o2 l2 c2, .int .i64 (T : Int), .slice lo ln lc, .int .i64 K, .int .i64 D, .int .i64 L] 35)) := by
                      have e : tgT M (T : Int) (k + 1) = tgT M (T : Int) k := by rw [HTG.out, HTG.out, tgL, if_pos hkt]
                      unfold Hid; rw [e]; exact HI.out
                    clear HI hkt
                    go_wp2_with fail
                    go_roundg g
                    case measure => omega
                    case rel => exact ⟨k + 1, gl, by go_num, by have := HIG.out; omega, HI2⟩
                  · have hne : ((k : Int) != (T : Int)) = true := by rw [bne_iff_ne]; omega
                    have HTK : Hid (tgT M (T : Int) (k + 1) = tgT M (T : Int) k ++ [abR M T k]) := by unfold Hid; rw [HTG.out, HTG.out, tgL, if_neg hkt]
                    have hTM : T ≤ M := by omega
                    go_wp2_with fail
                    refine Calls.mono (row17_any T k M hTM (by omega) hM _) ?_
                    rintro e w3 ⟨rfl, o3, b3⟩
                    have L1 : Hid (OfL w3 w.heap.size [] [] [] (tgT M (T : Int) k) (.slice none 0 0) (.slice none 0 0) (.slice none 0 0) u8 gl ∧ Below w.heap.size w w3 ∧ w3.heap[w.heap.size]? = some (.cells #[.slice o1 l1 c1, .slice o2 l2 c2, .int .i64 (T : Int), .slice lo ln lc, .int .i64 K, .int .i64 D, .int .i64 L] 35)) := ⟨HI.out.1.later b3, to_call HI.out.2.1 b3, kept b3 HI.out.2.2⟩
                    have O1 : Hid (w3.ownsRow w.heap.size 67 1 (Value.slice (some ⟨wr.heap.size, 0, none⟩) (M + 1) (M + 1)) (abR M T k).length (uJ (abR M T k))) := owns_monoJ o3 HI.out.2.1.size
                    clear o3 b3 d2
                    have A1 : Below w3.heap.size w3 (w3.alloc (.cells #[Value.slice (some ⟨wr.heap.size, 0, none⟩) (M + 1) (M + 1)] 33)) := (Below.refl _ w3).alloc (Nat.le_refl _) _
                    have Lz : Hid (OfL (w3.alloc (.cells #[Value.slice (some ⟨wr.heap.size, 0, none⟩) (M + 1) (M + 1)] 33)) w.heap.size [] [] [] (tgT M (T : Int) k) (.slice none 0 0) (.slice none 0 0) (.slice none 0 0) u8 gl) := L1.out.1.later A1
                    have Oz : Hid ((w3.alloc (.cells #[Value.slice (some ⟨wr.heap.size, 0, none⟩) (M + 1) (M + 1)] 33)).ownsRow w.heap.size 67 1 (Value.slice (some ⟨wr.heap.size, 0, none⟩) (M + 1) (M + 1)) (abR M T k).length (uJ (abR M T k))) := World.ownsRow.alloc O1.out _
                    have hgl : gl.length ≤ 2000000 := by have h1 := HI.out.1.len; have h2 := tgT_len M (T : Int) k; omega
                    go_wp2_with (first
                      | (at_builtin; refine append_gsJ Try.underlying30 Try.infoUsM rfl (by decide) (by decide) _ (by rfl) _ _ (by rfl) w.heap.size _ gl.length gl (by rfl) Lz.out.g ⟨w3.heap.size, 0, none⟩ 1 1 [Value.slice (some ⟨wr.heap.size, 0, none⟩) (M + 1) (M + 1)] (by rfl) rfl (news_oneJ (heap_alloc_new w3 _)) (oneI _ (own_valJ O1.out).1) (by omega) (by have := L1.out.2.1.size; simp only [alloc_size]; omega) ?_; intro v6 w6 o6 g6))
                    have b6 : Below w.heap.size w w6 := (to_call L1.out.2.1 A1).trans (g6.below (fun k hk => (World.ownsRow.lt Lz.out.g k hk).1) (to_call L1.out.2.1 A1).size)
                    have HI2 : Hid (OfL w6 w.heap.size [] [] [] (tgT M (T : Int) k ++ [abR M T k]) (.slice none 0 0) (.slice none 0 0) (.slice none 0 0) v6 (gl ++ [Value.slice (some ⟨wr.heap.size, 0, none⟩) (M + 1) (M + 1)]) ∧ Below w.heap.size w w6 ∧ w6.heap[w.heap.size]? = some (.cells #[.slice o1 l1 c1, .slice o2 l2 c2, .int .i64 (T : Int), .slice lo ln lc, .int .i64 K, .int .i64 D, .int .i64 L] 35)) := by
                      refine ⟨Lz.out.pushG g6 o6 Oz.out, b6, ?_⟩
                      have h9 := kept A1 L1.out.2.2
                      have hk := grw_types Lz.out.g g6
                      exact (hk w.heap.size _ _ (by decide) h9).trans h9
                    clear o6 g6 A1 Lz Oz O1 L1 b6 hgl
                    have HI3 : Hid (OfL w6 w.heap.size [] [] [] (tgT M (T : Int) (k + 1)) (.slice none 0 0) (.slice none 0 0) (.slice none 0 0) v6 (gl ++ [Value.slice (some ⟨wr.heap.size, 0, none⟩) (M + 1) (M + 1)]) ∧ Below w.heap.size w w6 ∧ w6.heap[w.heap.size]? = some (.cells #[.slice o1 l1 c1, .slice o2 l2 c2, .int .i64 (T : Int), .slice lo ln lc, .int .i64 K, .int .i64 D, .int .i64 L] 35)) := by unfold Hid; rw [HTK.out]; exact HI2.out
                    clear HI2 HI
                    go_roundg g
                    case measure => omega
                    case rel => exact ⟨k + 1, _, by go_num, by have := HIG.out; omega, HI3⟩
              · have hd : decide ((k : Int) < (M : Int)) = false := decide_eq_false (by omega)
                have hd' : decide (k < M) = false := decide_eq_false (by omega)
                have ek : k = M := by omega
                have HI0 : Hid (OfL wr w.heap.size [] [] [] (tgT M t M ++ ls.take 0) (.slice none 0 0) (.slice none 0 0) (.slice none 0 0) u8 gl ∧ Below w.heap.size w wr ∧ wr.heap[w.heap.size]? = some (.cells #[.slice o1 l1 c1, .slice o2 l2 c2, .int .i64 t, .slice lo ln lc, .int .i64 K, .int .i64 D, .int .i64 L] 35)) := by
                  unfold Hid; rw [List.take_zero, List.append_nil, ← ek]; exact ek ▸ HI.out
                clear HI hk ek
                have c3 := cellAtJ HI0.out.2.2 3 _ rfl
                go_wp2_with fail
                clear d2 c3 hd hd'
                go_loopg [8, 10] ln (fun g v8 iv wx => ∃ (k : Nat) (gl : List Value), iv = .int .i64 k ∧ k + g = ln ∧ Hid (OfL wx w.heap.size [] [] [] (tgT M t M ++ ls.take k) (.slice none 0 0) (.slice none 0 0) (.slice none 0 0) v8 gl ∧ Below w.heap.size w wx ∧ wx.heap[w.heap.size]? = some (.cells #[.slice o1 l1 c1, .slice o2 l2 c2, .int .i64 t, .slice lo ln lc, .int .i64 K, .int .i64 D, .int .i64 L] 35)))
                case atStart => exact ⟨0, gl, rfl, by omega, HI0⟩
                case round =>
                  clear HI0
                  obtain ⟨k, gl, rfl, hk, HI⟩ := hrel
                  have c3 := cellAtJ HI.out.2.2 3 _ rfl
                  by_cases hlt2 : k < ln
                  · have hd : decide ((k : Int) < (ln : Int)) = true := decide_eq_true (by omega)
                    obtain ⟨g, rfl⟩ : ∃ g, gk = g + 1 := ⟨gk - 1, by omega⟩
                    have HIG : Hid (k + (g + 1) = ln) := hk
                    have hlt' : (k : Int) < (ln : Int) := by omega
                    have rx := HL.out _ HI.out.2.1
                    rcases rx.cells with h0 | ⟨gb, goff, ego, hcg⟩
                    · omega
                    subst ego
                    have gg := hcg k hlt2
                    have rg := rx.each k hlt2
                    have hxl := rg.length
                    rw [HRL.out k hlt2] at hxl
                    obtain ⟨x1, ex1⟩ : ∃ t, (gv k).1 = t := ⟨_, rfl⟩
                    obtain ⟨x2, ex2⟩ : ∃ t, (gv k).2.1 = t := ⟨_, rfl⟩
                    obtain ⟨x3, ex3⟩ : ∃ t, (gv k).2.2 = t := ⟨_, rfl⟩
                    rw [ex1, ex2, ex3] at rg gg
                    rw [ex2] at hxl
                    subst hxl
                    rcases rg.cells with h0 | ⟨xb, xoff, ex, hcx⟩
                    · omega
                    subst ex
                    have HTK : Hid (ls.take (k + 1) = ls.take k ++ [ls[k]?.getD []]) := take_snocL (by rw [HLN.out]; exact hlt2)
                    have HUL : Hid ((ls[k]?.getD []).length = M + 1) := HRL.out k hlt2
                    have HNW : Hid (∀ (j : Nat) (u : Value), (uJ (ls[k]?.getD []))[j]? = some u → wr.cell? ((⟨xb, xoff, none⟩ : Addr).add j) = some u) := by
                      intro j u hj
                      have hjl : j < M + 1 := by have := (List.getElem?_eq_some_iff.1 hj).1; rw [uJ_len, HUL.out] at this; exact this
                      have h8 := hcx j hjl
                      rw [uJ_at _ j (by rw [HUL.out]; exact hjl)] at hj
                      cases hj
                      by_cases hj0 : j = 0
                      · subst hj0; simpa [Addr.add] using h8
                      · simpa [Addr.add, hj0] using h8
                    clear rx hcg rg ex1 ex2 ex3 hk hcx
                    go_wp2_with (first
                      | (at_builtin; refine append_gsJ Try.underlying33 Try.infoUJ rfl (by decide) (by decide) wr (by rfl) _ _ (by rfl) w.heap.size (.slice none 0 0) 0 [] (by rfl) (World.ownsRow_nil _ _ _ _) ⟨xb, xoff, none⟩ (M + 1) x3 (uJ (ls[k]?.getD [])) (by rfl) (by rw [uJ_len, HUL.out, Nat.mul_one]) HNW.out (fun u hu => by obtain ⟨x, -, rfl⟩ := List.mem_map.1 hu; rfl) (by omega) HI.out.2.1.size ?_; intro v5 w5 o5 g5; rw [Nat.zero_add] at o5; obtain ⟨ao2, c9, hv5, -⟩ := owns_slice o5; subst hv5; have b5 : Below wr.heap.size wr w5 := g5.below (fun k hk => by simp [Value.ownBlock] at hk) (Nat.le_refl _); have L1 : Hid (OfL w5 w.heap.size [] [] [] (tgT M t M ++ ls.take k) (.slice none 0 0) (.slice none 0 0) (.slice none 0 0) u8 gl ∧ Below w.heap.size w w5 ∧ w5.heap[w.heap.size]? = some (.cells #[.slice o1 l1 c1, .slice o2 l2 c2, .int .i64 t, .slice (some ⟨gb, goff, none⟩) ln lc, .int .i64 K, .int .i64 D, .int .i64 L] 35)) := ⟨HI.out.1.later b5, to_call HI.out.2.1 b5, kept b5 HI.out.2.2⟩; have O1 : Hid (w5.ownsRow w.heap.size 67 1 (Value.slice ao2 (M + 1) c9) (ls[k]?.getD []).length (uJ (ls[k]?.getD []))) := (by unfold Hid; rw [HUL.out]; exact o5); have A1 : Below w5.heap.size w5 (w5.alloc (.cells #[Value.slice ao2 (M + 1) c9] 33)) := (Below.refl _ w5).alloc (Nat.le_refl _) _; have Lz : Hid (OfL (w5.alloc (.cells #[Value.slice ao2 (M + 1) c9] 33)) w.heap.size [] [] [] (tgT M t M ++ ls.take k) (.slice none 0 0) (.slice none 0 0) (.slice none 0 0) u8 gl) := L1.out.1.later A1; have Oz : Hid ((w5.alloc (.cells #[Value.slice ao2 (M + 1) c9] 33)).ownsRow w.heap.size 67 1 (Value.slice ao2 (M + 1) c9) (ls[k]?.getD []).length (uJ (ls[k]?.getD []))) := World.ownsRow.alloc O1.out _; have hgl : gl.length ≤ 2000000 := (by have h1 := HI.out.1.len; have h2 := tgT_len M t M; rw [List.length_append, List.length_take] at h1; omega))
                      | (at_builtin; refine append_gsJ Try.underlying30 Try.infoUsM rfl (by decide) (by decide) _ (by rfl) _ _ (by rfl) w.heap.size _ gl.length gl (by rfl) Lz.out.g ⟨w5.heap.size, 0, none⟩ 1 1 [Value.slice ao2 (M + 1) c9] (by rfl) rfl (news_oneJ (heap_alloc_new w5 _)) (oneI _ (own_valJ O1.out).1) (by omega) (by have := L1.out.2.1.size; simp only [alloc_size]; omega) ?_; intro v6 w6 o6 g6))
                    clear gg HNW c3
                    have b6 : Below w.heap.size w w6 := (to_call L1.out.2.1 A1).trans (g6.below (fun k hk => (World.ownsRow.lt Lz.out.g k hk).1) (to_call L1.out.2.1 A1).size)
                    have HI2 : Hid (OfL w6 w.heap.size [] [] [] (tgT M t M ++ ls.take k ++ [ls[k]?.getD []]) (.slice none 0 0) (.slice none 0 0) (.slice none 0 0) v6 (gl ++ [Value.slice ao2 (M + 1) c9]) ∧ Below w.heap.size w w6 ∧ w6.heap[w.heap.size]? = some (.cells #[.slice o1 l1 c1, .slice o2 l2 c2, .int .i64 t, .slice (some ⟨gb, goff, none⟩) ln lc, .int .i64 K, .int .i64 D, .int .i64 L] 35)) := by
                      refine ⟨Lz.out.pushG g6 o6 Oz.out, b6, ?_⟩
                      have h9 := kept A1 L1.out.2.2
                      have hk := grw_types Lz.out.g g6
                      exact (hk w.heap.size _ _ (by decide) h9).trans h9
                    clear o6 g6 A1 Lz Oz O1 L1 b6 hgl
                    have HI3 : Hid (OfL w6 w.heap.size [] [] [] (tgT M t M ++ ls.take (k + 1)) (.slice none 0 0) (.slice none 0 0) (.slice none 0 0) v6 (gl ++ [Value.slice ao2 (M + 1) c9]) ∧ Below w.heap.size w w6 ∧ w6.heap[w.heap.size]? = some (.cells #[.slice o1 l1 c1, .slice o2 l2 c2, .int .i64 t, .slice (some ⟨gb, goff, none⟩) ln lc, .int .i64 K, .int .i64 D, .int .i64 L] 35)) := by unfold Hid; rw [HTK.out, ← List.append_assoc]; exact HI2.out
                    clear HI2 HI
                    go_roundg g
                    case measure => omega
                    case rel => exact ⟨k + 1, _, by go_num, by have := HIG.out; omega, HI3⟩
                  · have hd : decide ((k : Int) < (ln : Int)) = false := decide_eq_false (by omega)
                    have hd' : decide (k < ln) = false := decide_eq_false (by omega)
                    have HF : Hid (OfL wr w.heap.size [] [] [] (clL (M : Int) t ls) (.slice none 0 0) (.slice none 0 0) (.slice none 0 0) u8 gl) := by
                      have h9 := HI.out.1
                      rw [List.take_of_length_le (by rw [HLN.out]; omega)] at h9
                      unfold Hid; rw [HCL.out]; exact h9
                    clear hk
                    go_wp2_with fail
                    refine bodyPost_ret (v := .tuple #[u8, .int .i64 0]) (res_tmp2J _ 4 5 (by kernel_rfl) _ _ _ _ (by rfl) (by rfl)) rfl ?_
                    first | exact ⟨⟨u8, gl, by rw [HER.out], HF⟩, HI.out.2.1⟩ | exact ⟨⟨u8, by rw [HER.out], gl, HF⟩, HI.out.2.1⟩
end Go.Proofs.Ytcpbccckjlnkaaa

namespace Go.Proofs.Ytcpbccckjlnkaaa
open Go.ChangeShapes Go.WideShapes Go.ChangeAt Go.RowKit Go.Joins Go.Deep
set_option linter.unusedVariables false

theorem array7 {cs : Array Value} (h : cs.size = 7) : ∃ c0 c1 c2 c3 c4 c5 c6, cs = #[c0, c1, c2, c3, c4, c5, c6] := by
  obtain ⟨l⟩ := cs
  match l, h with
  | [c0, c1, c2, c3, c4, c5, c6], _ => exact ⟨c0, c1, c2, c3, c4, c5, c6, rfl⟩
theorem agg7 {P : Program} {H : Type} {enc : TypeId × Value → H} {W : World} {base b0 : Nat} {r : Reach} {spare : Nat → Bool} {held : Bool} {t : TypeId} {f0 f1 f2 f3 f4 f5 f6 : Field} {v : Value} {d : DataW H} {p : List MemPlace}
    (hs : P.underlying t = some (.struct #[f0, f1, f2, f3, f4, f5, f6])) (hone : oneCellFields P #[f0, f1, f2, f3, f4, f5, f6] = true) (hC : P.cellsOf t = 7) (hv : Value.okWide P W r b0 t v) (h : DataW.Trod enc P W base spare held t v d p) :
    ∃ (v0 v1 v2 v3 v4 v5 v6 : Value) (y0 y1 y2 y3 y4 y5 y6 : DataW H × List MemPlace) (n : Nat), v = .agg #[v0, v1, v2, v3, v4, v5, v6] ∧ (∀ y ∈ [y0, y1, y2, y3, y4, y5, y6], Rows.uptoBulk y.1 ≤ Rows.uptoBulk d) ∧
      DataW.trod enc P W base spare held n f0.type [v0] = some y0 ∧ DataW.trod enc P W base spare held n f1.type [v1] = some y1 ∧ DataW.trod enc P W base spare held n f2.type [v2] = some y2 ∧ DataW.trod enc P W base spare held n f3.type [v3] = some y3 ∧ DataW.trod enc P W base spare held n f4.type [v4] = some y4 ∧ DataW.trod enc P W base spare held n f5.type [v5] = some y5 ∧ DataW.trod enc P W base spare held n f6.type [v6] = some y6 := by
  obtain ⟨cs, rfl, hsz⟩ := okWide_struct hs hv
  obtain ⟨c0, c1, c2, c3, c4, c5, c6, rfl⟩ := array7 (hsz.trans hC)
  obtain ⟨fuel, hf⟩ := h
  obtain ⟨xs, n, _, hx, hl, hlen, hff⟩ := DataW.trod_struct hs hf
  simp only [Prod.mk.injEq] at hx
  obtain ⟨o0, k0⟩ := hone_of hone 0 f0 rfl
  obtain ⟨o1, k1⟩ := hone_of hone 1 f1 rfl
  obtain ⟨o2, k2⟩ := hone_of hone 2 f2 rfl
  obtain ⟨o3, k3⟩ := hone_of hone 3 f3 rfl
  obtain ⟨o4, k4⟩ := hone_of hone 4 f4 rfl
  obtain ⟨o5, k5⟩ := hone_of hone 5 f5 rfl
  obtain ⟨o6, k6⟩ := hone_of hone 6 f6 rfl
  match xs, hlen with
  | [y0, y1, y2, y3, y4, y5, y6], _ =>
    exact ⟨c0, c1, c2, c3, c4, c5, c6, y0, y1, y2, y3, y4, y5, y6, n, rfl, fun y hy => by rw [hx.1]; exact bulkJ_agg _ _ (List.mem_map.2 ⟨y, hy, rfl⟩), by simpa [Value.cells, o0, k0] using hff 0 f0 rfl, by simpa [Value.cells, o1, k1] using hff 1 f1 rfl, by simpa [Value.cells, o2, k2] using hff 2 f2 rfl, by simpa [Value.cells, o3, k3] using hff 3 f3 rfl, by simpa [Value.cells, o4, k4] using hff 4 f4 rfl, by simpa [Value.cells, o5, k5] using hff 5 f5 rfl, by simpa [Value.cells, o6, k6] using hff 6 f6 rfl⟩
set_option maxRecDepth 100000 in
theorem prop_openD {H : Type} {enc : TypeId × Value → H} {W : World} {b0 : Nat} {v : Value} {d : DataW H} {p : List MemPlace}
    (hv : Value.okWide Try.prog W .any b0 25 v) (h : DataW.Trod enc Try.prog W 0 (fun _ => true) true 25 v d p) (hk : Rows.uptoBulk d ≤ 1048576) :
    ∃ (co go lo : Option Addr) (cn cc gn gc ln lc : Nat) (gvg gvl : Nat → Option Addr × Nat × Nat) (cs : List Nat) (gs ls : List (List Nat)) (t K D L : Int), v = .agg #[.slice co cn cc, .slice go gn gc, .int .i64 t, .slice lo ln lc, .int .i64 K, .int .i64 D, .int .i64 L] ∧ RdF W co cn cc cs ∧ RdGs W go gn gc gvg gs ∧ RdGs W lo ln lc gvl ls ∧ cn ≤ 1050000 ∧ gn ≤ 1050000 ∧ ln ≤ 1050000 ∧ (∀ k, k < gn → (gvg k).2.1 ≤ 1050000) ∧ (∀ k, k < ln → (gvl k).2.1 ≤ 1050000) := by
  obtain ⟨v0, v1, v2, v3, v4, v5, v6, y0, y1, y2, y3, y4, y5, y6, m, rfl, hb, g0, g1, g2, g3, g4, g5, g6⟩ := agg7 Try.underlying25 (by kernel_rfl) (by kernel_rfl) hv h
  obtain ⟨co, cn, cc, cs, e0, r0, s0, t0⟩ := floatsJ_open Try.underlying22 Try.underlying40 (by kernel_rfl) g0
  obtain ⟨go, gn, gc, gvg, gs, e1, r1, s1, t1⟩ := rowsJ_open Try.underlying23 Try.underlying22 Try.underlying40 (by kernel_rfl) (by kernel_rfl) g1
  obtain ⟨t, e2, _, _⟩ := DataW.trod_int Try.underlying3 g2
  obtain ⟨lo, ln, lc, gvl, ls, e3, r3, s3, t3⟩ := rowsJ_open Try.underlying23 Try.underlying22 Try.underlying40 (by kernel_rfl) (by kernel_rfl) g3
  obtain ⟨K, e4, _, _⟩ := DataW.trod_int Try.underlying3 g4
  obtain ⟨D, e5, _, _⟩ := DataW.trod_int Try.underlying3 g5
  obtain ⟨L, e6, _, _⟩ := DataW.trod_int Try.underlying3 g6
  simp only [List.cons.injEq, and_true] at e0 e1 e2 e3 e4 e5 e6
  subst e0 e1 e2 e3 e4 e5 e6
  have b0 := hb y0 (by simp)
  have b1 := hb y1 (by simp)
  have b3 := hb y3 (by simp)
  exact ⟨co, go, lo, cn, cc, gn, gc, ln, lc, gvg, gvl, cs, gs, ls, t, K, D, L, rfl, r0, r1, r3, by omega, by omega, by omega, fun k hk' => by have := (t1 k hk').2; omega, fun k hk' => by have := (t3 k hk').2; omega⟩
end Go.Proofs.Ytcpbccckjlnkaaa
