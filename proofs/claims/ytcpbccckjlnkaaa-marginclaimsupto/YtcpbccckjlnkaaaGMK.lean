import Derived.Test.YtcpbccckjlnkaaaGCb
import Derived.Test.YtcpbccckjlnkaaaJZx
import Derived.Test.YtcpbccckjlnkaaaRows
import Derived.ChangeSame
import Derived.JoinedOf
import Derived.JoinedAt
import Derived.JoinedStill
import Derived.RowKit
import Derived.ProofKit
import Derived.Seven
import Derived.Laws.Cover2
import Derived.WalkKit
import Derived.OpenShut
import Derived.ChangeOld
import Derived.Below
import Derived.Deep.DeepHandedRow
import Derived.Lib.LaidTab
namespace Go.Proofs.Ytcpbccckjlnkaaa
open Go.RowKit Go.Shelf
set_option linter.unusedVariables false
set_option linter.unusedSimpArgs false

theorem abR_lt (m t j : Nat) : ∀ u ∈ abR m t j, u < 18446744073709551616 := by
  intro u hu
  unfold abR at hu
  rcases List.mem_or_eq_of_mem_set hu with h | h
  · rcases List.mem_or_eq_of_mem_set h with h | h
    · rw [(List.mem_replicate.1 h).2]; decide
    · rw [h]; decide
  · rw [h]; decide
theorem tgL_lt (m t : Nat) : ∀ k, ∀ us ∈ tgL m t k, ∀ u ∈ us, u < 18446744073709551616
  | 0, us, hus => by simp [tgL] at hus
  | k + 1, us, hus => by
    unfold tgL at hus
    split at hus
    · exact tgL_lt m t k us hus
    · rcases List.mem_append.1 hus with h | h
      · exact tgL_lt m t k us h
      · rw [List.mem_singleton.1 h]; exact abR_lt m t k
theorem tgL_le (m t : Nat) : ∀ k, ∀ us ∈ tgL m t k, us.length = m + 1
  | 0, us, hus => by simp [tgL] at hus
  | k + 1, us, hus => by
    unfold tgL at hus
    split at hus
    · exact tgL_le m t k us hus
    · rcases List.mem_append.1 hus with h | h
      · exact tgL_le m t k us h
      · rw [List.mem_singleton.1 h]; exact abR_len m t k
theorem clL_lt {m t : Int} {ls : List (List Nat)} (h : ∀ us ∈ ls, ∀ u ∈ us, u < 18446744073709551616) : ∀ us ∈ clL m t ls, ∀ u ∈ us, u < 18446744073709551616 := by
  intro us hus
  unfold clL at hus
  split at hus
  · rcases List.mem_append.1 hus with h1 | h1
    · unfold tgT at h1
      split at h1
      · cases h1
      · exact tgL_lt _ _ _ us h1
    · exact h us h1
  · cases hus
theorem clL_le {m t : Int} {ls : List (List Nat)} (h : ∀ us ∈ ls, us.length ≤ 1050000) : (∀ us ∈ clL m t ls, us.length ≤ 1050000) ∧ (clL m t ls).length ≤ 256 + ls.length := by
  unfold clL
  split
  · rename_i h0
    obtain ⟨q1, q2, q3, q4, q5, q6⟩ := mayE_ok h0
    refine ⟨fun us hus => ?_, ?_⟩
    · rcases List.mem_append.1 hus with h1 | h1
      · unfold tgT at h1
        split at h1
        · cases h1
        · rw [tgL_le _ _ _ us h1]; omega
      · exact h us h1
    · rw [List.length_append]
      have := tgT_len m.toNat t m.toNat
      omega
  · exact ⟨fun us hus => (by cases hus), by simp⟩
set_option maxRecDepth 100000 in
set_option maxHeartbeats 8000000 in
theorem marginClaims_walk (co go lo : Option Addr) (cn cc gn gc ln lc : Nat) (gvg gvl : Nat → Option Addr × Nat × Nat) (cs : List Nat) (gs ls : List (List Nat)) (t K D L m : Int) (w : World)
    (hc : RdF w co cn cc cs) (hg : RdGs w go gn gc gvg gs) (hl : RdGs w lo ln lc gvl ls) (hcn : cn ≤ 1050000) (hgn : gn ≤ 1050000) (hln : ln ≤ 1050000) (hgl : ∀ k, k < gn → (gvg k).2.1 ≤ 1050000) (hll : ∀ k, k < ln → (gvl k).2.1 ≤ 1050000) :
    Calls Try.prog 3 #[.agg #[.slice co cn cc, .slice go gn gc, .int .i64 t, .slice lo ln lc, .int .i64 K, .int .i64 D, .int .i64 L], .int .i64 m] w fun e w' => e = .returned (.bool true) ∧ Below w.heap.size w w' := by
  have HC : Hid (∀ W', Below w.heap.size w W' → RdF W' co cn cc cs) := fun W' hb => hc.later hb
  have HG : Hid (∀ W', Below w.heap.size w W' → RdGs W' go gn gc gvg gs) := fun W' hb => hg.later hb
  have HL : Hid (∀ W', Below w.heap.size w W' → RdGs W' lo ln lc gvl ls) := fun W' hb => hl.later hb
  have HGL : Hid (∀ k, k < gn → (gvg k).2.1 ≤ 1050000) := hgl
  have HLL : Hid (∀ k, k < ln → (gvl k).2.1 ≤ 1050000) := hll
  have HLT : Hid ((∀ us ∈ ls, ∀ u ∈ us, u < 18446744073709551616) ∧ ∀ us ∈ ls, us.length ≤ 1050000) := by
    refine ⟨fun us hus => ?_, fun us hus => ?_⟩
    · obtain ⟨j, hj, rfl⟩ := List.getElem_of_mem hus
      have h9 := (hl.each j (by rw [← hl.length]; exact hj)).lt
      rw [List.getElem?_eq_getElem hj] at h9
      exact h9
    · obtain ⟨j, hj, rfl⟩ := List.getElem_of_mem hus
      have hj2 : j < ln := by rw [← hl.length]; exact hj
      have h9 := (hl.each j hj2).length
      rw [List.getElem?_eq_getElem hj] at h9
      have h8 := hll j hj2
      have h7 : ls[j].length = (gvl j).2.1 := h9
      omega
  have HLN : Hid (ls.length = ln) := hl.length
  have X0 : Below w.heap.size w (w.alloc (.cells #[.slice co cn cc, .slice go gn gc, .int .i64 t, .slice lo ln lc, .int .i64 K, .int .i64 D, .int .i64 L] 25)) := (Below.refl _ w).alloc (Nat.le_refl _) _
  have Y0 : (w.alloc (.cells #[.slice co cn cc, .slice go gn gc, .int .i64 t, .slice lo ln lc, .int .i64 K, .int .i64 D, .int .i64 L] 25)).heap[w.heap.size]? = some (.cells #[.slice co cn cc, .slice go gn gc, .int .i64 t, .slice lo ln lc, .int .i64 K, .int .i64 D, .int .i64 L] 25) := heap_alloc_new w _
  clear hc hg hl hgl hll
  go_enter Try.func3, Try.ntmps3
  go_upto_region 1 with fail
  obtain ⟨X, hX⟩ : ∃ X, (w.alloc (.cells #[.slice co cn cc, .slice go gn gc, .int .i64 t, .slice lo ln lc, .int .i64 K, .int .i64 D, .int .i64 L] 25)) = X := ⟨_, rfl⟩
  rw [hX] at X0 Y0 ⊢
  have PX : Hid (Below w.heap.size w X ∧ X.heap[w.heap.size]? = some (.cells #[.slice co cn cc, .slice go gn gc, .int .i64 t, .slice lo ln lc, .int .i64 K, .int .i64 D, .int .i64 L] 25)) := ⟨X0, Y0⟩
  clear hX X0 Y0
  have c3 := cellAtJ PX.out.2 3 _ rfl
  by_cases h300 : (ln : Int) > 300
  · have hd : decide ((ln : Int) > 300) = true := decide_eq_true h300
    go_wp2_with (go_at_call 4; refine (awake_any _).mono ?_; rintro e8 w9 ⟨rfl, b9⟩)
    go_ret
    exact ⟨rfl, to_call PX.out.1 b9⟩
  · have hd : decide ((ln : Int) > 300) = false := decide_eq_false h300
    go_upto_region 3 with fail
    clear hd c3
    go_wp2_with (first | (refine wpList_load_row (by rfl) 25 _ (by rfl) w.heap.size _ (by rfl) PX.out.2 _ Try.underlying25 rfl 7 Try.infoPM (by rfl) ?_))
    refine Calls.mono (claims17_any co go lo cn cc gn gc ln lc gvl ls t K D L m _ (HL.out _ PX.out.1) hln) ?_
    rintro e w1 ⟨⟨vg, gl, rfl, hf⟩, b1⟩
    obtain ⟨go1, gc1, gv1, hv1, rd1, hn1⟩ := hf.out.rd (clL_lt HLT.out.1)
    subst hv1
    have HLE := clL_le (m := m) (t := t) HLT.out.2
    obtain ⟨cl, hcl⟩ : ∃ cl, clL m t ls = cl := ⟨_, rfl⟩
    rw [hcl] at rd1 hn1 HLE ⊢
    have HCL : Hid (clL m t ls = cl) := hcl
    obtain ⟨nn, hnn⟩ : ∃ nn, cl.length = nn := ⟨_, rfl⟩
    rw [hnn] at rd1 hn1 HLE ⊢
    have hnb : nn ≤ 1050000 := by have := HLN.out; have := HLE.2; omega
    have R1 : Hid (∀ W', Below w1.heap.size w1 W' → RdGs W' go1 nn gc1 gv1 cl) := fun W' hb => rd1.later hb
    have HN1 : Hid (∀ j, j < nn → (gv1 j).2.1 ≤ 1050000) := fun j hj => by
      have hj2 : j < cl.length := by rw [hnn]; exact hj
      rw [hn1 j hj, List.getElem?_eq_getElem hj2]
      exact HLE.1 _ (List.getElem_mem hj2)
    have P1 : Hid (Below w.heap.size w w1 ∧ w1.heap[w.heap.size]? = some (.cells #[.slice co cn cc, .slice go gn gc, .int .i64 t, .slice lo ln lc, .int .i64 K, .int .i64 D, .int .i64 L] 25)) := ⟨to_call PX.out.1 b1, kept b1 PX.out.2⟩
    have HNN : Hid (cl.length = nn) := hnn
    clear hf rd1 hn1 HLE hcl hnn b1 PX
    go_wp2_with (first | (refine wpList_load_row (by rfl) 25 _ (by rfl) w.heap.size _ (by rfl) P1.out.2 _ Try.underlying25 rfl 7 Try.infoPM (by rfl) ?_))
    refine Calls.mono (ofProp6_any co go lo cn cc gn gc ln lc gvg gvl cs gs ls t K D L _ (HC.out _ P1.out.1) (HG.out _ P1.out.1) (HL.out _ P1.out.1) hcn hgn hln HGL.out HLL.out) ?_
    rintro e w2 ⟨⟨p1, p2, p3, l1, q1, q2, q3, gv3, rfl, hr3⟩, b2⟩
    have HLT3 : Hid (∀ k, k < ln → ∀ u ∈ ls[k]?.getD [], u < 18446744073709551616) := fun k hk => by
      have hk2 : k < ls.length := by rw [HLN.out]; exact hk
      rw [List.getElem?_eq_getElem hk2]
      exact HLT.out.1 _ (List.getElem_mem hk2)
    go_wp2_with fail
    refine Calls.mono (refClaims17_any p1 p2 p3 l1 q1 gn q2 ln q3 gv3 ls t K D L m _ hr3.out hln HLT3.out) ?_
    rintro e w3 ⟨⟨vg2, gl2, rfl, hf2⟩, b3⟩
    have hf3 : OfL w3 w2.heap.size [] [] [] cl (.slice none 0 0) (.slice none 0 0) (.slice none 0 0) vg2 gl2 := HCL.out ▸ hf2.out
    obtain ⟨go2, gc2, gv2, hv2, rd2⟩ := hf3.guM
    rw [HNN.out] at hv2 rd2
    subst hv2
    have R2 : Hid (∀ W', Below w3.heap.size w3 W' → RdGu W' go2 nn gc2 gv2 cl) := fun W' hb => rd2.later hb
    have P3 : Hid (Below w.heap.size w w3 ∧ Below w1.heap.size w1 w3) := ⟨to_call (to_call P1.out.1 b2) b3, to_call b2 b3⟩
    obtain ⟨er, her⟩ : ∃ er, mayE m t ls = er := ⟨_, rfl⟩
    rw [her]
    clear hf2 hf3 rd2 b2 b3 hr3 her P1
    have hee : (er == er) = true := by simp
    go_wp2_with fail
    refine Calls.mono (lists_any go1 nn gc1 gv1 cl _ (R1.out _ P3.out.2) hnb HN1.out) ?_
    rintro e w4 ⟨⟨go4, gc4, gv4, rfl, hr4⟩, b4⟩
    go_wp2_with fail
    refine Calls.mono (sameLists6_any go4 go2 nn gc4 gc2 gv4 gv2 cl _ hr4.out (R2.out _ b4)) ?_
    rintro e w5 ⟨rfl, b5⟩
    have P5 : Hid (Below w.heap.size w w5) := to_call (to_call P3.out.1 b4) b5
    clear b4 b5 hr4
    go_wp2_with (go_at_call 4; refine (awake_any _).mono ?_; rintro e8 w9 ⟨rfl, b9⟩)
    go_ret
    exact ⟨rfl, to_call P5.out b9⟩
end Go.Proofs.Ytcpbccckjlnkaaa

namespace Go.Proofs.Ytcpbccckjlnkaaa.marginClaimsDone
open Go.ChangeShapes Go.WideShapes Go.ChangeAt Go.RowKit
set_option linter.unusedVariables false
set_option maxRecDepth 100000
theorem i64_bounds {n : Int} (h : (Lit.int .i64 n).wf = true) : -9223372036854775808 ≤ n ∧ n ≤ 9223372036854775807 := by
  have h2 : (decide ((-9223372036854775808 : Int) ≤ n) && decide (n ≤ 9223372036854775807)) = true := h
  simpa using h2
theorem own : ownKnob Try.prog.godebug = none := by kernel_rfl
theorem laidOut : laidOutB Try.prog = true := by kernel_rfl
theorem reads (os : Os) {H : Type} (enc : TypeId × Value → H) : ∃ places, DataW.whole enc Try.prog ((World.holding Try.prog os ⟨#[], #[], []⟩).forCall (fun _ _ => 0) ⟨#[], #[.agg #[.slice none 0 0, .slice none 0 0, .int .i64 0, .slice none 0 0, .int .i64 0, .int .i64 0, .int .i64 0], .int .i64 0], []⟩).memory Try.f3.params.toList Rows.marginClaimsSpec.vars false (#[.agg #[.slice none 0 0, .slice none 0 0, .int .i64 0, .slice none 0 0, .int .i64 0, .int .i64 0, .int .i64 0], .int .i64 0] : Array Value).toList 8 = some ([.agg [.nil, .nil, .lit (.int .i64 0), .nil, .lit (.int .i64 0), .lit (.int .i64 0), .lit (.int .i64 0)], .lit (.int .i64 0)], [], places) :=
  ⟨[], by kernel_rfl⟩
theorem bounds {H : Type} {a0  a1 : DataW H} (h : Rows.uptoSmall H [a0, a1] = true) : Rows.uptoBulk a0 ≤ 1048576 ∧ Rows.uptoBulk a1 ≤ 1048576 := by
  have h2 : Rows.uptoBulkAll [a0, a1] ≤ 1048576 := of_decide_eq_true h
  simp only [Rows.uptoBulkAll] at h2
  omega
theorem contract (H : Type) (enc : TypeId × Value → H) (W : World) (base : Nat) (args : Array Value) (ds gs : List (DataW H)) (before : List MemPlace)
    (hval : ∀ (j : Nat) t v, Try.f3.params[j]? = some t → args[j]? = some v → Value.okWide Try.prog W .any base t v)
    (hW : DataW.Whole enc Try.prog Try.f3.params.toList Rows.marginClaimsSpec.vars false W args.toList ds gs before) (hk : Rows.uptoSmall H (ds ++ gs) = true) :
    Calls Try.prog 3 args W fun e W' => ∃ v, e = .returned v ∧ Rows.marginClaimsSpec.post enc Try.prog Try.f3 false true false false W args v W' := by
  have hW' := hW
  obtain ⟨p, q, hA0, hV, rfl, hfz, hnd⟩ := hW
  have hA : DataW.TrodAll enc Try.prog W 0 (fun _ => true) true Try.f3.params.toList args.toList ds p := hA0
  rw [Try.params3] at hA hval
  obtain ⟨v0, vs0, d0, ds0, p0, q0, hargs, rfl, rfl, h0, r0⟩ := trodAll_cons hA
  obtain ⟨v1, vs1, d1, ds1, p1, q1, rfl, rfl, rfl, h1, r1⟩ := trodAll_cons r0
  obtain ⟨rfl, rfl, rfl⟩ := trodAll_nil r1
  obtain rfl : args = #[v0, v1] := by cases args; simp_all
  obtain ⟨rfl, rfl⟩ := trodVars_none hV
  simp only [List.append_nil] at hk
  have hbd := bounds hk
  have k0 := h0
  have lt0 : ∀ x ∈ p0, x.block < W.heap.size := by obtain ⟨m, hm⟩ := k0; exact DataW.trod_lt m _ _ _ hm
  obtain ⟨co0, go0, lo0, cn0, cc0, gn0, gc0, ln0, lc0, gvg0, gvl0, cs0, gs0, ls0, t0, K0, D0, L0, hv0, rc0, rg0, rl0, nc0, ng0, nl0, wg0, wl0⟩ := prop_openD (hval 0 25 v0 rfl rfl) h0 hbd.1
  subst hv0
  obtain ⟨a1, rfl, rfl, rfl, w1⟩ := open_int Try.underlying3 (hval 1 3 v1 rfl rfl) h1
  have bd1 := i64_bounds w1
  clear hA0
  refine (marginClaims_walk _ _ _ _ _ _ _ _ _ _ _ _ _ _ _ _ _ _ a1 W rc0 rg0 rl0 nc0 ng0 nl0 wg0 wl0).mono fun e W' ⟨he, bel⟩ => ?_
  subst he
  exact ⟨_, rfl, _, _, _, [], _, [], hW', trodAll_mk1 (shut_bool Try.underlying4 _), (trodAll_cons_mk (Below.trod laidOut (by kernel_rfl) (of_decide_eq_true (by kernel_rfl)) k0 bel lt0) (trodAll_cons_mk (shut_int Try.underlying3 w1) trodAll_mk0)), rfl, bel.frame _, fun h => by cases h⟩
theorem lifted (os : Os) (started : os.Started) (H : Type) (enc : TypeId × Value → H) (F : Stop.Interp) :
    ReturnsInHanded {} Try.checked os 3 .any ((Rows.OpenSpec.upto Rows.marginClaimsSpec).preRow enc Try.prog Try.f3 Rows.marginClaimsUptoRow.domain false Rows.marginClaimsUptoRow.laid) (((Rows.OpenSpec.upto Rows.marginClaimsSpec).at F).post enc Try.prog Try.f3 false true false false) := by
  obtain ⟨places, hx⟩ := reads os enc
  refine returnsInHanded_of_row (C := Try.checked) (s := Rows.OpenSpec.upto Rows.marginClaimsSpec) own started (by kernel_rfl) Try.func3
    (witness_row_at (enc := enc) (C := Try.checked) false (World.holding Try.prog os ⟨#[], #[], []⟩) #[.agg #[.slice none 0 0, .slice none 0 0, .int .i64 0, .slice none 0 0, .int .i64 0, .int .i64 0, .int .i64 0], .int .i64 0] rfl (by kernel_rfl) (by kernel_rfl) (by kernel_rfl)
      (OpenSpec.preRow_of_cond 8 hx (by kernel_rfl) (fun k hk => by cases hk; kernel_rfl) (by kernel_rfl) (laidMet_of_run' 8 (by kernel_rfl) (by kernel_rfl)))) ?_
  intro W base args ds gs before hval hW x1 x2 x3 hL x5 x6
  exact contract H enc W base args ds gs before hval hW (by first | exact x1 _ rfl | exact x2 _ rfl | exact x3 _ rfl | exact x5 _ rfl | exact x6 _ rfl)
theorem said : Rows.MarginClaimsUptoSaid :=
  OpenClaim.holds_of_cond 3 Try.f3 rfl rfl rfl rfl rfl rfl rfl ⟨rfl, rfl, rfl, rfl, rfl⟩ rfl rfl rfl rfl rfl (by kernel_rfl) Try.func3 (by kernel_rfl)
    (of_decide_eq_true (by kernel_rfl)) (by unfold Func.isWrapper; first | (rw [if_pos (by decide +kernel)]; kernel_rfl) | (rw [if_neg (by decide +kernel)]; exact ⟨rfl, rfl⟩))
    (fun os started H enc _ F => by rw [OpenClaim.pre_eq_preRow]; exact lifted os started H enc F)
end Go.Proofs.Ytcpbccckjlnkaaa.marginClaimsDone
namespace Go.Proofs.Ytcpbccckjlnkaaa
theorem marginClaims_holds : Rows.MarginClaimsUptoSaid := marginClaimsDone.said
#print axioms marginClaims_holds
end Go.Proofs.Ytcpbccckjlnkaaa
