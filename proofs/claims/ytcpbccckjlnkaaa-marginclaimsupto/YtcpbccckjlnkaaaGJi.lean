import Derived.Test.YtcpbccckjlnkaaaGJh
namespace Go.Proofs.Ytcpbccckjlnkaaa
open Go.RowKit Go.Shelf
set_option linter.unusedVariables false
set_option linter.unusedSimpArgs false

def uJ (us : List Nat) : List Value := us.map fun (u : Nat) => Value.int .u64 (u : Int)
theorem uJ_len (us : List Nat) : (uJ us).length = us.length := List.length_map _
theorem uJ_snoc (us : List Nat) (u : Nat) : uJ (us ++ [u]) = uJ us ++ [.int .u64 (u : Int)] := List.map_append
theorem uJ_at (us : List Nat) (j : Nat) (h : j < us.length) : (uJ us)[j]? = some (.int .u64 ((us[j]?.getD 0 : Nat) : Int)) := by
  unfold uJ
  rw [List.getElem?_map, List.getElem?_eq_getElem h]
  rfl
theorem Try.infoUJ : (Try.prog.info? 67).map (fun i => (i.zero, i.size, i.bytes)) = some (some (.int .u64 0), 1, 8) := by kernel_rfl
theorem take_snocJ {us : List Nat} {k : Nat} (h : k < us.length) : us.take (k + 1) = us.take k ++ [us[k]?.getD 0] := by
  rw [List.take_succ_eq_append_getElem h, List.getElem?_eq_getElem h]; rfl
theorem oneI : ∀ (x : Value), x.oneCell' = true → ∀ u ∈ [x], u.oneCell' = true := by
  intro x hx u hu
  simp only [List.mem_cons, List.not_mem_nil, or_false] at hu
  subst hu
  exact hx
set_option maxRecDepth 100000 in
set_option maxHeartbeats 1000000 in
/-- The document's Bits. -/
theorem bits10_any (ao : Option Addr) (len cap : Nat) (us : List Nat) (w : World) (hr : RdF w ao len cap us) (hl : len ≤ 1050000) :
    Calls Try.prog 22 #[.slice ao len cap] w fun e w' => ∃ v, e = .returned v ∧ w'.ownsRow w.heap.size 67 1 v us.length (uJ us) ∧ Below w.heap.size w w' := by
  have HR : Hid _ := hr
  have HLN : Hid _ := hr.length
  clear hr
  go_enter Try.func22, Try.ntmps22
  go_wp2_with fail
  go_loopg [3, 4] len (fun g v u wx => ∃ (i : Nat), u = .int .i64 i ∧ i + g = len ∧ Hid (wx.ownsRow w.heap.size 67 1 v i (uJ (us.take i))) ∧ Hid (Below w.heap.size w wx))
  case atStart => exact ⟨0, rfl, by omega, World.ownsRow_nil _ _ _ _, Below.refl _ _⟩
  case round =>
    obtain ⟨i, rfl, hi, HO, HB⟩ := hrel
    have hsr := HB.out.size
    by_cases hlt : i < len
    · have hd : decide ((i : Int) < (len : Int)) = true := decide_eq_true (by omega)
      obtain ⟨g, rfl⟩ : ∃ g, gk = g + 1 := ⟨gk - 1, by omega⟩
      rcases (HR.out.later HB.out).cells with h0 | ⟨b, off, rfl, hc⟩
      · omega
      have g0 := hc i hlt
      have HTS : Hid _ := take_snocJ (us := us) (k := i) (by rw [HLN.out]; exact hlt)
      obtain ⟨x, hx⟩ : ∃ x, us[i]?.getD 0 = x := ⟨_, rfl⟩
      rw [hx] at g0 HTS
      have HIG : Hid _ := hi
      clear hc hi hx
      go_wp2_with (first
        | (go_at_call 32; refine Calls.mono (apiBits_any x _) ?_; rintro e w' ⟨rfl, hw⟩; rw [hw]; clear hw)
        | (at_builtin; refine append_gsJ Try.underlying33 Try.infoUJ rfl (by decide) (by decide) _ (by rfl) _ _ (by rfl) w.heap.size _ _ _ (by rfl) (World.ownsRow.alloc HO.out _) ⟨wr.heap.size, 0, none⟩ 1 1 [.int .u64 (x : Int)] (by rfl) rfl (news_oneJ (heap_alloc_new wr _)) (oneI _ rfl) (by omega) (by simp only [alloc_size]; omega) ?_; intro v5 w5 o5 g5))
      have B5 : Hid (Below w.heap.size w w5) := (HB.out.alloc hsr _).trans (g5.below (fun k hk => (World.ownsRow.lt HO.out k hk).1) (by simp only [alloc_size]; omega))
      have O5 : Hid _ := o5
      clear o5 g5
      go_roundg g
      case measure => omega
      case rel =>
        refine ⟨i + 1, by go_num, by have := HIG.out; omega, ?_, B5⟩
        unfold Hid
        rw [HTS.out, uJ_snoc]
        exact O5.out
    · have hd : decide ((i : Int) < (len : Int)) = false := decide_eq_false (by omega)
      have HO2 : Hid (wr.ownsRow w.heap.size 67 1 u3 us.length (uJ us)) := by
        have := HO.out
        rw [List.take_of_length_le (by rw [HLN.out]; omega), show i = us.length by rw [HLN.out]; omega] at this
        exact this
      go_wp2
      go_ret
      exact ⟨_, rfl, HO2.out, HB.out⟩
theorem rdU_of {w : World} {base : Nat} {v : Value} {us : List Nat} (h : w.ownsRow base 67 1 v us.length (uJ us)) : ∃ ao cap, v = .slice ao us.length cap ∧ RdUs w ao us.length cap us := by
  obtain ⟨ao, cap, rfl, hm, hc⟩ := owns_slice h
  refine ⟨ao, cap, rfl, rfl, hm, ?_⟩
  rcases hc with h0 | ⟨g, rfl, hc⟩
  · exact .inl h0
  · exact .inr ⟨g, 0, rfl, fun j hj => by rw [Nat.zero_add, hc j hj, uJ_at us j hj]⟩
/-- The lists of the document's zonotope, in memory of their own. -/
structure OfL (w : World) (base : Nat) (cs rs : List Nat) (ids : List Int) (gs : List (List Nat)) (vc vr vi vg : Value) (gl : List Value) : Prop where
  c : w.ownsRow base 67 1 vc cs.length (uJ cs)
  r : w.ownsRow base 67 1 vr rs.length (uJ rs)
  i : w.ownsRow base 3 1 vi ids.length (ids.map (Value.int .i64))
  g : w.ownsRow base 33 1 vg gl.length gl
  len : gl.length = gs.length
  col : ∀ (j : Nat) (u : Value), gl[j]? = some u → w.ownsRow base 67 1 u (gs[j]?.getD []).length (uJ (gs[j]?.getD []))
theorem OfL.later {w w' : World} {base : Nat} {cs rs : List Nat} {ids : List Int} {gs : List (List Nat)} {vc vr vi vg : Value} {gl : List Value} (h : OfL w base cs rs ids gs vc vr vi vg gl) (hb : Below w.heap.size w w') : OfL w' base cs rs ids gs vc vr vi vg gl :=
  ⟨owns_keepT h.c fun k cur hc => hb.block k (blk_lt hc), owns_keepT h.r fun k cur hc => hb.block k (blk_lt hc), owns_keepT h.i fun k cur hc => hb.block k (blk_lt hc), owns_keepT h.g fun k cur hc => hb.block k (blk_lt hc), h.len, fun j u hj => owns_keepT (h.col j u hj) fun k cur hc => hb.block k (blk_lt hc)⟩
theorem OfL.pushG {w w' : World} {base : Nat} {cs rs us : List Nat} {ids : List Int} {gs : List (List Nat)} {vc vr vi vg vg' v : Value} {gl : List Value} (h : OfL w base cs rs ids gs vc vr vi vg gl) (hg : Grw w w' vg.ownBlock vg'.ownBlock)
    (ho : w'.ownsRow base 33 1 vg' (gl.length + 1) (gl ++ [v])) (hv : w.ownsRow base 67 1 v us.length (uJ us)) : OfL w' base cs rs ids (gs ++ [us]) vc vr vi vg' (gl ++ [v]) := by
  have hk := grw_types h.g hg
  refine ⟨owns_keepT h.c fun k cur => hk k cur _ (by decide), owns_keepT h.r fun k cur => hk k cur _ (by decide), owns_keepT h.i fun k cur => hk k cur _ (by decide), by simpa using ho, by simp [h.len], fun j u hj => ?_⟩
  by_cases e : j < gl.length
  · rw [List.getElem?_append_left e] at hj
    rw [List.getElem?_append_left (by rw [← h.len]; exact e)]
    exact owns_keepT (h.col j u hj) fun k cur => hk k cur _ (by decide)
  · have hl := (List.getElem?_eq_some_iff.1 hj).1
    have ej : j = gl.length := by simp at hl; omega
    subst ej
    rw [List.getElem?_append_right (Nat.le_refl _), Nat.sub_self, List.getElem?_cons_zero] at hj
    cases hj
    rw [List.getElem?_append_right (by rw [h.len]; exact Nat.le_refl _), h.len, Nat.sub_self, List.getElem?_cons_zero]
    exact owns_keepT hv fun k cur => hk k cur _ (by decide)
theorem OfL.zu {w : World} {base : Nat} {cs rs : List Nat} {ids : List Int} {gs : List (List Nat)} {vc vr vi vg : Value} {gl : List Value} (h : OfL w base cs rs ids gs vc vr vi vg gl) (N : Int) (bad : Bool) :
    ∃ u : ZD, (.agg #[.int .i64 N, vc, vi, vg, vr, .bool bad] : Value) = .agg (zRow u) ∧ ZU w u ∧ u.N = N ∧ u.bad = bad ∧ u.cs = cs ∧ u.rs = rs ∧ u.ids = ids ∧ u.gs = gs ∧ u.dn = ids.length ∧ u.gn = gs.length ∧ u.cn = cs.length ∧ u.rn = rs.length := by
  obtain ⟨co, cc, rfl, hc⟩ := rdU_of h.c
  obtain ⟨ro, rc, rfl, hr⟩ := rdU_of h.r
  obtain ⟨io, dc, rfl, hm1, h1⟩ := owns_slice h.i
  obtain ⟨go, gc, rfl, hm2, h2⟩ := owns_slice h.g
  have hx : ∀ j : Nat, ∃ p : Option Addr × Nat × Nat, j < gl.length → gl[j]? = some (.slice p.1 p.2.1 p.2.2) ∧ RdUs w p.1 p.2.1 p.2.2 (gs[j]?.getD []) := fun j => by
    by_cases hj : j < gl.length
    · obtain ⟨ao, cap, hv, hr⟩ := rdU_of (h.col j _ (List.getElem?_eq_getElem hj))
      exact ⟨(ao, _, cap), fun _ => ⟨by rw [List.getElem?_eq_getElem hj, hv], hr⟩⟩
    · exact ⟨(none, 0, 0), fun h => absurd h hj⟩
  have hln := h.len
  refine ⟨⟨N, co, cs.length, cc, io, ids.length, dc, go, gl.length, gc, ro, rs.length, rc, bad, cs, ids, fun j => Classical.choose (hx j), gs, rs⟩, rfl, ⟨hc, ⟨rfl, hm1, ?_⟩, ⟨hln.symm, hm2, ?_, fun j hj => (Classical.choose_spec (hx j) hj).2⟩, hr⟩, rfl, rfl, rfl, rfl, rfl, rfl, rfl, hln, rfl, rfl⟩
  · rcases h1 with h0 | ⟨g, rfl, hc⟩
    · exact .inl h0
    · refine .inr ⟨g, 0, rfl, fun j hj => ?_⟩
      dsimp only at hj ⊢
      rw [Nat.zero_add, hc j hj, List.getElem?_map, List.getElem?_eq_getElem hj]
      rfl
  · rcases h2 with h0 | ⟨g, rfl, hc⟩
    · exact .inl h0
    · refine .inr ⟨g, 0, rfl, fun j hj => ?_⟩
      rw [Nat.zero_add, hc j hj, (Classical.choose_spec (hx j) hj).1]
end Go.Proofs.Ytcpbccckjlnkaaa


namespace Go.Proofs.Ytcpbccckjlnkaaa
open Go.RowKit Go.Shelf
set_option linter.unusedVariables false
set_option linter.unusedSimpArgs false

end Go.Proofs.Ytcpbccckjlnkaaa

