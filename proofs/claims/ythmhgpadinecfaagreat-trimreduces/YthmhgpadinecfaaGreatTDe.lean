import Derived.Test.YthmhgpadinecfaaGreatTDb3
set_option linter.unusedVariables false
set_option linter.unusedSimpArgs false
namespace Go.Proofs.YthmhgpadinecfaaGreat
open Go.RowKit
open Go.RowKit Go.Shelf
theorem zeroCells_cl {p : Value -> Bool} {z : Array Value} {n : Nat} (hz : ∀ v ∈ z, p v = true) (h0 : 0 < z.size) : ∀ (i : Nat) (v : Value), (Builtin.zeroCells z n)[i]? = some v -> p v = true := by
 intro i v hv
 unfold Builtin.zeroCells at hv
 rw [Array.getElem?_map] at hv
 obtain ⟨j, hj, rfl⟩ := Option.map_eq_some_iff.1 hv
 have hlt : j % z.size < z.size := Nat.mod_lt _ h0
 rw [getElem!_pos z _ hlt]
 exact hz _ (Array.getElem_mem hlt)
theorem list_cl {p : Value -> Bool} {xs : List Value} (h : ∀ u ∈ xs, p u = true) : ∀ (i : Nat) (v : Value), xs.toArray[i]? = some v -> p v = true := by
 intro i v hv
 rw [List.getElem?_toArray] at hv
 exact h v (List.mem_of_getElem? hv)
theorem append_clJ (p : Value -> Bool) {SE E : TypeId} {z : Value} {size bytes : Nat} (hu : Tryz.prog.underlying SE = some (.slice E)) (hinfo : (Tryz.prog.info? E).map (fun i => (i.zero, i.size, i.bytes)) = some (some z, size, bytes)) (hzc : z.cells.size = size) (hsz : 0 < size) (hby : bytes <= 64) (hzp : ∀ v ∈ z.cells, p v = true)
  {ops : Array Oper} {rest : List Oper} {o : Oper} {a : Act} {Q : Exit -> Act -> World -> Prop} (W : World) (hgd : o.guard = none) (s x : Operand) (ho : o.op = .call { callee := .builtin .append, args := #[s, x], argTypes := #[SE, SE] })
  (base : Nat) (v : Value) (n : Nat) (xs : List Value) (hs : a.eval s = v) (hown : W.ownsRow base E size v n xs) (hcl : ∀ g, v.ownBlock = some g -> Cl p W g)
  (ad : Addr) (m c : Nat) (news : List Value) (hx : a.eval x = .slice (some ad) m c) (hm : 0 < m) (hl : news.length = m * size) (hnews : ∀ j u, news[j]? = some u -> W.cell? (ad.add j) = some u) (h1 : ∀ u ∈ news, u.oneCell' = true) (hnp : ∀ u ∈ news, p u = true)
  (hlen : n + m <= 4000000) (hbase : base <= W.heap.size)
  (h : ∀ v' w', w'.ownsRow base E size v' (n + m) (xs ++ news) -> Grw W w' v.ownBlock v'.ownBlock -> (∀ g, v'.ownBlock = some g -> Cl p w' g) -> wpList Tryz.prog ops Q rest (a.put o.dst v') w') : wpList Tryz.prog ops Q (o :: rest) a W := by
 obtain ⟨i0, hi, hz0, hz1, hz2⟩ := info3' hinfo
 have hb2 : (n + m) * bytes <= 140737488355328 := Nat.le_trans (Nat.mul_le_mul hlen hby) (by decide)
 have hmx : n + m <= maxLen := by simp only [maxLen]; omega
 obtain ⟨v', w', hrun, r1, r2, _⟩ := run_append_own (P := Tryz.prog) W base SE o.type E i0 z size bytes hu hi hz0 hz1 hz2 hzc hsz v n xs hown ad m c news hl hnews h1 hmx hb2 hbase
 have key : (∀ g, v'.ownBlock = some g -> Cl p w' g) /\ (v'.ownBlock = v.ownBlock \/ ∀ k, v'.ownBlock = some k -> W.heap.size <= k) := by
  have hsm : ((n + m : Nat) : Int) <= 9223372036854775807 := by omega
  subst hz1 hz2
  have hzs : 0 < z.cells.size := by omega
  rcases hown.2 with ⟨rfl, rfl⟩ | ⟨g, cap, cur, rfl, hg, hh, k1, k2, k3, k4⟩
  ·have hx0 : xs = [] := List.eq_nil_of_length_eq_zero (by simpa using hown.1)
   subst hx0
   have hex := run_append_nil (P := Tryz.prog) W SE o.type E i0 z hu hi hz0 ad m c news hl hnews hm (by omega) (by rw [Nat.zero_add] at hb2; omega)
   rw [hex] at hrun
   cases hrun
   refine ⟨fun g hg => ?_, .inr fun k hk => ?_⟩
   ·cases hg
    refine ⟨_, _, heap_alloc_new W.drew _, fun i u hu => ?_⟩
    rw [Array.getElem?_append] at hu
    split at hu
    ·exact list_cl hnp i u hu
    ·exact zeroCells_cl hzp hzs _ u hu
   ·cases hk
    exact Nat.le_refl _
  ·obtain ⟨cur', t', hc1, hc2⟩ := hcl g rfl
   rw [hh] at hc1
   cases hc1
   by_cases hr : n + m <= cap
   ·have hfit : n * i0.size + news.length <= cur.size := by rw [hl, k3, <- Nat.add_mul]; exact Nat.mul_le_mul_right _ hr
    have hex := run_append_room (P := Tryz.prog) W SE o.type E i0 hu hi g n cap cur hh ad m c news hl hnews h1 hr hfit
    rw [hex] at hrun
    cases hrun
    refine ⟨fun g' hg' => ?_, .inl rfl⟩
    cases hg'
    refine ⟨(cur.toList.take (n * i0.size) ++ news ++ cur.toList.drop (n * i0.size + news.length)).toArray, E, ?_, ?_⟩
    ·show (W.setRow g _).heap[g]? = _
     unfold World.setRow
     simp [Array.getElem?_modify, hh]
    ·intro i u hu
     refine list_cl (p := p) (fun y hy => ?_) i u hu
     rw [List.mem_append, List.mem_append] at hy
     rcases hy with (hy | hy) | hy
     ·obtain ⟨j, hj⟩ := List.mem_iff_getElem?.1 (List.mem_of_mem_take hy)
      rw [Array.getElem?_toList] at hj
      exact hc2 j y hj
     ·exact hnp y hy
     ·obtain ⟨j, hj⟩ := List.mem_iff_getElem?.1 (List.mem_of_mem_drop hy)
      rw [Array.getElem?_toList] at hj
      exact hc2 j y hj
   ·have hxc : ∀ j u, xs[j]? = some u -> W.cell? ((⟨g, 0, none⟩ : Addr).add j) = some u := fun j u hj => World.ownsRow.cells hown rfl j u hj
    have hex := run_append_grow (P := Tryz.prog) W SE o.type E i0 z hu hi hz0 ⟨g, 0, none⟩ n cap xs hown.1 hxc ad m c news hl hnews (by omega) (by omega) (growslice_fits (by omega) hb2)
    rw [hex] at hrun
    cases hrun
    refine ⟨fun g' hg' => ?_, .inr fun k hk => ?_⟩
    ·cases hg'
     refine ⟨_, _, heap_alloc_new W.drew _, fun i u hu => ?_⟩
     rw [Array.getElem?_append] at hu
     split at hu
     ·rw [Array.getElem?_append] at hu
      split at hu
      ·refine list_cl (p := p) (fun y hy => ?_) i u hu
       obtain ⟨j, hj⟩ := List.mem_iff_getElem?.1 hy
       have h2 := hxc j y hj
       rw [Addr.add_lit, cell_of_row _ g _ _ _ _ hh] at h2
       exact hc2 _ y h2
      ·exact list_cl hnp _ u hu
     ·exact zeroCells_cl hzp hzs _ u hu
    ·cases hk
     exact Nat.le_refl _
 refine wpList_plain hgd fun K hK => ?_
 unfold Oper.wp
 simp [execOp, ho, resolve, invoke, builtin, hs, hx, hrun, Result.andThen]
 exact hK _ _ (h v' w' r1 ⟨r2, key.2⟩ key.1)
theorem Tryz.infoNumJ : (Tryz.prog.info? 65).map (fun i => (i.zero, i.size, i.bytes)) = some (some (.agg #[.bool false, .slice none 0 0, .int .i64 0]), 3, 40) := by kernel_rfl
theorem news_threeJ {W : World} {I : Nat} {x y z : Value} {E : TypeId} (h : W.heap[I]? = some (.cells #[x, y, z] E)) : ∀ j u, [x, y, z][j]? = some u -> W.cell? ((⟨I, 0, none⟩ : Addr).add j) = some u := by
 intro j u hj
 match j, hj with
 | 0, hj => cases hj; rw [Addr.add_lit, cell_of_row _ I _ _ _ _ h]; rfl
 | 1, hj => cases hj; rw [Addr.add_lit, cell_of_row _ I _ _ _ _ h]; rfl
 | 2, hj => cases hj; rw [Addr.add_lit, cell_of_row _ I _ _ _ _ h]; rfl
theorem three_one (n : Bool) (o : Option Addr) (l c : Nat) (e : Int) : ∀ u ∈ [Value.bool n, .slice o l c, .int .i64 e], u.oneCell' = true := by
 intro u hu
 simp only [List.mem_cons, List.not_mem_nil, or_false] at hu
 rcases hu with rfl | rfl | rfl <;> rfl
theorem three_noU (n : Bool) (o : Option Addr) (l c : Nat) (e : Int) : ∀ u ∈ [Value.bool n, .slice o l c, .int .i64 e], noU u = true := by
 intro u hu
 simp only [List.mem_cons, List.not_mem_nil, or_false] at hu
 rcases hu with rfl | rfl | rfl <;> rfl
theorem zero_noU : ∀ v ∈ (Value.agg #[.bool false, .slice none 0 0, .int .i64 0]).cells, noU v = true := by
 intro v hv
 have : v ∈ (#[.bool false, .slice none 0 0, .int .i64 0] : Array Value) := hv
 simp only [List.mem_toArray, List.mem_cons, List.not_mem_nil, or_false] at this
 rcases this with rfl | rfl | rfl <;> rfl
end Go.Proofs.YthmhgpadinecfaaGreat
