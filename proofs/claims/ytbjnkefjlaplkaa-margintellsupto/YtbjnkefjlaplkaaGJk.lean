import Derived.Test.YtbjnkefjlaplkaaGJj
import Derived.Test.YtbjnkefjlaplkaaGJe
import Derived.Test.YtbjnkefjlaplkaaNCc
import Derived.Test.YtbjnkefjlaplkaaMZ
import Derived.Test.YtbjnkefjlaplkaaMN
namespace Go.Proofs.Ytbjnkefjlaplkaa
open Go.RowKit Go.Shelf
set_option linter.unusedVariables false
set_option linter.unusedSimpArgs false

end Go.Proofs.Ytbjnkefjlaplkaa


namespace Go.Proofs.Ytbjnkefjlaplkaa
open Go.RowKit Go.Shelf
set_option linter.unusedVariables false
set_option linter.unusedSimpArgs false

/-- No cell of the block is such a one. -/
def Cl (p : Value → Bool) (w : World) (g : Nat) : Prop := ∃ cur t, w.heap[g]? = some (.cells cur t) ∧ ∀ (i : Nat) (v : Value), cur[i]? = some v → p v = true
theorem zeroCells_cl {p : Value → Bool} {z : Array Value} {n : Nat} (hz : ∀ v ∈ z, p v = true) (h0 : 0 < z.size) : ∀ (i : Nat) (v : Value), (Builtin.zeroCells z n)[i]? = some v → p v = true := by
  intro i v hv
  unfold Builtin.zeroCells at hv
  rw [Array.getElem?_map] at hv
  obtain ⟨j, hj, rfl⟩ := Option.map_eq_some_iff.1 hv
  have hlt : j % z.size < z.size := Nat.mod_lt _ h0
  rw [getElem!_pos z _ hlt]
  exact hz _ (Array.getElem_mem hlt)
theorem list_cl {p : Value → Bool} {xs : List Value} (h : ∀ u ∈ xs, p u = true) : ∀ (i : Nat) (v : Value), xs.toArray[i]? = some v → p v = true := by
  intro i v hv
  rw [List.getElem?_toArray] at hv
  exact h v (List.mem_of_getElem? hv)
/-- append onto a row in a block of its own none of whose cells is such a one. -/
theorem append_clJ (p : Value → Bool) {SE E : TypeId} {z : Value} {size bytes : Nat} (hu : Try.prog.underlying SE = some (.slice E)) (hinfo : (Try.prog.info? E).map (fun i => (i.zero, i.size, i.bytes)) = some (some z, size, bytes)) (hzc : z.cells.size = size) (hsz : 0 < size) (hby : bytes ≤ 64) (hzp : ∀ v ∈ z.cells, p v = true)
    {ops : Array Oper} {rest : List Oper} {o : Oper} {a : Act} {Q : Exit → Act → World → Prop} (W : World) (hgd : o.guard = none) (s x : Operand) (ho : o.op = .call { callee := .builtin .append, args := #[s, x], argTypes := #[SE, SE] })
    (base : Nat) (v : Value) (n : Nat) (xs : List Value) (hs : a.eval s = v) (hown : W.ownsRow base E size v n xs) (hcl : ∀ g, v.ownBlock = some g → Cl p W g)
    (ad : Addr) (m c : Nat) (news : List Value) (hx : a.eval x = .slice (some ad) m c) (hm : 0 < m) (hl : news.length = m * size) (hnews : ∀ j u, news[j]? = some u → W.cell? (ad.add j) = some u) (h1 : ∀ u ∈ news, u.oneCell' = true) (hnp : ∀ u ∈ news, p u = true)
    (hlen : n + m ≤ 4000000) (hbase : base ≤ W.heap.size)
    (h : ∀ v' w', w'.ownsRow base E size v' (n + m) (xs ++ news) → Grw W w' v.ownBlock v'.ownBlock → (∀ g, v'.ownBlock = some g → Cl p w' g) → wpList Try.prog ops Q rest (a.put o.dst v') w') : wpList Try.prog ops Q (o :: rest) a W := by
  obtain ⟨i0, hi, hz0, hz1, hz2⟩ := info3' hinfo
  have hb2 : (n + m) * bytes ≤ 140737488355328 := Nat.le_trans (Nat.mul_le_mul hlen hby) (by decide)
  have hmx : n + m ≤ maxLen := by simp only [maxLen]; omega
  obtain ⟨v', w', hrun, r1, r2, _⟩ := run_append_own (P := Try.prog) W base SE o.type E i0 z size bytes hu hi hz0 hz1 hz2 hzc hsz v n xs hown ad m c news hl hnews h1 hmx hb2 hbase
  have key : (∀ g, v'.ownBlock = some g → Cl p w' g) ∧ (v'.ownBlock = v.ownBlock ∨ ∀ k, v'.ownBlock = some k → W.heap.size ≤ k) := by
    have hsm : ((n + m : Nat) : Int) ≤ 9223372036854775807 := by omega
    subst hz1 hz2
    have hzs : 0 < z.cells.size := by omega
    rcases hown.2 with ⟨rfl, rfl⟩ | ⟨g, cap, cur, rfl, hg, hh, k1, k2, k3, k4⟩
    · have hx0 : xs = [] := List.eq_nil_of_length_eq_zero (by simpa using hown.1)
      subst hx0
      have hex := run_append_nil (P := Try.prog) W SE o.type E i0 z hu hi hz0 ad m c news hl hnews hm (by omega) (by rw [Nat.zero_add] at hb2; omega)
      rw [hex] at hrun
      cases hrun
      refine ⟨fun g hg => ?_, .inr fun k hk => ?_⟩
      · cases hg
        refine ⟨_, _, heap_alloc_new W.drew _, fun i u hu => ?_⟩
        rw [Array.getElem?_append] at hu
        split at hu
        · exact list_cl hnp i u hu
        · exact zeroCells_cl hzp hzs _ u hu
      · cases hk
        exact Nat.le_refl _
    · obtain ⟨cur', t', hc1, hc2⟩ := hcl g rfl
      rw [hh] at hc1
      cases hc1
      by_cases hr : n + m ≤ cap
      · have hfit : n * i0.size + news.length ≤ cur.size := by rw [hl, k3, ← Nat.add_mul]; exact Nat.mul_le_mul_right _ hr
        have hex := run_append_room (P := Try.prog) W SE o.type E i0 hu hi g n cap cur hh ad m c news hl hnews h1 hr hfit
        rw [hex] at hrun
        cases hrun
        refine ⟨fun g' hg' => ?_, .inl rfl⟩
        cases hg'
        refine ⟨(cur.toList.take (n * i0.size) ++ news ++ cur.toList.drop (n * i0.size + news.length)).toArray, E, ?_, ?_⟩
        · show (W.setRow g _).heap[g]? = _
          unfold World.setRow
          simp [Array.getElem?_modify, hh]
        · intro i u hu
          refine list_cl (p := p) (fun y hy => ?_) i u hu
          rw [List.mem_append, List.mem_append] at hy
          rcases hy with (hy | hy) | hy
          · obtain ⟨j, hj⟩ := List.mem_iff_getElem?.1 (List.mem_of_mem_take hy)
            rw [Array.getElem?_toList] at hj
            exact hc2 j y hj
          · exact hnp y hy
          · obtain ⟨j, hj⟩ := List.mem_iff_getElem?.1 (List.mem_of_mem_drop hy)
            rw [Array.getElem?_toList] at hj
            exact hc2 j y hj
      · have hxc : ∀ j u, xs[j]? = some u → W.cell? ((⟨g, 0, none⟩ : Addr).add j) = some u := fun j u hj => World.ownsRow.cells hown rfl j u hj
        have hex := run_append_grow (P := Try.prog) W SE o.type E i0 z hu hi hz0 ⟨g, 0, none⟩ n cap xs hown.1 hxc ad m c news hl hnews (by omega) (by omega) (growslice_fits (by omega) hb2)
        rw [hex] at hrun
        cases hrun
        refine ⟨fun g' hg' => ?_, .inr fun k hk => ?_⟩
        · cases hg'
          refine ⟨_, _, heap_alloc_new W.drew _, fun i u hu => ?_⟩
          rw [Array.getElem?_append] at hu
          split at hu
          · rw [Array.getElem?_append] at hu
            split at hu
            · refine list_cl (p := p) (fun y hy => ?_) i u hu
              obtain ⟨j, hj⟩ := List.mem_iff_getElem?.1 hy
              have h2 := hxc j y hj
              rw [Addr.add_lit, cell_of_row _ g _ _ _ _ hh] at h2
              exact hc2 _ y h2
            · exact list_cl hnp _ u hu
          · exact zeroCells_cl hzp hzs _ u hu
        · cases hk
          exact Nat.le_refl _
  refine wpList_plain hgd fun K hK => ?_
  unfold Oper.wp
  simp [execOp, ho, resolve, invoke, builtin, hs, hx, hrun, Result.andThen]
  exact hK _ _ (h v' w' r1 ⟨r2, key.2⟩ key.1)
/-- A cell that holds no word of a number. -/
def noU : Value → Bool
  | .int .u32 _ => false
  | _ => true
theorem rd4_cl {w w' : World} {B : Nat} (hB : Cl noU w B) (hs : ∀ b, b ≠ B → b < w.heap.size → w'.heap[b]? = w.heap[b]?) {ao : Option Addr} {len cap : Nat} {xs : List Nat} (h : Rd4 w ao len cap xs) : Rd4 w' ao len cap xs := by
  refine ⟨h.length, h.le, h.max, h.lt, h.nil, ?_⟩
  rcases h.cells with h0 | ⟨b, off, ha, hc⟩
  · exact .inl h0
  · refine .inr ⟨b, off, ha, fun j hj => ?_⟩
    have h1 := hc j hj
    have hne : b ≠ B := by
      rintro rfl
      obtain ⟨cur, t, e1, e2⟩ := hB
      rw [cell_of_row _ _ _ _ _ _ e1] at h1
      have := e2 _ _ h1
      cases this
    rw [World.cell?_of_block (w := w) (w' := w') (a := ⟨b, off + j, none⟩) (hs b hne (World.block_lt_of_cell? w _ h1))]
    exact h1
theorem NumZ.cl {w w' : World} {B : Nat} (hB : Cl noU w B) (hs : ∀ b, b ≠ B → b < w.heap.size → w'.heap[b]? = w.heap[b]?) {v : Value} {s : Nat} {T z : Int} (h : NumZ w v s T z) : NumZ w' v s T z := by
  obtain ⟨neg, m, e, ⟨ao, len, cap, xs, h1, h2, h3, h4⟩, h5⟩ := h
  exact ⟨neg, m, e, ⟨ao, len, cap, xs, h1, rd4_cl hB hs h2, h3, h4⟩, h5⟩
theorem NumC.cl {w w' : World} {B : Nat} (hB : Cl noU w B) (hs : ∀ b, b ≠ B → b < w.heap.size → w'.heap[b]? = w.heap[b]?) {v : Value} {s : Nat} {T z : Int} (h : NumC w v s T z) : NumC w' v s T z := by
  obtain ⟨neg, m, e, ⟨ao, len, cap, xs, h1, h2, h3, h4⟩, h5⟩ := h
  exact ⟨neg, m, e, ⟨ao, len, cap, xs, h1, rd4_cl hB hs h2, h3, h4⟩, h5⟩
end Go.Proofs.Ytbjnkefjlaplkaa

namespace Go.Proofs.Ytbjnkefjlaplkaa
open Go.RowKit Go.Shelf
set_option linter.unusedVariables false
set_option linter.unusedSimpArgs false

theorem Try.infoNumJ : (Try.prog.info? 60).map (fun i => (i.zero, i.size, i.bytes)) = some (some (.agg #[.bool false, .slice none 0 0, .int .i64 0]), 3, 40) := by kernel_rfl
/-- A list of the document's reals: those of the numbers us. -/
structure RowN (w : World) (base : Nat) (v : Value) (E : Nat) (us : List Nat) : Prop where
  own : ∃ xs, w.ownsRow base 60 3 v us.length xs ∧ ∀ j, j < us.length → ∃ n o l c e, xs[j * 3]? = some (.bool n) ∧ xs[j * 3 + 1]? = some (.slice o l c) ∧ xs[j * 3 + 2]? = some (.int .i64 e) ∧ NumC w (.agg #[.bool n, .slice o l c, .int .i64 e]) E 1024 (fval (us[j]?.getD 0))
  cl : ∀ g, v.ownBlock = some g → Cl noU w g
theorem RowN.nil (w : World) (base E : Nat) : RowN w base (.slice none 0 0) E [] := ⟨⟨[], World.ownsRow_nil _ _ _ _, fun j hj => absurd hj (Nat.not_lt_zero _)⟩, fun g hg => by cases hg⟩
theorem Cl.later {p : Value → Bool} {w w' : World} {g : Nat} (h : Cl p w g) (hb : Below w.heap.size w w') : Cl p w' g := by
  obtain ⟨cur, t, h1, h2⟩ := h
  exact ⟨cur, t, (hb.block g (blk_lt h1)).trans h1, h2⟩
theorem RowN.later {w w' : World} {base E : Nat} {v : Value} {us : List Nat} (h : RowN w base v E us) (hb : Below w.heap.size w w') : RowN w' base v E us := by
  obtain ⟨xs, h1, h2⟩ := h.own
  exact ⟨⟨xs, owns_keep h1 fun k hk => hb.block k (World.ownsRow.lt h1 k hk).2, fun j hj => by obtain ⟨n, o, l, c, e, a1, a2, a3, a4⟩ := h2 j hj; exact ⟨n, o, l, c, e, a1, a2, a3, a4.later hb⟩⟩, fun g hg => (h.cl g hg).later hb⟩
theorem RowN.mono {w : World} {base base' E : Nat} {v : Value} {us : List Nat} (h : RowN w base v E us) (hb : base' ≤ base) : RowN w base' v E us := by
  obtain ⟨xs, h1, h2⟩ := h.own
  exact ⟨⟨xs, owns_monoJ h1 hb, h2⟩, h.cl⟩
/-- One more real. -/
theorem RowN.push {w w' : World} {base E : Nat} {v v' : Value} {us : List Nat} {u : Nat} {n : Bool} {o : Option Addr} {l c : Nat} {e : Int} {xs : List Value} (hx : w.ownsRow base 60 3 v us.length xs) (h2 : ∀ j, j < us.length → ∃ n o l c e, xs[j * 3]? = some (.bool n) ∧ xs[j * 3 + 1]? = some (.slice o l c) ∧ xs[j * 3 + 2]? = some (.int .i64 e) ∧ NumC w (.agg #[.bool n, .slice o l c, .int .i64 e]) E 1024 (fval (us[j]?.getD 0)))
    (hcl : ∀ g, v.ownBlock = some g → Cl noU w g) (hn : NumC w (.agg #[.bool n, .slice o l c, .int .i64 e]) E 1024 (fval u)) (ho : w'.ownsRow base 60 3 v' (us.length + 1) (xs ++ [.bool n, .slice o l c, .int .i64 e])) (hg : Grw w w' v.ownBlock v'.ownBlock) (hcl' : ∀ g, v'.ownBlock = some g → Cl noU w' g) : RowN w' base v' E (us ++ [u]) := by
  have keep : ∀ (y : Value) (z : Int), NumC w y E 1024 z → NumC w' y E 1024 z := fun y z hy => by
    cases hv : v.ownBlock with
    | none => exact hy.later ⟨hg.by'.os, hg.by'.tape, hg.by'.output, hg.by'.size, fun k hk => hg.by'.block k hk (by rw [hv]; simp)⟩
    | some g => exact hy.cl (hcl g hv) fun b hb hlt => hg.by'.block b hlt (by rw [hv]; intro e; cases e; exact hb rfl)
  have hl : xs.length = us.length * 3 := hx.1
  refine ⟨⟨_, by simpa using ho, fun j hj => ?_⟩, hcl'⟩
  by_cases ej : j < us.length
  · obtain ⟨n1, o1, l1, c1, e1, a1, a2, a3, a4⟩ := h2 j ej
    refine ⟨n1, o1, l1, c1, e1, ?_, ?_, ?_, ?_⟩
    · rw [List.getElem?_append_left (by omega)]; exact a1
    · rw [List.getElem?_append_left (by omega)]; exact a2
    · rw [List.getElem?_append_left (by omega)]; exact a3
    · rw [List.getElem?_append_left ej]; exact keep _ _ a4
  · have e2 : j = us.length := by simp at hj; omega
    subst e2
    refine ⟨n, o, l, c, e, ?_, ?_, ?_, ?_⟩
    · rw [List.getElem?_append_right (by omega), hl, Nat.sub_self]; rfl
    · rw [List.getElem?_append_right (by omega), hl, show us.length * 3 + 1 - us.length * 3 = 1 by omega]; rfl
    · rw [List.getElem?_append_right (by omega), hl, show us.length * 3 + 2 - us.length * 3 = 2 by omega]; rfl
    · rw [List.getElem?_append_right (Nat.le_refl _), Nat.sub_self]; exact keep _ _ hn
theorem news_threeJ {W : World} {I : Nat} {x y z : Value} {E : TypeId} (h : W.heap[I]? = some (.cells #[x, y, z] E)) : ∀ j u, [x, y, z][j]? = some u → W.cell? ((⟨I, 0, none⟩ : Addr).add j) = some u := by
  intro j u hj
  match j, hj with
  | 0, hj => cases hj; rw [Addr.add_lit, cell_of_row _ I _ _ _ _ h]; rfl
  | 1, hj => cases hj; rw [Addr.add_lit, cell_of_row _ I _ _ _ _ h]; rfl
  | 2, hj => cases hj; rw [Addr.add_lit, cell_of_row _ I _ _ _ _ h]; rfl
theorem three_one (n : Bool) (o : Option Addr) (l c : Nat) (e : Int) : ∀ u ∈ [Value.bool n, .slice o l c, .int .i64 e], u.oneCell' = true := by
  intro u hu
  simp only [List.mem_cons, List.not_mem_nil, or_false] at hu
  rcases hu with rfl | rfl | rfl <;> rfl
theorem three_noU (n : Bool) (o : Option Addr) (l c : Nat) (e : Int) : ∀ u ∈ [Value.bool n, .slice o l c, .int .i64 e], noU u = true := by
  intro u hu
  simp only [List.mem_cons, List.not_mem_nil, or_false] at hu
  rcases hu with rfl | rfl | rfl <;> rfl
theorem zero_noU : ∀ v ∈ (Value.agg #[.bool false, .slice none 0 0, .int .i64 0]).cells, noU v = true := by
  intro v hv
  have : v ∈ (#[.bool false, .slice none 0 0, .int .i64 0] : Array Value) := hv
  simp only [List.mem_toArray, List.mem_cons, List.not_mem_nil, or_false] at this
  rcases this with rfl | rfl | rfl <;> rfl
set_option maxRecDepth 100000 in
set_option maxHeartbeats 3000000 in
/-- The document's numbers. -/
theorem numbers10_any (ao : Option Addr) (len cap : Nat) (us : List Nat) (n : Int) (E : Nat) (hE : E = 1074) (w : World) (h : RdUs w ao len cap us) (hlt : ∀ u ∈ us, u < 18446744073709551616) (hl : len ≤ 1050000) :
    Calls Try.prog 40 #[.slice ao len cap, .int .i64 n] w fun e w' => (∃ v, e = .returned (.tuple #[v, .bool (numN us n)]) ∧ (numN us n = true → RowN w' w.heap.size v E us)) ∧ Below w.heap.size w w' := by
  have HR : Hid _ := h
  have hln := h.length
  have HLT : Hid _ := hlt
  clear h hlt
  by_cases hn : (len : Int) = n
  · subst hn
    have HE : Hid (numN us (len : Int) = numsB us) := by unfold Hid numN; rw [hln, decide_eq_true rfl, Bool.true_and]
    obtain ⟨nn, hnn⟩ : ∃ nn, numN us (len : Int) = nn := ⟨_, rfl⟩
    rw [hnn] at HE ⊢
    have HLN : Hid (us.length = len) := hln
    clear hln hnn
    go_enter Try.func40, Try.ntmps40
    go_wp2_with fail
    go_loopg [6, 7] len (fun g v iv wx => ∃ k : Nat, iv = .int .i64 k ∧ k + g = len ∧ Hid (RowN wx w.heap.size v E (us.take k)) ∧ Hid (Below w.heap.size w wx) ∧ Hid (nn = numsB (us.drop k)))
    case atStart => exact ⟨0, rfl, by omega, RowN.nil _ _ _, Below.refl _ _, HE.out⟩
    case round =>
      obtain ⟨k, rfl, hk, HO, HB, HD⟩ := hrel
      clear HE
      have hsr := HB.out.size
      by_cases hlt : k < len
      · have hd : decide ((k : Int) < (len : Int)) = true := decide_eq_true (by omega)
        obtain ⟨g, rfl⟩ : ∃ g, gk = g + 1 := ⟨gk - 1, by omega⟩
        have HIG : Hid _ := hk
        rcases (HR.out.later HB.out).cells with h0 | ⟨ab, aoff, rfl, hca⟩
        · omega
        have ga := hca k hlt
        have hkl : k < us.length := by rw [HLN.out]; exact hlt
        have hux := HLT.out _ (getD_mem (us := us) (j := k) hkl)
        have HTS : Hid _ := take_snocJ (us := us) (k := k) hkl
        have HDS : Hid _ := numsB_drop us hkl
        obtain ⟨x, hx⟩ : ∃ x, us[k]?.getD 0 = x := ⟨_, rfl⟩
        rw [hx] at ga hux HTS HDS
        have HOF : Hid _ := ofC_any x hux wr E hE
        clear hca hx hk hkl
        go_upto_region 8 with (first
          | (go_at_call 23; refine Calls.mono HOF.out ?_; rintro e w1 ⟨v1, rfl, ⟨z1, hz1, hv1⟩, b1⟩; obtain ⟨n1, m1, e1, ⟨o1, l1, c1, xs1, rfl, hr1⟩, hr2⟩ := id hz1; clear hr1 hr2))
        have N1 : Hid (NumC w1 (.agg #[.bool n1, .slice o1 l1 c1, .int .i64 e1]) E 1024 z1 ∧ (Fin x → z1 = fval x)) := ⟨hz1, hv1⟩
        clear hz1 hv1 HOF
        have B1 : Hid (Below wr.heap.size wr w1) := b1
        have s1 := b1.size
        clear b1
        by_cases hf : Fin x
        · have hfd : decide (Fin x) = true := decide_eq_true hf
          rw [hfd] at HDS ⊢
          have HF : Hid _ := hf
          clear hf hfd
          obtain ⟨xs, hxo, hxj⟩ := (HO.out.later B1.out).own
          have HXO : Hid _ := hxo
          have HXJ : Hid _ := hxj
          have hxl : (us.take k).length = k := by rw [List.length_take, HLN.out]; omega
          rw [hxl] at hxo
          have HX2 : Hid _ := hxo
          clear hxo hxj
          have HC2 : Hid (∀ g, u6.ownBlock = some g → Cl noU ((w1.alloc (.cells #[.bool n1, .slice o1 l1 c1, .int .i64 e1] 60)).alloc (.cells #[.bool n1, .slice o1 l1 c1, .int .i64 e1] 60)) g) := fun g hg => ((HO.out.cl g hg).later B1.out).later (((Below.refl _ w1).alloc (Nat.le_refl _) _).alloc (by simp only [alloc_size]; omega) _)
          go_wp2_with (first
            | (at_builtin; refine append_clJ noU Try.underlying50 Try.infoNumJ rfl (by decide) (by decide) zero_noU _ (by rfl) _ _ (by rfl) w.heap.size _ k xs (by rfl) (World.ownsRow.alloc (World.ownsRow.alloc HX2.out _) _) HC2.out ⟨w1.heap.size + 1, 0, none⟩ 1 1 [.bool n1, .slice o1 l1 c1, .int .i64 e1] (by rfl) (by decide) rfl (news_threeJ (heap_at _ _ (w1.heap.size + 1) (by simp only [alloc_size]))) (three_one n1 o1 l1 c1 e1) (three_noU n1 o1 l1 c1 e1) (by omega) (by simp only [alloc_size]; omega) ?_; intro v5 w5 o5 g5 cl5))
          have A1 : Below w1.heap.size w1 ((w1.alloc (.cells #[.bool n1, .slice o1 l1 c1, .int .i64 e1] 60)).alloc (.cells #[.bool n1, .slice o1 l1 c1, .int .i64 e1] 60)) := ((Below.refl _ w1).alloc (Nat.le_refl _) _).alloc (by simp only [alloc_size]; omega) _
          have R5 : Hid (RowN w5 w.heap.size v5 E (us.take k ++ [x])) := by
            have hz := N1.out.2 HF.out
            have h3 := (HO.out.later B1.out).later A1
            obtain ⟨xs', hx', hj'⟩ := h3.own
            refine RowN.push (xs := xs) (by rw [hxl]; exact World.ownsRow.alloc (World.ownsRow.alloc HX2.out _) _) (fun j hj => ?_) HC2.out (hz ▸ N1.out.1.later A1) (by rw [hxl]; exact o5) g5 cl5
            obtain ⟨n2, o2, l2, c2, e2, a1, a2, a3, a4⟩ := HXJ.out j hj
            exact ⟨n2, o2, l2, c2, e2, a1, a2, a3, a4.later A1⟩
          have B5 : Hid (Below w.heap.size w w5) := (to_call (to_call HB.out B1.out) A1).trans (g5.below (fun k hk => (World.ownsRow.lt HX2.out k hk).1) (by simp only [alloc_size]; omega))
          clear o5 g5 cl5 A1 HC2 HX2 HXO HXJ
          go_roundg g
          case measure => omega
          case rel => exact ⟨k + 1, by go_num, by have := HIG.out; omega, by unfold Hid; rw [HTS.out]; exact R5.out, B5, by unfold Hid; rw [HD.out, HDS.out, Bool.true_and]⟩
        · have hfd : decide (Fin x) = false := decide_eq_false hf
          rw [hfd] at HDS ⊢
          have HN0 : Hid (nn = false) := by unfold Hid; rw [HD.out, HDS.out, Bool.false_and]
          have HB9 : Hid (Below w.heap.size w (w1.alloc (.cells #[.bool n1, .slice o1 l1 c1, .int .i64 e1] 60))) := (to_call HB.out B1.out).alloc (to_call HB.out B1.out).size _
          clear hf hfd
          go_wp2_with fail
          refine bodyPost_ret (results_tmp2 rfl _ _ _) rfl ?_
          exact ⟨⟨_, by rw [HN0.out]; rfl, fun h => by rw [HN0.out] at h; cases h⟩, HB9.out⟩
      · have hd : decide ((k : Int) < (len : Int)) = false := decide_eq_false (by omega)
        have HO2 : Hid (RowN wr w.heap.size u6 E us) := by
          have := HO.out
          rw [List.take_of_length_le (by rw [HLN.out]; omega)] at this
          exact this
        have HN1 : Hid (nn = true) := by unfold Hid; rw [HD.out, List.drop_eq_nil_of_le (by rw [HLN.out]; omega)]; rfl
        go_wp2_with fail
        refine bodyPost_ret (results_tmp2 rfl _ _ _) rfl ?_
        exact ⟨⟨_, by rw [HN1.out]; rfl, fun _ => HO2.out⟩, HB.out⟩
  · have HE : Hid (numN us n = false) := by unfold Hid numN; rw [hln, decide_eq_false hn, Bool.false_and]
    have hb : ((len : Int) != n) = true := by simpa using hn
    have hb2 : ((len : Int) == n) = false := by simpa using hn
    go_enter Try.func40, Try.ntmps40
    go_wp2_with fail
    refine bodyPost_ret (results_tmp2 rfl _ _ _) rfl ?_
    exact ⟨⟨_, by rw [HE.out]; rfl, fun h => by rw [HE.out] at h; cases h⟩, Below.refl _ _⟩
end Go.Proofs.Ytbjnkefjlaplkaa

namespace Go.Proofs.Ytbjnkefjlaplkaa
open Go.RowKit Go.Shelf
set_option linter.unusedVariables false
set_option linter.unusedSimpArgs false

theorem NumC.grw {w w' : World} {v v' y : Value} {s : Nat} {T z : Int} (h : NumC w y s T z) (hg : Grw w w' v.ownBlock v'.ownBlock) (hcl : ∀ g, v.ownBlock = some g → Cl noU w g) : NumC w' y s T z := by
  cases hv : v.ownBlock with
  | none => exact h.later ⟨hg.by'.os, hg.by'.tape, hg.by'.output, hg.by'.size, fun k hk => hg.by'.block k hk (by rw [hv]; simp)⟩
  | some g => exact h.cl (hcl g hv) fun b hb hlt => hg.by'.block b hlt (by rw [hv]; intro e; cases e; exact hb rfl)
theorem Cl.same {p : Value → Bool} {w w' : World} {g : Nat} (h : Cl p w g) (hb : w'.heap[g]? = w.heap[g]?) : Cl p w' g := by
  obtain ⟨cur, t, h1, h2⟩ := h
  exact ⟨cur, t, hb.trans h1, h2⟩
/-- A row of reals stays when a row of other things is lengthened. -/
theorem RowN.grw {w w' : World} {base base' E size n : Nat} {t : TypeId} {u v v' : Value} {us : List Nat} {xs : List Value} (h : RowN w base u E us) (ht : t ≠ 60) (ho : w.ownsRow base' t size v n xs) (hg : Grw w w' v.ownBlock v'.ownBlock) (hcl : ∀ g, v.ownBlock = some g → Cl noU w g) : RowN w' base u E us := by
  obtain ⟨ys, h1, h2⟩ := h.own
  have hk := grw_types ho hg
  refine ⟨⟨ys, owns_keepT h1 fun k cur hc => hk k cur _ (fun e => ht e.symm) hc, fun j hj => ?_⟩, fun g hgu => ?_⟩
  · obtain ⟨a, b, c, d, e, a1, a2, a3, a4⟩ := h2 j hj
    exact ⟨a, b, c, d, e, a1, a2, a3, a4.grw hg hcl⟩
  · obtain ⟨cur, hc⟩ := owns_type h1 hgu
    exact (h.cl g hgu).same (hk g cur _ (fun e => ht e.symm) hc)
/-- It stays when one clean block of another type is written. -/
theorem RowN.box {w w' : World} {base E B : Nat} {t : TypeId} {cur : Array Value} {u : Value} {us : List Nat} (h : RowN w base u E us) (ht : t ≠ 60) (hB : w.heap[B]? = some (.cells cur t)) (hcl : Cl noU w B) (hk : ∀ k, k ≠ B → w'.heap[k]? = w.heap[k]?) : RowN w' base u E us := by
  obtain ⟨ys, h1, h2⟩ := h.own
  have hne : ∀ (k : Nat) (c : Array Value), w.heap[k]? = some (.cells c 60) → w'.heap[k]? = w.heap[k]? := fun k c hc => hk k (by rintro rfl; rw [hB] at hc; cases hc; exact ht rfl)
  refine ⟨⟨ys, owns_keepT h1 hne, fun j hj => ?_⟩, fun g hgu => ?_⟩
  · obtain ⟨a, b, c, d, e, a1, a2, a3, a4⟩ := h2 j hj
    exact ⟨a, b, c, d, e, a1, a2, a3, a4.cl hcl fun b hb _ => hk b hb⟩
  · obtain ⟨cur', hc⟩ := owns_type h1 hgu
    exact (h.cl g hgu).same (hne g cur' hc)
/-- The lists of the document's reals of a zonotope. -/
structure RlS (w : World) (base E : Nat) (cs rs : List Nat) (ids : List Int) (gs : List (List Nat)) (vc vr vi vg : Value) (gl : List Value) : Prop where
  c : RowN w base vc E cs
  r : RowN w base vr E rs
  i : w.ownsRow base 3 1 vi ids.length (ids.map (Value.int .i64))
  icl : ∀ g, vi.ownBlock = some g → Cl noU w g
  g : w.ownsRow base 50 1 vg gl.length gl
  gcl : ∀ g, vg.ownBlock = some g → Cl noU w g
  len : gl.length = gs.length
  col : ∀ (j : Nat) (u : Value), gl[j]? = some u → RowN w base u E (gs[j]?.getD [])
theorem RlS.later {w w' : World} {base E : Nat} {cs rs : List Nat} {ids : List Int} {gs : List (List Nat)} {vc vr vi vg : Value} {gl : List Value} (h : RlS w base E cs rs ids gs vc vr vi vg gl) (hb : Below w.heap.size w w') : RlS w' base E cs rs ids gs vc vr vi vg gl :=
  ⟨h.c.later hb, h.r.later hb, owns_keepT h.i fun k cur hc => hb.block k (blk_lt hc), fun g hg => (h.icl g hg).later hb, owns_keepT h.g fun k cur hc => hb.block k (blk_lt hc), fun g hg => (h.gcl g hg).later hb, h.len, fun j u hj => (h.col j u hj).later hb⟩
theorem RlS.box {w w' : World} {base E B : Nat} {t : TypeId} {cur : Array Value} {cs rs : List Nat} {ids : List Int} {gs : List (List Nat)} {vc vr vi vg : Value} {gl : List Value} (h : RlS w base E cs rs ids gs vc vr vi vg gl) (h1 : t ≠ 60) (h2 : t ≠ 3) (h3 : t ≠ 50) (hB : w.heap[B]? = some (.cells cur t)) (hcl : Cl noU w B) (hk : ∀ k, k ≠ B → w'.heap[k]? = w.heap[k]?) : RlS w' base E cs rs ids gs vc vr vi vg gl := by
  have ki : ∀ (k : Nat) (c : Array Value), w.heap[k]? = some (.cells c 3) → w'.heap[k]? = w.heap[k]? := fun k c hc => hk k (by rintro rfl; rw [hB] at hc; cases hc; exact h2 rfl)
  have kg : ∀ (k : Nat) (c : Array Value), w.heap[k]? = some (.cells c 50) → w'.heap[k]? = w.heap[k]? := fun k c hc => hk k (by rintro rfl; rw [hB] at hc; cases hc; exact h3 rfl)
  exact ⟨h.c.box h1 hB hcl hk, h.r.box h1 hB hcl hk, owns_keepT h.i ki, fun g hg => by obtain ⟨c, hc⟩ := owns_type h.i hg; exact (h.icl g hg).same (ki g c hc), owns_keepT h.g kg, fun g hg => by obtain ⟨c, hc⟩ := owns_type h.g hg; exact (h.gcl g hg).same (kg g c hc), h.len, fun j u hj => (h.col j u hj).box h1 hB hcl hk⟩
theorem RlS.pushI {w w' : World} {base E : Nat} {cs rs : List Nat} {ids is : List Int} {gs : List (List Nat)} {vc vr vi vg vi' : Value} {gl : List Value} (h : RlS w base E cs rs ids gs vc vr vi vg gl) (hg : Grw w w' vi.ownBlock vi'.ownBlock) (ho : w'.ownsRow base 3 1 vi' is.length (is.map (Value.int .i64))) (hcl : ∀ g, vi'.ownBlock = some g → Cl noU w' g) : RlS w' base E cs rs is gs vc vr vi' vg gl := by
  have hk := grw_types h.i hg
  exact ⟨h.c.grw (by decide) h.i hg h.icl, h.r.grw (by decide) h.i hg h.icl, ho, hcl, owns_keepT h.g fun k cur hc => hk k cur _ (by decide) hc, fun g hgg => by obtain ⟨c, hc⟩ := owns_type h.g hgg; exact (h.gcl g hgg).same (hk g c _ (by decide) hc), h.len, fun j u hj => (h.col j u hj).grw (by decide) h.i hg h.icl⟩
theorem RlS.pushG {w w' : World} {base E : Nat} {cs rs us : List Nat} {ids : List Int} {gs : List (List Nat)} {vc vr vi vg vg' v : Value} {gl : List Value} (h : RlS w base E cs rs ids gs vc vr vi vg gl) (hg : Grw w w' vg.ownBlock vg'.ownBlock) (ho : w'.ownsRow base 50 1 vg' (gl.length + 1) (gl ++ [v])) (hcl : ∀ g, vg'.ownBlock = some g → Cl noU w' g) (hv : RowN w base v E us) : RlS w' base E cs rs ids (gs ++ [us]) vc vr vi vg' (gl ++ [v]) := by
  have hk := grw_types h.g hg
  refine ⟨h.c.grw (by decide) h.g hg h.gcl, h.r.grw (by decide) h.g hg h.gcl, owns_keepT h.i fun k cur hc => hk k cur _ (by decide) hc, fun g hgg => by obtain ⟨c, hc⟩ := owns_type h.i hgg; exact (h.icl g hgg).same (hk g c _ (by decide) hc), by simpa using ho, hcl, by simp [h.len], fun j u hj => ?_⟩
  by_cases e : j < gl.length
  · rw [List.getElem?_append_left e] at hj
    rw [List.getElem?_append_left (by rw [← h.len]; exact e)]
    exact (h.col j u hj).grw (by decide) h.g hg h.gcl
  · have hl := (List.getElem?_eq_some_iff.1 hj).1
    have ej : j = gl.length := by simp at hl; omega
    subst ej
    rw [List.getElem?_append_right (Nat.le_refl _), Nat.sub_self, List.getElem?_cons_zero] at hj
    cases hj
    rw [List.getElem?_append_right (by rw [h.len]; exact Nat.le_refl _), h.len, Nat.sub_self, List.getElem?_cons_zero]
    exact hv.grw (by decide) h.g hg h.gcl
/-- What a row of reals reads as. -/
theorem RowN.at {w : World} {base E : Nat} {v : Value} {us : List Nat} (h : RowN w base v E us) {k : Nat} (hk : k < us.length) : ∃ b cap, v = .slice (some ⟨b, 0, none⟩) us.length cap ∧ ∃ n o l c e, w.cell? ⟨b, k * 3, none⟩ = some (.bool n) ∧ w.cell? ⟨b, k * 3 + 1, none⟩ = some (.slice o l c) ∧ w.cell? ⟨b, k * 3 + 2, none⟩ = some (.int .i64 e) ∧ NumC w (.agg #[.bool n, .slice o l c, .int .i64 e]) E 1024 (fval (us[k]?.getD 0)) := by
  obtain ⟨xs, h1, h2⟩ := h.own
  obtain ⟨n, o, l, c, e, a1, a2, a3, a4⟩ := h2 k hk
  have h1' := h1
  rcases h1.2 with ⟨_, h0⟩ | ⟨g, cap, cur, rfl, _⟩
  · omega
  · refine ⟨g, cap, rfl, n, o, l, c, e, ?_, ?_, ?_, a4⟩
    · rw [World.ownsRow.cellAt h1' (k * 3) (by omega)]; exact a1
    · rw [World.ownsRow.cellAt h1' (k * 3 + 1) (by omega)]; exact a2
    · rw [World.ownsRow.cellAt h1' (k * 3 + 2) (by omega)]; exact a3
theorem RowN.form {w : World} {base E : Nat} {v : Value} {us : List Nat} (h : RowN w base v E us) : ∃ ao cap, v = .slice ao us.length cap := by
  obtain ⟨xs, h1, h2⟩ := h.own
  rcases h1.2 with ⟨rfl, h0⟩ | ⟨g, cap, cur, rfl, _⟩
  · exact ⟨none, 0, by rw [h0]⟩
  · exact ⟨_, cap, rfl⟩
/-- The document's Sign of a real. -/
theorem signF_any (v : Value) (E : Nat) (u : Nat) (w : World) (h : NumC w v E 1024 (fval u)) : Calls Try.prog 37 #[v] w fun e' w' => (∃ s : Int, e' = .returned (.int .i64 s) ∧ -1 ≤ s ∧ s ≤ 1 ∧ (s < 0 ↔ srung u < 0) ∧ (s = 0 ↔ srung u = 0)) ∧ Below w.heap.size w w' := by
  obtain ⟨neg, m, e, h1, h2, h3, h4, _⟩ := h
  refine Calls.mono (sign_any v neg m e w h1) ?_
  rintro e' w' ⟨rfl, hb⟩
  refine ⟨⟨_, rfl, ?_⟩, hb⟩
  have hz0 : srung 0 = 0 := by decide
  have hpow : (0 : Int) < ((2 ^ (e + E).toNat : Nat) : Int) := by have := Nat.two_pow_pos (e + E).toNat; omega
  have hneg := srung_neg u
  have hpos := srung_pos u
  rw [← h4] at hneg hpos
  unfold zv sv at hneg hpos
  by_cases hm : m = 0
  · subst hm
    simp at hneg hpos
    simp
    omega
  · have hm' : (0 : Int) < (m : Int) := by omega
    rw [if_neg hm]
    cases neg
    · have hp : (0 : Int) < (m : Int) * ((2 ^ (e + E).toNat : Nat) : Int) := Int.mul_pos hm' hpow
      simp only [Bool.false_eq_true, if_false] at hneg hpos ⊢
      have := hpos.2 hp
      omega
    · have hp : (-(m : Int)) * ((2 ^ (e + E).toNat : Nat) : Int) < 0 := Int.mul_neg_of_neg_of_pos (by omega) hpow
      simp only [if_true] at hneg hpos ⊢
      have := hneg.2 hp
      omega
end Go.Proofs.Ytbjnkefjlaplkaa

namespace Go.Proofs.Ytbjnkefjlaplkaa
open Go.RowKit Go.Shelf
set_option linter.unusedVariables false
set_option linter.unusedSimpArgs false

theorem Try.infoRl : (Try.prog.info? 53).map (·.size) = some 5 := by kernel_rfl
theorem Try.szNs : (Try.prog.info? 50).map (·.size) = some 1 := by kernel_rfl
theorem Try.szNss : (Try.prog.info? 51).map (·.size) = some 1 := by kernel_rfl
theorem oneRl (N : Int) (a b c d : Value) (h1 : a.oneCell' = true) (h2 : b.oneCell' = true) (h3 : c.oneCell' = true) (h4 : d.oneCell' = true) : (#[.int .i64 N, a, b, c, d] : Array Value).all (·.oneCell') = true := by
  simp only [Array.all_eq_true_iff_forall_mem]
  intro v hv
  simp only [List.mem_toArray, List.mem_cons, List.not_mem_nil, or_false] at hv
  rcases hv with rfl | rfl | rfl | rfl | rfl <;> first | rfl | assumption
set_option maxRecDepth 100000 in
set_option maxHeartbeats 4000000 in
theorem reals_no (u : ZD) (E : Nat) (w : World) (h : u.bad = true ∨ u.N < 1 ∨ 256 < u.N ∨ u.dn ≠ u.gn) (hmi : u.dn ≤ 1050000) (hmg : u.gn ≤ 1050000) :
    Calls Try.prog 18 #[.agg (zRow u)] w fun e w' => (∃ N' a1 l1 c1 a2 l2 c2 a3 l3 c3 a4 l4 c4, e = .returned (.tuple #[.agg #[.int .i64 N', .slice a1 l1 c1, .slice a2 l2 c2, .slice a3 l3 c3, .slice a4 l4 c4], .bool (!u.bad && wholeB u)]) ∧ ((!u.bad && wholeB u) = true → N' = u.N ∧ ∃ gl, RlS w' w.heap.size E u.cs u.rs u.ids u.gs (.slice a1 l1 c1) (.slice a4 l4 c4) (.slice a2 l2 c2) (.slice a3 l3 c3) gl)) ∧ Below w.heap.size w w' := by
  have HF : Hid ((!u.bad && wholeB u) = false) := by
    unfold Hid wholeB
    rcases h with h | h | h | h
    · rw [h]; rfl
    · rw [decide_eq_false (p := 1 ≤ u.N) (by omega)]; simp
    · rw [decide_eq_false (p := u.N ≤ 256) (by omega)]; simp
    · rw [decide_eq_false h]; simp
  obtain ⟨okv, hok⟩ : ∃ okv, (!u.bad && wholeB u) = okv := ⟨_, rfl⟩
  rw [hok] at HF ⊢
  clear hok
  obtain ⟨N, co, cn, cc, io, dn, dc, go, gn, gc, ro, rn, rc, bad, cs, ids, gv, gs, rs⟩ := u
  unfold zRow
  dsimp only at h hmi hmg ⊢
  have X0 : Below w.heap.size w ((w.alloc (.cells #[.int .i64 N, .slice co cn cc, .slice io dn dc, .slice go gn gc, .slice ro rn rc, .bool bad] 30)).alloc (.cells #[.int .i64 0, .slice none 0 0, .slice none 0 0, .slice none 0 0, .slice none 0 0] 53)) := ((Below.refl _ w).alloc (Nat.le_refl _) _).alloc (by simp only [alloc_size]; omega) _
  have Y0 : ((w.alloc (.cells #[.int .i64 N, .slice co cn cc, .slice io dn dc, .slice go gn gc, .slice ro rn rc, .bool bad] 30)).alloc (.cells #[.int .i64 0, .slice none 0 0, .slice none 0 0, .slice none 0 0, .slice none 0 0] 53)).heap[w.heap.size]? = some (.cells #[.int .i64 N, .slice co cn cc, .slice io dn dc, .slice go gn gc, .slice ro rn rc, .bool bad] 30) := alloc_kept (heap_alloc_new w _) _
  have Y1 : ((w.alloc (.cells #[.int .i64 N, .slice co cn cc, .slice io dn dc, .slice go gn gc, .slice ro rn rc, .bool bad] 30)).alloc (.cells #[.int .i64 0, .slice none 0 0, .slice none 0 0, .slice none 0 0, .slice none 0 0] 53)).heap[w.heap.size + 1]? = some (.cells #[.int .i64 0, .slice none 0 0, .slice none 0 0, .slice none 0 0, .slice none 0 0] 53) := heap_at _ _ (w.heap.size + 1) (by simp only [alloc_size])
  have HK : Hid _ := And.intro X0 Y1
  have H' : Hid _ := h
  clear X0 Y0 Y1 h
  cases bad
  case true =>
    go_enter Try.func18, Try.ntmps18
    go_wp2_with (first | (refine wpList_store_row (by rfl) 53 _ _ (by rfl) w w.heap.size (w.heap.size + 1) #[.int .i64 0, .slice none 0 0, .slice none 0 0, .slice none 0 0, .slice none 0 0] _ (by rfl) (by rfl) HK.out.2 HK.out.1 (Nat.le_succ _) 5 Try.infoRl (by rfl) (by rfl) (oneRl _ _ _ _ _ rfl rfl rfl rfl) ?_; intro W9 e9 b9 s9 o9))
    refine bodyPost_ret (res_ctJ _ 2 3 53 (by kernel_rfl) _ _ (w.heap.size + 1) _ _ (by rfl) (by rfl) _ Try.underlying53 rfl 5 Try.infoRl rfl e9) rfl ?_
    exact ⟨⟨0, none, 0, 0, none, 0, 0, none, 0, 0, none, 0, 0, by rw [HF.out]; rfl, fun h => by rw [HF.out] at h; cases h⟩, b9⟩
  case false =>
  by_cases h1 : N < 1
  · have d1 : decide (N < 1) = true := decide_eq_true h1
    clear h1
    go_enter Try.func18, Try.ntmps18
    go_wp2_with (first | (refine wpList_store_row (by rfl) 53 _ _ (by rfl) w w.heap.size (w.heap.size + 1) #[.int .i64 0, .slice none 0 0, .slice none 0 0, .slice none 0 0, .slice none 0 0] _ (by rfl) (by rfl) HK.out.2 HK.out.1 (Nat.le_succ _) 5 Try.infoRl (by rfl) (by rfl) (oneRl _ _ _ _ _ rfl rfl rfl rfl) ?_; intro W9 e9 b9 s9 o9))
    refine bodyPost_ret (res_ctJ _ 2 3 53 (by kernel_rfl) _ _ (w.heap.size + 1) _ _ (by rfl) (by rfl) _ Try.underlying53 rfl 5 Try.infoRl rfl e9) rfl ?_
    exact ⟨⟨0, none, 0, 0, none, 0, 0, none, 0, 0, none, 0, 0, by rw [HF.out]; rfl, fun h => by rw [HF.out] at h; cases h⟩, b9⟩
  have d1 : decide (N < 1) = false := decide_eq_false h1
  by_cases h2 : 256 < N
  · have d2 : decide (256 < N) = true := decide_eq_true h2
    clear h1 h2
    go_enter Try.func18, Try.ntmps18
    go_wp2_with (first | (refine wpList_store_row (by rfl) 53 _ _ (by rfl) w w.heap.size (w.heap.size + 1) #[.int .i64 0, .slice none 0 0, .slice none 0 0, .slice none 0 0, .slice none 0 0] _ (by rfl) (by rfl) HK.out.2 HK.out.1 (Nat.le_succ _) 5 Try.infoRl (by rfl) (by rfl) (oneRl _ _ _ _ _ rfl rfl rfl rfl) ?_; intro W9 e9 b9 s9 o9))
    refine bodyPost_ret (res_ctJ _ 2 3 53 (by kernel_rfl) _ _ (w.heap.size + 1) _ _ (by rfl) (by rfl) _ Try.underlying53 rfl 5 Try.infoRl rfl e9) rfl ?_
    exact ⟨⟨0, none, 0, 0, none, 0, 0, none, 0, 0, none, 0, 0, by rw [HF.out]; rfl, fun h => by rw [HF.out] at h; cases h⟩, b9⟩
  have d2 : decide (256 < N) = false := decide_eq_false h2
  have hne : dn ≠ gn := by
    rcases H'.out with h | h | h | h
    · cases h
    · omega
    · omega
    · exact h
  have d3 : ((dn : Int) != (gn : Int)) = true := by simp; omega
  have d4 : ((dn : Int) == (gn : Int)) = false := by simp; omega
  have d5 : (dn == gn) = false := by simpa using hne
  clear h1 h2
  go_enter Try.func18, Try.ntmps18
  go_wp2_with (first | (refine wpList_store_row (by rfl) 53 _ _ (by rfl) w w.heap.size (w.heap.size + 1) #[.int .i64 0, .slice none 0 0, .slice none 0 0, .slice none 0 0, .slice none 0 0] _ (by rfl) (by rfl) HK.out.2 HK.out.1 (Nat.le_succ _) 5 Try.infoRl (by rfl) (by rfl) (oneRl _ _ _ _ _ rfl rfl rfl rfl) ?_; intro W9 e9 b9 s9 o9))
  refine bodyPost_ret (res_ctJ _ 2 3 53 (by kernel_rfl) _ _ (w.heap.size + 1) _ _ (by rfl) (by rfl) _ Try.underlying53 rfl 5 Try.infoRl rfl e9) rfl ?_
  exact ⟨⟨0, none, 0, 0, none, 0, 0, none, 0, 0, none, 0, 0, by rw [HF.out]; rfl, fun h => by rw [HF.out] at h; cases h⟩, b9⟩
end Go.Proofs.Ytbjnkefjlaplkaa
