import Derived.ArgAppend
import Derived.Test.YtnjjichanfpbhaaGreatRU
namespace Go.Proofs.YtnjjichanfpbhaaGreat
open Go.RowKit
set_option linter.unusedVariables false

theorem row_cells {W : World} {B : Nat} {C : Array Value} {t : TypeId} (h : W.heap[B]? = some (.cells C t)) : ∀ j u, C[j]? = some u → W.cell? ⟨B, j, none⟩ = some u := fun j u hu => by
  rw [cell_of_row _ _ j _ _ _ h]; exact hu
theorem Tryz.infoNum : (Tryz.prog.info? 61).map (fun i => (i.zero, i.size, i.bytes)) = some (some (.agg #[.bool false, .slice none 0 0, .int .i64 0]), 3, 40) := by kernel_rfl
theorem info_parts' {P : Program} {t : TypeId} {z : Value} {s b : Nat} (h : (P.info? t).map (fun i => (i.zero, i.size, i.bytes)) = some (some z, s, b)) : ∃ i, P.info? t = some i ∧ i.zero = some z ∧ i.size = s ∧ i.bytes = b := by
  cases hi : P.info? t with
  | none => rw [hi] at h; cases h
  | some i => rw [hi] at h; simp at h; exact ⟨i, rfl, h.1, h.2.1, h.2.2⟩
/-- append(s, Num{}) of a full row of two. -/
theorem appendN {ops : Array Oper} {rest : List Oper} {o : Oper} {a : Act} {Q : Exit → Act → World → Prop} (W : World) (hgd : o.guard = none) (s x : Operand)
    (ho : o.op = .call { callee := .builtin .append, args := #[s, x], argTypes := #[69, 69] })
    (n1 : Bool) (o1 : Option Addr) (l1 c1 : Nat) (e1 : Int) (n2 : Bool) (o2 : Option Addr) (l2 c2 : Nat) (e2 : Int) (B P : Nat) (hs : a.eval s = .slice (some ⟨B, 0, none⟩) 2 2) (hB : ∀ j u, #[Value.bool n1, Value.slice o1 l1 c1, Value.int IntKind.i64 e1, Value.bool n2, Value.slice o2 l2 c2, Value.int IntKind.i64 e2][j]? = some u → W.cell? ⟨B, j, none⟩ = some u)
    (hx : a.eval x = .slice (some ⟨P, 0, none⟩) 1 1) (hP : ∀ j u, #[Value.bool false, Value.slice none 0 0, Value.int IntKind.i64 0][j]? = some u → W.cell? ⟨P, j, none⟩ = some u)
    (h : ∀ g cap w', 3 ≤ cap → cap ≤ maxLen → (∀ j u, #[Value.bool n1, Value.slice o1 l1 c1, Value.int IntKind.i64 e1, Value.bool n2, Value.slice o2 l2 c2, Value.int IntKind.i64 e2, Value.bool false, Value.slice none 0 0, Value.int IntKind.i64 0][j]? = some u → w'.cell? ⟨g, j, none⟩ = some u) → Below W.heap.size W w' → wpList Tryz.prog ops Q rest (a.put o.dst (.slice (some ⟨g, 0, none⟩) 3 cap)) w') : wpList Tryz.prog ops Q (o :: rest) a W := by
  obtain ⟨i0, hi, hz0, hz1, hz2⟩ := info_parts' Tryz.infoNum
  refine wpList_append_grows W hgd s x 69 ho 61 i0 _ 3 40 Tryz.underlying69 hi hz0 hz1 hz2 rfl (by decide) (some ⟨B, 0, none⟩) 2 2 [Value.bool n1, Value.slice o1 l1 c1, Value.int IntKind.i64 e1, Value.bool n2, Value.slice o2 l2 c2, Value.int IntKind.i64 e2] hs (fun c => by cases c) rfl ?_ ⟨P, 0, none⟩ 1 1 [Value.bool false, Value.slice none 0 0, Value.int IntKind.i64 0] hx rfl ?_ ?_ (by decide) (by decide) (by decide) ?_
  · intro b hb j u hu
    cases hb
    rw [Addr.add_lit, Nat.zero_add]
    exact hB j u (by rw [← hu]; simp)
  · intro j u hu
    rw [Addr.add_lit, Nat.zero_add]
    exact hP j u (by rw [← hu]; simp)
  · intro u hu
    simp only [List.mem_cons, List.mem_nil_iff, or_false] at hu
    rcases hu with rfl | rfl | rfl <;> rfl
  · intro v' w' hown hgr
    have hb : Below W.heap.size W w' := ⟨hgr.os, hgr.tape, hgr.output, hgr.size, fun k hk => hgr.block k hk (by simp)⟩
    rcases hown.2 with ⟨_, h0⟩ | ⟨g, cap, cur, rfl, hg, hh, hc, hx', hs', ht⟩
    · cases h0
    · refine h g cap w' hc hx' (fun j u hu => ?_) hb
      have hj : j < 9 := by
        have := (Array.getElem?_eq_some_iff.1 hu).1
        simpa using this
      rw [cell_of_row _ g j _ _ _ hh, ← Array.getElem?_toList]
      have e : (cur.toList.take (3 * 3))[j]? = some u := by rw [ht, ← hu]; simp
      rw [List.getElem?_take, if_pos (by omega)] at e
      exact e
theorem ex_bs {P : Program} {ρ : Operand → Value} (o : Oper) (t : TypeId) (n : Nat) (parts : Array (Nat × Operand)) (ho : o.op = .buildSlice t n parts) (vals : Array (Nat × Value)) (hv : (parts.map fun p => (p.1, ρ p.2)) = vals) (v : Value) (w w' : World) (h : (Instr.buildSlice t n vals).run P w = .ok v w') : (execOp ρ o).run P w = .ok (.value v) w' := by
  unfold execOp
  simp only [ho, hv, h, Sem.run_bind, Sem.run_pure, Result.andThen_ok]
theorem bsN2 (na : Bool) (oa : Option Addr) (la ca : Nat) (ea : Int) (nb : Bool) (ob : Option Addr) (lb cb : Nat) (eb : Int) (w : World) : (Instr.buildSlice 69 2 #[(0, (Value.agg #[Value.bool na, Value.slice oa la ca, Value.int IntKind.i64 ea])), (1, (Value.agg #[Value.bool nb, Value.slice ob lb cb, Value.int IntKind.i64 eb]))]).run Tryz.prog w = .ok (.slice (some ⟨w.heap.size, 0, none⟩) 2 2) (w.alloc (.cells #[Value.bool na, Value.slice oa la ca, Value.int IntKind.i64 ea, Value.bool nb, Value.slice ob lb cb, Value.int IntKind.i64 eb] 61)) := by kernel_rfl
theorem bsN4 (na : Bool) (oa : Option Addr) (la ca : Nat) (ea : Int) (nb : Bool) (ob : Option Addr) (lb cb : Nat) (eb : Int) (nc : Bool) (oc : Option Addr) (lc cc : Nat) (ec : Int) (nd : Bool) (od : Option Addr) (ld cd : Nat) (ed : Int) (w : World) : (Instr.buildSlice 69 4 #[(0, (Value.agg #[Value.bool na, Value.slice oa la ca, Value.int IntKind.i64 ea])), (1, (Value.agg #[Value.bool nb, Value.slice ob lb cb, Value.int IntKind.i64 eb])), (2, (Value.agg #[Value.bool nc, Value.slice oc lc cc, Value.int IntKind.i64 ec])), (3, (Value.agg #[Value.bool nd, Value.slice od ld cd, Value.int IntKind.i64 ed]))]).run Tryz.prog w = .ok (.slice (some ⟨w.heap.size, 0, none⟩) 4 4) (w.alloc (.cells #[Value.bool na, Value.slice oa la ca, Value.int IntKind.i64 ea, Value.bool nb, Value.slice ob lb cb, Value.int IntKind.i64 eb, Value.bool nc, Value.slice oc lc cc, Value.int IntKind.i64 ec, Value.bool nd, Value.slice od ld cd, Value.int IntKind.i64 ed] 61)) := by kernel_rfl
theorem rdm2 {w : World} {B s : Nat} {T za zb : Int} {na : Bool} {oa : Option Addr} {la ca : Nat} {ea : Int} {nb : Bool} {ob : Option Addr} {lb cb : Nat} {eb : Int} (h : ∀ j u, #[Value.bool na, Value.slice oa la ca, Value.int IntKind.i64 ea, Value.bool nb, Value.slice ob lb cb, Value.int IntKind.i64 eb][j]? = some u → w.cell? ⟨B, j, none⟩ = some u) (ha : NumZ w (Value.agg #[Value.bool na, Value.slice oa la ca, Value.int IntKind.i64 ea]) s T za) (hb : NumZ w (Value.agg #[Value.bool nb, Value.slice ob lb cb, Value.int IntKind.i64 eb]) s T zb) : RdM w B 0 2 s T (fun j => if j = 0 then za else zb) := by
  intro j hj
  match j, hj with
  | 0, _ => exact ⟨na, oa, la, ca, ea, ⟨h _ _ rfl, h _ _ rfl, h _ _ rfl⟩, ha⟩
  | 1, _ => exact ⟨nb, ob, lb, cb, eb, ⟨h _ _ rfl, h _ _ rfl, h _ _ rfl⟩, hb⟩
theorem rdm3 {w : World} {B s : Nat} {T za zb zc : Int} {na : Bool} {oa : Option Addr} {la ca : Nat} {ea : Int} {nb : Bool} {ob : Option Addr} {lb cb : Nat} {eb : Int} {nc : Bool} {oc : Option Addr} {lc cc : Nat} {ec : Int} (h : ∀ j u, #[Value.bool na, Value.slice oa la ca, Value.int IntKind.i64 ea, Value.bool nb, Value.slice ob lb cb, Value.int IntKind.i64 eb, Value.bool nc, Value.slice oc lc cc, Value.int IntKind.i64 ec][j]? = some u → w.cell? ⟨B, j, none⟩ = some u) (ha : NumZ w (Value.agg #[Value.bool na, Value.slice oa la ca, Value.int IntKind.i64 ea]) s T za) (hb : NumZ w (Value.agg #[Value.bool nb, Value.slice ob lb cb, Value.int IntKind.i64 eb]) s T zb) (hc : NumZ w (Value.agg #[Value.bool nc, Value.slice oc lc cc, Value.int IntKind.i64 ec]) s T zc) : RdM w B 0 3 s T (fun j => if j = 0 then za else if j = 1 then zb else zc) := by
  intro j hj
  match j, hj with
  | 0, _ => exact ⟨na, oa, la, ca, ea, ⟨h _ _ rfl, h _ _ rfl, h _ _ rfl⟩, ha⟩
  | 1, _ => exact ⟨nb, ob, lb, cb, eb, ⟨h _ _ rfl, h _ _ rfl, h _ _ rfl⟩, hb⟩
  | 2, _ => exact ⟨nc, oc, lc, cc, ec, ⟨h _ _ rfl, h _ _ rfl, h _ _ rfl⟩, hc⟩
theorem rdm4 {w : World} {B s : Nat} {T za zb zc zd : Int} {na : Bool} {oa : Option Addr} {la ca : Nat} {ea : Int} {nb : Bool} {ob : Option Addr} {lb cb : Nat} {eb : Int} {nc : Bool} {oc : Option Addr} {lc cc : Nat} {ec : Int} {nd : Bool} {od : Option Addr} {ld cd : Nat} {ed : Int} (h : ∀ j u, #[Value.bool na, Value.slice oa la ca, Value.int IntKind.i64 ea, Value.bool nb, Value.slice ob lb cb, Value.int IntKind.i64 eb, Value.bool nc, Value.slice oc lc cc, Value.int IntKind.i64 ec, Value.bool nd, Value.slice od ld cd, Value.int IntKind.i64 ed][j]? = some u → w.cell? ⟨B, j, none⟩ = some u) (ha : NumZ w (Value.agg #[Value.bool na, Value.slice oa la ca, Value.int IntKind.i64 ea]) s T za) (hb : NumZ w (Value.agg #[Value.bool nb, Value.slice ob lb cb, Value.int IntKind.i64 eb]) s T zb) (hc : NumZ w (Value.agg #[Value.bool nc, Value.slice oc lc cc, Value.int IntKind.i64 ec]) s T zc) (hd : NumZ w (Value.agg #[Value.bool nd, Value.slice od ld cd, Value.int IntKind.i64 ed]) s T zd) : RdM w B 0 4 s T (fun j => if j = 0 then za else if j = 1 then zb else if j = 2 then zc else zd) := by
  intro j hj
  match j, hj with
  | 0, _ => exact ⟨na, oa, la, ca, ea, ⟨h _ _ rfl, h _ _ rfl, h _ _ rfl⟩, ha⟩
  | 1, _ => exact ⟨nb, ob, lb, cb, eb, ⟨h _ _ rfl, h _ _ rfl, h _ _ rfl⟩, hb⟩
  | 2, _ => exact ⟨nc, oc, lc, cc, ec, ⟨h _ _ rfl, h _ _ rfl, h _ _ rfl⟩, hc⟩
  | 3, _ => exact ⟨nd, od, ld, cd, ed, ⟨h _ _ rfl, h _ _ rfl, h _ _ rfl⟩, hd⟩
set_option maxRecDepth 100000 in
set_option maxHeartbeats 8000000 in
theorem refMul4_any (al ah bl bh : Nat) (ab bb : Bool) (hal : al < 18446744073709551616) (hah : ah < 18446744073709551616) (hbl : bl < 18446744073709551616) (hbh : bh < 18446744073709551616) (w : World) (E : Nat) (hE : E = 1074) :
    Calls Tryz.prog 17 #[.agg #[Value.int .u64 (al : Int), .int .u64 (ah : Int), .bool ab], .agg #[Value.int .u64 (bl : Int), .int .u64 (bh : Int), .bool bb]] w fun e w' => RefAns w (MulR al ah bl bh ab bb E) e w' := by
  obtain ⟨g0, g1, g2, gz, gb⟩ := alloc3_facts w (Obj.cells #[Value.int .u64 (al : Int), .int .u64 (ah : Int), .bool ab] 36) (Obj.cells #[Value.int .u64 (bl : Int), .int .u64 (bh : Int), .bool bb] 36) (Obj.cells #[Value.int .u64 0, .int .u64 0, .bool false] 36)
  have GA : Hid _ := g0
  have GC : Hid _ := g1
  have GR : Hid _ := g2
  have GB : Hid _ := gb
  clear g0 g1 g2 gz gb
  go_enter Tryz.func17, Tryz.ntmps17
  go_upto_region 1 with fail
  generalize (((w.alloc (Obj.cells #[Value.int .u64 (al : Int), .int .u64 (ah : Int), .bool ab] 36)).alloc (Obj.cells #[Value.int .u64 (bl : Int), .int .u64 (bh : Int), .bool bb] 36)).alloc (Obj.cells #[Value.int .u64 0, .int .u64 0, .bool false] 36)) = W0 at GA GC GR GB ⊢
  obtain ⟨a0, a1, a2⟩ := cells3 GA.out
  go_wp2_with fail
  clear a0 a1 a2
  refine Calls.mono (ends_any al ah ab hal hah _ E hE) ?_
  rintro e w1 ⟨v1, u1, rfl, ⟨z1, hz1, hf1⟩, ⟨y1, hy1, hg1⟩, bw⟩
  have Z1 : Hid (NumZ w1 v1 E 1024 z1) := hz1
  have Y1 : Hid (NumZ w1 u1 E 1024 y1) := hy1
  have F1 : Hid (Fin al → z1 = fval al) := hf1
  have H1 : Hid (Fin ah → y1 = fval ah) := hg1
  obtain ⟨nx1, mx1, ex1, ⟨ao1, len1, cap1, xs1, rfl, -⟩, -⟩ := hz1
  obtain ⟨ny1, my1, ey1, ⟨bo1, blen1, bcap1, ys1, rfl, -⟩, -⟩ := hy1
  have GC_1 : Hid _ := (bw.block _ (blk_lt GC.out)).trans GC.out
  have GR_1 : Hid _ := (bw.block _ (blk_lt GR.out)).trans GR.out
  have C_1 : Hid (Below w.heap.size w w1) := GB.out.trans (bw.mono GB.out.size)
  clear bw hf1 hg1 GB GC GR
  obtain ⟨dg, hdg⟩ : ∃ d, decide (Good al ah ab) = d := ⟨_, rfl⟩
  have HDG : Hid _ := hdg
  rw [hdg]
  clear hdg
  go_upto_region 2 with fail
  have HR1 : w.heap.size + 1 + 1 < w1.heap.size := blk_lt GR_1.out
  obtain ⟨k0, k1, -, kb⟩ := alloc2_facts w1 (Obj.cells #[Value.bool nx1, Value.slice ao1 len1 cap1, Value.int IntKind.i64 ex1] 61) (Obj.cells #[Value.bool ny1, Value.slice bo1 blen1 bcap1, Value.int IntKind.i64 ey1] 61)
  have K1x : Hid _ := k0
  have K1y : Hid _ := k1
  have C1' : Hid (Below w.heap.size w ((w1.alloc (Obj.cells #[Value.bool nx1, Value.slice ao1 len1 cap1, Value.int IntKind.i64 ex1] 61)).alloc (Obj.cells #[Value.bool ny1, Value.slice bo1 blen1 bcap1, Value.int IntKind.i64 ey1] 61))) := C_1.out.trans (kb.mono C_1.out.size)
  have GC_1' : Hid _ := (kb.block _ (blk_lt GC_1.out)).trans GC_1.out
  have GR_1' : Hid _ := (kb.block _ (blk_lt GR_1.out)).trans GR_1.out
  have Z1' : Hid _ := NumZ.later Z1.out kb
  have Y1' : Hid _ := NumZ.later Y1.out kb
  clear k0 k1 kb C_1 GC_1 GR_1 Z1 Y1
  generalize ((w1.alloc (Obj.cells #[Value.bool nx1, Value.slice ao1 len1 cap1, Value.int IntKind.i64 ex1] 61)).alloc (Obj.cells #[Value.bool ny1, Value.slice bo1 blen1 bcap1, Value.int IntKind.i64 ey1] 61)) = V1 at K1x K1y C1' GC_1' GR_1' Z1' Y1' ⊢
  obtain ⟨a0, a1, a2⟩ := cells3 GC_1'.out
  go_wp2_with fail
  clear a0 a1 a2
  refine Calls.mono (ends_any bl bh bb hbl hbh _ E hE) ?_
  rintro e w2 ⟨v2, u2, rfl, ⟨z2, hz2, hf2⟩, ⟨y2, hy2, hg2⟩, bw⟩
  have Z2 : Hid (NumZ w2 v2 E 1024 z2) := hz2
  have Y2 : Hid (NumZ w2 u2 E 1024 y2) := hy2
  have F2 : Hid (Fin bl → z2 = fval bl) := hf2
  have H2 : Hid (Fin bh → y2 = fval bh) := hg2
  obtain ⟨nx2, mx2, ex2, ⟨ao2, len2, cap2, xs2, rfl, -⟩, -⟩ := hz2
  obtain ⟨ny2, my2, ey2, ⟨bo2, blen2, bcap2, ys2, rfl, -⟩, -⟩ := hy2
  have K1x_2 : Hid _ := (bw.block _ (blk_lt K1x.out)).trans K1x.out
  have K1y_2 : Hid _ := (bw.block _ (blk_lt K1y.out)).trans K1y.out
  have GR_1'_2 : Hid _ := (bw.block _ (blk_lt GR_1'.out)).trans GR_1'.out
  have Z1'_2 : Hid _ := NumZ.later Z1'.out bw
  have Y1'_2 : Hid _ := NumZ.later Y1'.out bw
  have C_2 : Hid (Below w.heap.size w w2) := C1'.out.trans (bw.mono C1'.out.size)
  clear bw hf2 hg2 C1' K1x K1y GR_1' Z1' Y1'
  obtain ⟨df, hdf⟩ : ∃ d, decide (Good bl bh bb) = d := ⟨_, rfl⟩
  have HDF : Hid _ := hdf
  rw [hdf]
  clear hdf
  go_upto_region 3 with fail
  have HR2 : w.heap.size + 1 + 1 < w2.heap.size := blk_lt GR_1'_2.out
  obtain ⟨k0, k1, -, kb⟩ := alloc2_facts w2 (Obj.cells #[Value.bool nx2, Value.slice ao2 len2 cap2, Value.int IntKind.i64 ex2] 61) (Obj.cells #[Value.bool ny2, Value.slice bo2 blen2 bcap2, Value.int IntKind.i64 ey2] 61)
  have K2x : Hid _ := k0
  have K2y : Hid _ := k1
  have C2' : Hid (Below w.heap.size w ((w2.alloc (Obj.cells #[Value.bool nx2, Value.slice ao2 len2 cap2, Value.int IntKind.i64 ex2] 61)).alloc (Obj.cells #[Value.bool ny2, Value.slice bo2 blen2 bcap2, Value.int IntKind.i64 ey2] 61))) := C_2.out.trans (kb.mono C_2.out.size)
  have K1x_2' : Hid _ := (kb.block _ (blk_lt K1x_2.out)).trans K1x_2.out
  have K1y_2' : Hid _ := (kb.block _ (blk_lt K1y_2.out)).trans K1y_2.out
  have GR_1'_2' : Hid _ := (kb.block _ (blk_lt GR_1'_2.out)).trans GR_1'_2.out
  have Z1'_2' : Hid _ := NumZ.later Z1'_2.out kb
  have Y1'_2' : Hid _ := NumZ.later Y1'_2.out kb
  have Z2' : Hid _ := NumZ.later Z2.out kb
  have Y2' : Hid _ := NumZ.later Y2.out kb
  clear k0 k1 kb C_2 K1x_2 K1y_2 GR_1'_2 Z1'_2 Y1'_2 Z2 Y2
  generalize ((w2.alloc (Obj.cells #[Value.bool nx2, Value.slice ao2 len2 cap2, Value.int IntKind.i64 ex2] 61)).alloc (Obj.cells #[Value.bool ny2, Value.slice bo2 blen2 bcap2, Value.int IntKind.i64 ey2] 61)) = V2 at K2x K2y C2' K1x_2' K1y_2' GR_1'_2' Z1'_2' Y1'_2' Z2' Y2' ⊢
  by_cases hg : Good al ah ab ∧ Good bl bh bb
  · have HZ : Hid ((z1 = fval al ∧ y1 = fval ah) ∧ z2 = fval bl ∧ y2 = fval bh) := ⟨⟨F1.out hg.1.2.1, H1.out hg.1.2.2.1⟩, F2.out hg.2.2.1, H2.out hg.2.2.2.1⟩
    have HSP : Hid (∀ r, SpR (min4 (z1 * z2) (z1 * y2) (y1 * z2) (y1 * y2)) (max4 (z1 * z2) (z1 * y2) (y1 * z2) (y1 * y2)) (2 ^ E) r → MulR al ah bl bh ab bb E r) := by
      intro r hr
      unfold MulR
      rw [if_pos hg, ← HZ.out.1.1, ← HZ.out.1.2, ← HZ.out.2.1, ← HZ.out.2.2]
      exact hr
    obtain rfl : dg = true := by rw [← HDG.out]; exact decide_eq_true hg.1
    obtain rfl : df = true := by rw [← HDF.out]; exact decide_eq_true hg.2
    clear hg F1 H1 F2 H2 HDG HDF
    go_upto_region 5 with fail
    have hS : ∀ W, Below V2.heap.size V2 W → (W.heap[w1.heap.size]? = some (Obj.cells #[Value.bool nx1, Value.slice ao1 len1 cap1, Value.int IntKind.i64 ex1] 61) ∧ W.heap[w1.heap.size + 1]? = some (Obj.cells #[Value.bool ny1, Value.slice bo1 blen1 bcap1, Value.int IntKind.i64 ey1] 61) ∧ W.heap[w2.heap.size]? = some (Obj.cells #[Value.bool nx2, Value.slice ao2 len2 cap2, Value.int IntKind.i64 ex2] 61) ∧ W.heap[w2.heap.size + 1]? = some (Obj.cells #[Value.bool ny2, Value.slice bo2 blen2 bcap2, Value.int IntKind.i64 ey2] 61)) := fun W h => ⟨keep0 K1x_2'.out h, keep0 K1y_2'.out h, keep0 K2x.out h, keep0 K2y.out h⟩
    refine wp_region_noPanic ?_
    refine wp_region_held_drew (S := fun W => W.heap[w1.heap.size]? = some (Obj.cells #[Value.bool nx1, Value.slice ao1 len1 cap1, Value.int IntKind.i64 ex1] 61) ∧ W.heap[w1.heap.size + 1]? = some (Obj.cells #[Value.bool ny1, Value.slice bo1 blen1 bcap1, Value.int IntKind.i64 ey1] 61) ∧ W.heap[w2.heap.size]? = some (Obj.cells #[Value.bool nx2, Value.slice ao2 len2 cap2, Value.int IntKind.i64 ex2] 61) ∧ W.heap[w2.heap.size + 1]? = some (Obj.cells #[Value.bool ny2, Value.slice bo2 blen2 bcap2, Value.int IntKind.i64 ey2] 61)) (by kernel_rfl) (hS _ (Below.refl _ _).drew) (fun _ => ?_)
    refine takeH 30 (i := 0) (v := (Value.agg #[Value.bool nx1, Value.slice ao1 len1 cap1, Value.int IntKind.i64 ex1])) rfl rfl (by kernel_rfl) (by kernel_rfl) (by kernel_rfl) (fun _ _ _ h => h) (Or.inl ⟨(by kernel_rfl), fun w' hq => ex_load3 _ _ rfl (w1.heap.size) (by kernel_rfl) w' nx1 ao1 len1 cap1 ex1 (cells3 (hq.1))⟩) (hS _ (Below.refl _ _).drew) ?_
    refine takeH 31 (i := 1) (v := (Value.agg #[Value.bool nx2, Value.slice ao2 len2 cap2, Value.int IntKind.i64 ex2])) rfl rfl (by kernel_rfl) (by kernel_rfl) (by kernel_rfl) (fun _ _ _ h => h) (Or.inl ⟨(by kernel_rfl), fun w' hq => ex_load3 _ _ rfl (w2.heap.size) (by kernel_rfl) w' nx2 ao2 len2 cap2 ex2 (cells3 (hq.2.2.1))⟩) (hS _ (Below.refl _ _).drew) ?_
    refine takeH 33 (i := 3) (v := (Value.agg #[Value.bool nx1, Value.slice ao1 len1 cap1, Value.int IntKind.i64 ex1])) rfl rfl (by kernel_rfl) (by kernel_rfl) (by kernel_rfl) (fun _ _ _ h => h) (Or.inl ⟨(by kernel_rfl), fun w' hq => ex_load3 _ _ rfl (w1.heap.size) (by kernel_rfl) w' nx1 ao1 len1 cap1 ex1 (cells3 (hq.1))⟩) (hS _ (Below.refl _ _).drew) ?_
    refine takeH 34 (i := 4) (v := (Value.agg #[Value.bool ny2, Value.slice bo2 blen2 bcap2, Value.int IntKind.i64 ey2])) rfl rfl (by kernel_rfl) (by kernel_rfl) (by kernel_rfl) (fun _ _ _ h => h) (Or.inl ⟨(by kernel_rfl), fun w' hq => ex_load3 _ _ rfl (w2.heap.size + 1) (by kernel_rfl) w' ny2 bo2 blen2 bcap2 ey2 (cells3 (hq.2.2.2))⟩) (hS _ (Below.refl _ _).drew) ?_
    refine takeH 36 (i := 6) (v := (Value.agg #[Value.bool ny1, Value.slice bo1 blen1 bcap1, Value.int IntKind.i64 ey1])) rfl rfl (by kernel_rfl) (by kernel_rfl) (by kernel_rfl) (fun _ _ _ h => h) (Or.inl ⟨(by kernel_rfl), fun w' hq => ex_load3 _ _ rfl (w1.heap.size + 1) (by kernel_rfl) w' ny1 bo1 blen1 bcap1 ey1 (cells3 (hq.2.1))⟩) (hS _ (Below.refl _ _).drew) ?_
    refine takeH 37 (i := 7) (v := (Value.agg #[Value.bool nx2, Value.slice ao2 len2 cap2, Value.int IntKind.i64 ex2])) rfl rfl (by kernel_rfl) (by kernel_rfl) (by kernel_rfl) (fun _ _ _ h => h) (Or.inl ⟨(by kernel_rfl), fun w' hq => ex_load3 _ _ rfl (w2.heap.size) (by kernel_rfl) w' nx2 ao2 len2 cap2 ex2 (cells3 (hq.2.2.1))⟩) (hS _ (Below.refl _ _).drew) ?_
    refine takeH 39 (i := 9) (v := (Value.agg #[Value.bool ny1, Value.slice bo1 blen1 bcap1, Value.int IntKind.i64 ey1])) rfl rfl (by kernel_rfl) (by kernel_rfl) (by kernel_rfl) (fun _ _ _ h => h) (Or.inl ⟨(by kernel_rfl), fun w' hq => ex_load3 _ _ rfl (w1.heap.size + 1) (by kernel_rfl) w' ny1 bo1 blen1 bcap1 ey1 (cells3 (hq.2.1))⟩) (hS _ (Below.refl _ _).drew) ?_
    refine takeH 40 (i := 10) (v := (Value.agg #[Value.bool ny2, Value.slice bo2 blen2 bcap2, Value.int IntKind.i64 ey2])) rfl rfl (by kernel_rfl) (by kernel_rfl) (by kernel_rfl) (fun _ _ _ h => h) (Or.inl ⟨(by kernel_rfl), fun w' hq => ex_load3 _ _ rfl (w2.heap.size + 1) (by kernel_rfl) w' ny2 bo2 blen2 bcap2 ey2 (cells3 (hq.2.2.2))⟩) (hS _ (Below.refl _ _).drew) ?_
    try (simp only [Act.put, List.setIfInBounds_toArray, List.set_cons_zero, List.set_cons_succ])
    refine wpAnyH_ready (rs := [2]) (by kernel_rfl) (by simp) ?_
    refine consH _ rfl ?_ AllReadyH.nil
    refine hopCd 32 rfl (by kernel_rfl) rfl (by kernel_rfl) (Calls.mono (timesZ_any _ _ E 1024 1024 z1 z2 _ (NumZ.later Z1'_2'.out (Below.refl _ _).drew) (NumZ.later Z2'.out (Below.refl _ _).drew) (by omega) (by omega) (by omega)) ?_)
    rintro e m0 ⟨va, rfl, za', g0⟩
    have h0 : Below V2.heap.size V2 m0 := Below.trans ((Below.refl _ _).drew : Below V2.heap.size V2 _) (g0.mono (Below.size ((Below.refl _ _).drew : Below V2.heap.size V2 _)))
    refine ⟨_, rfl, hS _ h0, ?_⟩
    try (simp only [Act.put, List.setIfInBounds_toArray, List.set_cons_zero, List.set_cons_succ])
    refine wpAnyH_ready (rs := [5]) (by kernel_rfl) (by simp) ?_
    refine consH _ rfl ?_ AllReadyH.nil
    refine hopCd 35 rfl (by kernel_rfl) rfl (by kernel_rfl) (Calls.mono (timesZ_any _ _ E 1024 1024 z1 y2 _ (NumZ.later Z1'_2'.out h0) (NumZ.later Y2'.out h0) (by omega) (by omega) (by omega)) ?_)
    rintro e m1 ⟨vb, rfl, zb', g1⟩
    have h1 : Below V2.heap.size V2 m1 := Below.trans (h0 : Below V2.heap.size V2 _) (g1.mono (Below.size (h0 : Below V2.heap.size V2 _)))
    refine ⟨_, rfl, hS _ h1, ?_⟩
    try (simp only [Act.put, List.setIfInBounds_toArray, List.set_cons_zero, List.set_cons_succ])
    refine wpAnyH_ready (rs := [8]) (by kernel_rfl) (by simp) ?_
    refine consH _ rfl ?_ AllReadyH.nil
    refine hopCd 38 rfl (by kernel_rfl) rfl (by kernel_rfl) (Calls.mono (timesZ_any _ _ E 1024 1024 y1 z2 _ (NumZ.later Y1'_2'.out h1) (NumZ.later Z2'.out h1) (by omega) (by omega) (by omega)) ?_)
    rintro e m2 ⟨vc, rfl, zc', g2⟩
    have h2 : Below V2.heap.size V2 m2 := Below.trans (h1 : Below V2.heap.size V2 _) (g2.mono (Below.size (h1 : Below V2.heap.size V2 _)))
    refine ⟨_, rfl, hS _ h2, ?_⟩
    try (simp only [Act.put, List.setIfInBounds_toArray, List.set_cons_zero, List.set_cons_succ])
    refine wpAnyH_ready (rs := [11]) (by kernel_rfl) (by simp) ?_
    refine consH _ rfl ?_ AllReadyH.nil
    refine hopCd 41 rfl (by kernel_rfl) rfl (by kernel_rfl) (Calls.mono (timesZ_any _ _ E 1024 1024 y1 y2 _ (NumZ.later Y1'_2'.out h2) (NumZ.later Y2'.out h2) (by omega) (by omega) (by omega)) ?_)
    rintro e m3 ⟨vd, rfl, zd', g3⟩
    have h3 : Below V2.heap.size V2 m3 := Below.trans (h2 : Below V2.heap.size V2 _) (g3.mono (Below.size (h2 : Below V2.heap.size V2 _)))
    refine ⟨_, rfl, hS _ h3, ?_⟩
    have Qa : NumZ m3 va (E + E) 2048 _ := NumZ.later za' (to_b (to_b g1 g2) g3)
    obtain ⟨na, mma, ea, ⟨oa, la, ca, xxa, rfl, -⟩, -⟩ := za'
    have Qb : NumZ m3 vb (E + E) 2048 _ := NumZ.later zb' (to_b g2 g3)
    obtain ⟨nb, mmb, eb, ⟨ob, lb, cb, xxb, rfl, -⟩, -⟩ := zb'
    have Qc : NumZ m3 vc (E + E) 2048 _ := NumZ.later zc' (g3)
    obtain ⟨nc, mmc, ec, ⟨oc, lc, cc, xxc, rfl, -⟩, -⟩ := zc'
    have Qd : NumZ m3 vd (E + E) 2048 _ := zd'
    obtain ⟨nd, mmd, ed, ⟨od, ld, cd, xxd, rfl, -⟩, -⟩ := zd'
    try (simp only [Act.put, List.setIfInBounds_toArray, List.set_cons_zero, List.set_cons_succ])
    refine wpAnyH_ready (rs := [12]) (by kernel_rfl) (by simp) ?_
    refine consH _ rfl ?_ AllReadyH.nil
    have hA : Below V2.heap.size V2 (m3.alloc (.cells #[Value.bool na, Value.slice oa la ca, Value.int IntKind.i64 ea, Value.bool nb, Value.slice ob lb cb, Value.int IntKind.i64 eb, Value.bool nc, Value.slice oc lc cc, Value.int IntKind.i64 ec, Value.bool nd, Value.slice od ld cd, Value.int IntKind.i64 ed] 61)) := to_b h3 ((Below.refl _ _).alloc (Nat.le_refl _) _)
    refine hopVd 42 rfl (by kernel_rfl) rfl (ex_bs _ _ 4 _ rfl #[(0, (Value.agg #[Value.bool na, Value.slice oa la ca, Value.int IntKind.i64 ea])), (1, (Value.agg #[Value.bool nb, Value.slice ob lb cb, Value.int IntKind.i64 eb])), (2, (Value.agg #[Value.bool nc, Value.slice oc lc cc, Value.int IntKind.i64 ec])), (3, (Value.agg #[Value.bool nd, Value.slice od ld cd, Value.int IntKind.i64 ed]))] (by kernel_rfl) _ _ _ (bsN4 na oa la ca ea nb ob lb cb eb nc oc lc cc ec nd od ld cd ed m3)) ⟨hS _ hA, ?_⟩
    have RDM := rdm4 (row_cells (heap_alloc_new m3 (.cells #[Value.bool na, Value.slice oa la ca, Value.int IntKind.i64 ea, Value.bool nb, Value.slice ob lb cb, Value.int IntKind.i64 eb, Value.bool nc, Value.slice oc lc cc, Value.int IntKind.i64 ec, Value.bool nd, Value.slice od ld cd, Value.int IntKind.i64 ed] 61))) (NumZ.later Qa ((Below.refl _ _).alloc (Nat.le_refl _) _)) (NumZ.later Qb ((Below.refl _ _).alloc (Nat.le_refl _) _)) (NumZ.later Qc ((Below.refl _ _).alloc (Nat.le_refl _) _)) (NumZ.later Qd ((Below.refl _ _).alloc (Nat.le_refl _) _))
    try (simp only [Act.put, List.setIfInBounds_toArray, List.set_cons_zero, List.set_cons_succ])
    refine wpAnyH_ready (rs := [13]) (by kernel_rfl) (by simp) ?_
    refine consH _ rfl ?_ AllReadyH.nil
    refine hopCd 43 rfl (by kernel_rfl) rfl (by kernel_rfl) (Calls.mono (hull_any _ 0 4 4 (E + E) E 2048 _ _ RDM (by omega) (by omega) (by omega) E hE rfl (by omega) (by omega)) ?_)
    rintro e m4 ⟨r, rfl, hr0, g4⟩
    have h4 : Below V2.heap.size V2 m4 := Below.trans (hA : Below V2.heap.size V2 _) (g4.mono (Below.size (hA : Below V2.heap.size V2 _)))
    refine ⟨_, rfl, hS _ h4, ?_⟩
    have hr : SpR (min4 (z1 * z2) (z1 * y2) (y1 * z2) (y1 * y2)) (max4 (z1 * z2) (z1 * y2) (y1 * z2) (y1 * y2)) (2 ^ E) r := by
      have e1 : ∀ A B C D : Int, minZ (fun j => if j = 0 then A else if j = 1 then B else if j = 2 then C else D) 4 = min4 A B C D := fun A B C D => by simp [minZ, min4]
      have e2 : ∀ A B C D : Int, maxZ (fun j => if j = 0 then A else if j = 1 then B else if j = 2 then C else D) 4 = max4 A B C D := fun A B C D => by simp [maxZ, max4]
      rw [e1, e2] at hr0
      exact hr0
    try (simp only [Act.put, List.setIfInBounds_toArray, List.set_cons_zero, List.set_cons_succ])
    refine wpAnyH_ready (rs := [14]) (by kernel_rfl) (by simp) ?_
    refine consH _ rfl ?_ AllReadyH.nil
    refine hopSU rfl rfl rfl _ _ rfl (w.heap.size + 1 + 1) (by kernel_rfl) r.1 r.2.1 r.2.2 (by kernel_rfl) 0 0 false (keep0 GR_1'_2'.out h4) ?_
    intro W9 a9 t9 b9
    refine ⟨⟨(t9 _ (by omega)).trans (keep0 K1x_2'.out h4), (t9 _ (by omega)).trans (keep0 K1y_2'.out h4), (t9 _ (by omega)).trans (keep0 K2x.out h4), (t9 _ (by omega)).trans (keep0 K2y.out h4)⟩, ?_⟩
    refine wpAnyH_done (by kernel_rfl) ?_ _
    refine NoPanic.normal ?_
    try (simp only [Act.put, List.setIfInBounds_toArray, List.set_cons_zero, List.set_cons_succ])
    go_wp2_with fail
    all_goals
      refine bodyPost_ret (v := .agg #[.int .u64 (r.1 : Int), .int .u64 (r.2.1 : Int), .bool r.2.2]) (res_su _ 4 (by kernel_rfl) _ _ (w.heap.size + 1 + 1) _ _ _ ?_ a9) rfl ?_
      · rfl
      · exact ⟨r, rfl, HSP.out r hr, b9 _ _ (Below.trans C2'.out (h4.mono C2'.out.size)) (by omega)⟩
  · have HSP : Hid (MulR al ah bl bh ab bb E (0, 0, true)) := by unfold Hid MulR; rw [if_neg hg]
    have hc : dg = false ∨ (dg = true ∧ df = false) := by
      rw [← HDG.out, ← HDF.out]
      by_cases h1 : Good al ah ab
      · exact .inr ⟨decide_eq_true h1, decide_eq_false fun h2 => hg ⟨h1, h2⟩⟩
      · exact .inl (decide_eq_false h1)
    clear hg F1 H1 F2 H2 HDG HDF
    rcases hc with rfl | ⟨rfl, rfl⟩
    all_goals
      go_wp2_with fail
      refine Calls.mono (refBad_any _) ?_
      rintro e w4 ⟨rfl, bw⟩
      have R4 : Hid _ := (bw.block _ (blk_lt GR_1'_2'.out)).trans GR_1'_2'.out
      have C4 : Hid (Below w.heap.size w w4) := C2'.out.trans (bw.mono C2'.out.size)
      clear bw
      obtain ⟨r0, r1, r2⟩ := cells3 R4.out
      have fz := fun j => frozen_of_row _ _ j _ _ R4.out
      go_wp2_with fail
      refine bodyPost_ret (v := .agg #[.int .u64 0, .int .u64 0, .bool true]) (res_su _ 4 (by kernel_rfl) _ _ (w.heap.size + 1 + 1) _ _ _ ?_ (setsp_heap _ _ _ R4.out)) rfl ?_
      · rfl
      · exact ⟨(0, 0, true), rfl, HSP.out, below_setsp _ _ _ C4.out (by omega)⟩
end Go.Proofs.YtnjjichanfpbhaaGreat
