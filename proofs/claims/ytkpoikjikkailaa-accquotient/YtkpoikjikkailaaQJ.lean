import Derived.Test.YtkpoikjikkailaaQI
import Derived.Test.YtkpoikjikkailaaQH
namespace Go.Proofs.Ytkpoikjikkailaa
open Go.RowKit
set_option linter.unusedVariables false

theorem Below.mk2 {B : Nat} {w0 w1 wr : World} (h : ∀ j, j < B → wr.heap[j]? = w0.heap[j]?) (h1 : Below w1.heap.size w1 wr) (h0 : Below w1.heap.size w1 w0) (hs : w0.heap.size ≤ wr.heap.size) : Below B w0 wr := ⟨h1.os.trans h0.os.symm, h1.tape.trans h0.tape.symm, h1.output.trans h0.output.symm, hs, h⟩
set_option maxRecDepth 100000 in
set_option maxHeartbeats 16000000 in
theorem filled_any (w1 w0 : World) (Bx : Nat) (lo : Option Addr) (lc : Nat) (ts : List TmV) (hBx : w1.heap.size ≤ Bx) (hbel : Below w1.heap.size w1 w0) (hrl : RdT w1 lo ts.length lc (fun j => ts[j]?.getD tmD)) (hot : ∀ t ∈ ts, OkT t) (hlt200 : ts.length ≤ 200) (hax : AccO w0 Bx (some 0)) (E : Nat) (hE : E = 1074) :
    Calls Try.prog 10 #[.pointer (some ⟨Bx, 0, none⟩), .slice lo ts.length lc] w0 fun e w' => ∃ v z, e = .returned v ∧ NumZ w' v (E + (E + 92)) 2220 z ∧ AccO w' Bx (some z) ∧ Chg Bx w0 w' ∧ Below w1.heap.size w1 w' := by
  have HRL : Hid (RdT w1 lo ts.length lc (fun j => ts[j]?.getD tmD)) := hrl
  have OT : Hid (∀ t ∈ ts, OkT t) := hot
  have LT : Hid (ts.length ≤ 200) := hlt200
  have HBX : Hid (w1.heap.size ≤ Bx) := hBx
  have HAX : Hid (AccO w0 Bx (some 0)) := hax
  have HBE : Hid (Below w1.heap.size w1 w0) := hbel
  have hlm := hrl.max
  have hll := hrl.le
  unfold maxLen at hlm
  clear hrl hot hlt200 hBx hax hbel
  go_enter Try.func10, Try.ntmps10
  go_upto_region 2 with fail
  obtain ⟨wz, hwz⟩ : ∃ wz, w0.alloc (Obj.cells #[Value.bool false, Value.slice none 0 0, Value.int IntKind.i64 0] 27) = wz := ⟨_, rfl⟩
  have hz1 : wz.heap.size = w0.heap.size + 1 := by rw [← hwz]; simp
  have hz2 : wz.heap[w0.heap.size]? = some (Obj.cells #[Value.bool false, Value.slice none 0 0, Value.int IntKind.i64 0] 27) := by rw [← hwz]; exact heap_alloc_new w0 _
  have hz3 : Below w0.heap.size w0 wz := by rw [← hwz]; exact (Below.refl _ w0).alloc (Nat.le_refl _) _
  rw [hwz]
  have hb : Below wz.heap.size wz (wz.alloc (Obj.cells #[Value.bool false, Value.slice none 0 0, Value.int IntKind.i64 0] 27)) := (Below.refl _ wz).alloc (Nat.le_refl _) _
  have hb2 : Below w0.heap.size w0 (wz.alloc (Obj.cells #[Value.bool false, Value.slice none 0 0, Value.int IntKind.i64 0] 27)) := hz3.trans (hb.mono hz3.size)
  have HAXB : Hid (Bx < w0.heap.size) := HAX.out.block
  have Z5 : Hid (BtS w1 (wz.alloc (Obj.cells #[Value.bool false, Value.slice none 0 0, Value.int IntKind.i64 0] 27)) Bx wz.heap.size false none 0 0 0 E 2200 0) :=
    ⟨HBE.out.trans (hb2.mono HBE.out.size), HAX.out.below hb2 HAX.out.block, heap_alloc_new wz _, ⟨false, 0, 0, ⟨none, 0, 0, [], rfl, Rd4.none _, Or.inl rfl, rfl⟩, by omega, by rw [bl_zero]; omega, zv_zero _ _ _⟩⟩
  have KO0 : Hid ((∀ j, j < wz.heap.size → j ≠ Bx → (wz.alloc (Obj.cells #[Value.bool false, Value.slice none 0 0, Value.int IntKind.i64 0] 27)).heap[j]? = wz.heap[j]?) ∧ wz.heap.size ≤ (wz.alloc (Obj.cells #[Value.bool false, Value.slice none 0 0, Value.int IntKind.i64 0] 27)).heap.size) := ⟨fun j h1 _ => hb.block j h1, hb.size⟩
  have HRS2 : Hid (∀ j, j < w0.heap.size → wz.heap[j]? = w0.heap[j]?) := fun j h1 => hz3.block j h1
  obtain ⟨Rs, hRs⟩ : ∃ Rs, w0.heap.size = Rs := ⟨_, rfl⟩
  obtain ⟨Pv, hPv⟩ : ∃ Pv, wz.heap.size = Pv := ⟨_, rfl⟩
  have HRS : Hid (Rs < wz.heap.size ∧ Rs ≠ Bx ∧ wz.heap[Rs]? = some (Obj.cells #[Value.bool false, Value.slice none 0 0, Value.int IntKind.i64 0] 27) ∧ w0.heap.size = Rs ∧ wz.heap.size = w0.heap.size + 1) := ⟨by omega, by have := HAXB.out; omega, by rw [← hRs]; exact hz2, hRs, hz1⟩
  have HPW : Hid (wz.heap.size ≤ Pv) := by unfold Hid; omega
  have HPV : Hid (Pv ≠ Bx ∧ Bx < Pv) := by unfold Hid; have := HAXB.out; omega
  rw [show w0.heap.size + 1 = Pv by omega, hRs]
  rw [hPv] at Z5
  generalize wz.alloc (Obj.cells #[Value.bool false, Value.slice none 0 0, Value.int IntKind.i64 0] 27) = W5 at Z5 KO0 ⊢
  clear hwz hz1 hz2 hz3 hb hb2 hRs hPv
  go_wp2_with fail
  go_loopw [6] (fun iv wr => ∃ (k : Nat) (n0 : Bool) (o0 : Option Addr) (l0 c0 : Nat) (e0 : Int), k ≤ ts.length ∧ k ≤ 20 ∧ iv = .int .i64 k ∧ Hid (BtS w1 wr Bx Pv n0 o0 l0 c0 e0 E (2200 + k) (psum (ts.take k))) ∧ Hid ((∀ j, j < wz.heap.size → j ≠ Bx → wr.heap[j]? = wz.heap[j]?) ∧ wz.heap.size ≤ wr.heap.size)) (fun iv _ => ts.length - (intOf iv).toNat)
  case atStart => exact ⟨0, false, none, 0, 0, 0, by omega, by omega, rfl, by unfold Hid; rw [show (2200 + ((0 : Nat) : Int)) = 2200 from rfl, show psum (List.take 0 ts) = 0 from rfl]; exact Z5.out, KO0⟩
  case round =>
    clear Z5 KO0
    obtain ⟨k, n0, o0, l0, c0, e0, hk, hk20, rfl, K, KO⟩ := hrel
    by_cases hlt : k < ts.length ∧ k < 20
    · obtain ⟨hlt, hl20⟩ := hlt
      have hd : decide ((k : Int) < (ts.length : Int)) = true := decide_eq_true (by omega)
      have hd' : decide (k < ts.length) = true := decide_eq_true hlt
      have hd2 : decide ((k : Int) < 20) = true := decide_eq_true (by omega)
      have hd2' : decide (k < 20) = true := decide_eq_true hl20
      rcases HRL.out.cells with h0 | ⟨b, off, rfl, hc⟩
      · omega
      obtain ⟨g0, g1, g2⟩ := hc k hlt
      rw [getT' hlt] at g0 g1 g2
      have hok := OT.out ts[k] (List.getElem_mem hlt)
      have hblk := World.block_lt_of_cell? w1 _ g0
      have HNX : Hid (psum (ts.take (k + 1)) = psum (ts.take k) + prT ts[k]) := psum_take hlt
      have HPO : Hid (prodO (some (psum (ts.take k))) ts[k].a ts[k].b ts[k].n = some (psum (ts.take k) + prT ts[k])) := by
        refine prodO_ok hok ?_
        have q1 := psum_lt (ts.take k) (fun t ht => OT.out t (List.mem_of_mem_take ht))
        have q2 : (ts.take k).length * topM ≤ 200 * topM := Nat.mul_le_mul_right _ (by rw [List.length_take]; have := LT.out; omega)
        have q3 := prT_lt hok
        omega
      have HPR : Hid (prT ts[k] = fval ts[k].a * fval ts[k].b * ((2 ^ (ts[k].n + ((92 : Nat) : Int)).toNat : Nat) : Int)) := rfl
      obtain ⟨ta, hta⟩ : ∃ x, ts[k].a = x := ⟨_, rfl⟩
      obtain ⟨tb, htb⟩ : ∃ x, ts[k].b = x := ⟨_, rfl⟩
      obtain ⟨tn, htn⟩ : ∃ x, ts[k].n = x := ⟨_, rfl⟩
      have HOK : Hid (Fin ta ∧ Fin tb ∧ -64 ≤ tn ∧ tn ≤ 64) := by rw [← hta, ← htb, ← htn]; exact ⟨hok.1, hok.2.1, hok.2.2.2.2.1, hok.2.2.2.2.2⟩
      have hal : ta < 18446744073709551616 := by rw [← hta]; exact hok.2.2.1
      have hbl : tb < 18446744073709551616 := by rw [← htb]; exact hok.2.2.2.1
      rw [hta] at g0 HPO HPR
      rw [htb] at g1 HPO HPR
      rw [htn] at g2 HPO HPR
      clear hc hok hta htb htn
      have HT : Hid (∀ wy, Below w1.heap.size w1 wy → wy.cell? ⟨b, off + k * 3, none⟩ = some (.int .u64 (ta : Int)) ∧ wy.cell? ⟨b, off + k * 3 + 1, none⟩ = some (.int .u64 (tb : Int)) ∧ wy.cell? ⟨b, off + k * 3 + 2, none⟩ = some (.int .i64 tn)) := by
        intro wy hb
        exact ⟨by rw [hb.cell (p := ⟨b, off + k * 3, none⟩) hblk]; exact g0, by rw [hb.cell (p := ⟨b, off + k * 3 + 1, none⟩) hblk]; exact g1, by rw [hb.cell (p := ⟨b, off + k * 3 + 2, none⟩) hblk]; exact g2⟩
      have HBK : Hid (b < w1.heap.size) := hblk
      clear g0 g1 g2 hblk
      obtain ⟨z, hz⟩ : ∃ z, psum (ts.take k) = z := ⟨_, rfl⟩
      obtain ⟨pr, hpr⟩ : ∃ z, prT ts[k] = z := ⟨_, rfl⟩
      rw [hz, hpr] at HPO HNX
      rw [hz] at K
      rw [hpr] at HPR
      clear hz hpr
      have i0 : (0 : Int) ≤ (k : Int) := by omega
      have i1 : (k : Int) < (ts.length : Int) := by omega
      obtain ⟨x0, x1, x2⟩ := HT.out _ K.out.bel
      go_wp2_with fail
      refine (into_any Bx _ ta tb tn false hal hbl _ K.out.ax).mono ?_
      rintro e w6 ⟨rfl, s1, s2⟩
      rw [show turnB false ta = ta from rfl, HPO.out] at s1
      obtain ⟨q1, q2, q3⟩ := K.out.into s2 s1 HBX.out HPV.out.1
      have A6 : Hid (AccO w6 Bx (some (z + pr))) := s1
      have O6 : Hid (∀ j, j < wz.heap.size → j ≠ Bx → w6.heap[j]? = wz.heap[j]?) := fun j h1 h2 => (s2.other j (Nat.lt_of_lt_of_le h1 KO.out.2) h2).trans (KO.out.1 j h1 h2)
      have Z6 : Hid (wz.heap.size ≤ w6.heap.size) := Nat.le_trans KO.out.2 s2.below.size
      have B6 : Hid (Below w1.heap.size w1 w6) := q1
      have V6 : Hid (w6.heap[Pv]? = some (Obj.cells #[Value.bool n0, Value.slice o0 l0 c0, Value.int IntKind.i64 e0] 27)) := q2
      have M6 : Hid (NumZ w6 (.agg #[.bool n0, .slice o0 l0 c0, .int .i64 e0]) (E + (E + 92)) (2200 + k) z) := q3
      clear s1 s2 q1 q2 q3 x0 x1 x2 K
      obtain ⟨x0, x1, x2⟩ := HT.out _ B6.out
      go_wp2_with fail
      refine Calls.mono (ofZ_any ta hal _ E hE) ?_
      rintro e w7 ⟨v7, rfl, ⟨z7, hz7, hf7⟩, bw⟩
      obtain rfl := hf7 HOK.out.1
      rw [decide_eq_true HOK.out.1]
      have Z7 : Hid (NumZ w7 v7 E 1024 (fval ta)) := hz7
      obtain ⟨n7, m7, e7, ⟨o7, l7, c7, xs7, rfl, -⟩, -⟩ := hz7
      have G7 : Hid (Below w6.heap.size w6 w7) := bw
      clear bw hf7 x0 x1 x2
      go_upto_region 7 with fail
      have N8 : Hid _ := heap_alloc_new w7 (Obj.cells #[Value.bool n7, Value.slice o7 l7 c7, Value.int IntKind.i64 e7] 27)
      have G8 : Hid (Below w6.heap.size w6 (w7.alloc (Obj.cells #[Value.bool n7, Value.slice o7 l7 c7, Value.int IntKind.i64 e7] 27))) := G7.out.alloc G7.out.size _
      have Z8 : Hid (NumZ (w7.alloc (Obj.cells #[Value.bool n7, Value.slice o7 l7 c7, Value.int IntKind.i64 e7] 27)) (.agg #[.bool n7, .slice o7 l7 c7, .int .i64 e7]) E 1024 (fval ta)) := NumZ.later Z7.out ((Below.refl _ w7).alloc (Nat.le_refl _) _)
      have HP7 : Hid (w7.heap.size ≠ Pv) := by unfold Hid; have h1 := (Array.getElem?_eq_some_iff.1 V6.out).1; have h2 := G7.out.size; omega
      obtain ⟨P7, hP7⟩ : ∃ P, w7.heap.size = P := ⟨_, rfl⟩
      rw [hP7] at N8 HP7 ⊢
      generalize w7.alloc (Obj.cells #[Value.bool n7, Value.slice o7 l7 c7, Value.int IntKind.i64 e7] 27) = W8 at N8 G8 Z8 ⊢
      clear hP7 Z7 G7
      obtain ⟨x0, x1, x2⟩ := HT.out _ (B6.out.trans (G8.out.mono B6.out.size))
      go_wp2_with fail
      refine Calls.mono (ofZ_any tb hbl _ E hE) ?_
      rintro e w9 ⟨v9, rfl, ⟨z9, hz9, hf9⟩, bw⟩
      obtain rfl := hf9 HOK.out.2.1
      rw [decide_eq_true HOK.out.2.1]
      have Z9 : Hid (NumZ w9 v9 E 1024 (fval tb)) := hz9
      obtain ⟨n9, m9, e9, ⟨o9, l9, c9, xs9, rfl, -⟩, -⟩ := hz9
      have G9 : Hid (Below w6.heap.size w6 w9) := G8.out.trans (bw.mono G8.out.size)
      have N9 : Hid _ := (bw.block _ (Array.getElem?_eq_some_iff.1 N8.out).1).trans N8.out
      have Y9 : Hid (NumZ w9 (.agg #[.bool n7, .slice o7 l7 c7, .int .i64 e7]) E 1024 (fval ta)) := NumZ.later Z8.out bw
      clear bw hf9 x0 x1 x2 N8 G8 Z8
      go_upto_region 8 with fail
      have bw := (Below.refl _ w9).alloc (Nat.le_refl _) (Obj.cells #[Value.bool n9, Value.slice o9 l9 c9, Value.int IntKind.i64 e9] 27)
      have NA : Hid _ := (bw.block _ (Array.getElem?_eq_some_iff.1 N9.out).1).trans N9.out
      have NB : Hid _ := heap_alloc_new w9 (Obj.cells #[Value.bool n9, Value.slice o9 l9 c9, Value.int IntKind.i64 e9] 27)
      have GA : Hid (Below w6.heap.size w6 (w9.alloc (Obj.cells #[Value.bool n9, Value.slice o9 l9 c9, Value.int IntKind.i64 e9] 27))) := G9.out.alloc G9.out.size _
      have YA : Hid (NumZ (w9.alloc (Obj.cells #[Value.bool n9, Value.slice o9 l9 c9, Value.int IntKind.i64 e9] 27)) (.agg #[.bool n7, .slice o7 l7 c7, .int .i64 e7]) E 1024 (fval ta)) := NumZ.later Y9.out bw
      have YB : Hid (NumZ (w9.alloc (Obj.cells #[Value.bool n9, Value.slice o9 l9 c9, Value.int IntKind.i64 e9] 27)) (.agg #[.bool n9, .slice o9 l9 c9, .int .i64 e9]) E 1024 (fval tb)) := NumZ.later Z9.out bw
      have HNE : Hid (P7 ≠ Pv ∧ w9.heap.size ≠ Pv ∧ b ≠ Pv) := ⟨HP7.out, by have h1 := (Array.getElem?_eq_some_iff.1 V6.out).1; have h2 := G9.out.size; omega, by have h1 := HBK.out; have h2 := HPV.out; have h3 := HBX.out; omega⟩
      obtain ⟨P9, hP9⟩ : ∃ P, w9.heap.size = P := ⟨_, rfl⟩
      rw [hP9] at NB HNE ⊢
      generalize w9.alloc (Obj.cells #[Value.bool n9, Value.slice o9 l9 c9, Value.int IntKind.i64 e9] 27) = WA at NA NB GA YA YB bw ⊢
      clear hP9 Y9 Z9 N9 G9 bw
      have AA : Hid (AccO WA Bx (some (z + pr))) := A6.out.below GA.out A6.out.block
      have BA' : Hid (Below w1.heap.size w1 WA) := B6.out.trans (GA.out.mono B6.out.size)
      have VA : Hid (WA.heap[Pv]? = some (Obj.cells #[Value.bool n0, Value.slice o0 l0 c0, Value.int IntKind.i64 e0] 27)) := (GA.out.block Pv (Array.getElem?_eq_some_iff.1 V6.out).1).trans V6.out
      have MA : Hid (NumZ WA (.agg #[.bool n0, .slice o0 l0 c0, .int .i64 e0]) (E + (E + 92)) (2200 + k) z) := NumZ.later M6.out GA.out
      have OA : Hid (∀ j, j < wz.heap.size → j ≠ Bx → WA.heap[j]? = wz.heap[j]?) := fun j h1 h2 => (GA.out.block j (Nat.lt_of_lt_of_le h1 Z6.out)).trans (O6.out j h1 h2)
      have ZA : Hid (wz.heap.size ≤ WA.heap.size) := Nat.le_trans Z6.out GA.out.size
      clear A6 B6 V6 M6 GA O6 Z6
      have HC : Hid (∀ wx wy, Below WA.heap.size WA wx → Below wx.heap.size wx wy → Below WA.heap.size WA wy ∧ (wy.cell? ⟨Pv, 0, none⟩ = some (.bool n0) ∧ wy.cell? ⟨Pv, 1, none⟩ = some (.slice o0 l0 c0) ∧ wy.cell? ⟨Pv, 2, none⟩ = some (.int .i64 e0)) ∧ (wy.cell? ⟨P7, 0, none⟩ = some (.bool n7) ∧ wy.cell? ⟨P7, 1, none⟩ = some (.slice o7 l7 c7) ∧ wy.cell? ⟨P7, 2, none⟩ = some (.int .i64 e7)) ∧ (wy.cell? ⟨P9, 0, none⟩ = some (.bool n9) ∧ wy.cell? ⟨P9, 1, none⟩ = some (.slice o9 l9 c9) ∧ wy.cell? ⟨P9, 2, none⟩ = some (.int .i64 e9)) ∧ (wy.cell? ⟨b, off + k * 3, none⟩ = some (.int .u64 (ta : Int)) ∧ wy.cell? ⟨b, off + k * 3 + 1, none⟩ = some (.int .u64 (tb : Int)) ∧ wy.cell? ⟨b, off + k * 3 + 2, none⟩ = some (.int .i64 tn))) := by
        intro wx wy q1 q2
        have h := q1.trans (q2.mono q1.size)
        exact ⟨h, three_cells ((h.block _ (Array.getElem?_eq_some_iff.1 VA.out).1).trans VA.out), three_cells ((h.block _ (Array.getElem?_eq_some_iff.1 NA.out).1).trans NA.out), three_cells ((h.block _ (Array.getElem?_eq_some_iff.1 NB.out).1).trans NB.out), HT.out _ (BA'.out.trans (h.mono BA'.out.size))⟩
      obtain ⟨-, ⟨v0, v1, v2⟩, ⟨a0, a1, a2⟩, ⟨b0, b1, b2⟩, ⟨x0, x1, x2⟩⟩ := HC.out _ WA (Below.refl _ _) (Below.refl _ _)
      have GE : Hid (E + E + 92 = E + (E + 92)) := by unfold Hid; omega
      have hn7 : P7 ≠ Pv := HNE.out.1
      have hn9 : P9 ≠ Pv := HNE.out.2.1
      have hnb : b ≠ Pv := HNE.out.2.2
      have hm7 : Pv ≠ P7 := fun h => hn7 h.symm
      have hm9 : Pv ≠ P9 := fun h => hn9 h.symm
      have hmb : Pv ≠ b := fun h => hnb h.symm
      have hS7 : ∀ W, Below WA.heap.size WA W → ((W.cell? ⟨P7, 0, none⟩ = some (.bool n7) ∧ W.cell? ⟨P7, 1, none⟩ = some (.slice o7 l7 c7) ∧ W.cell? ⟨P7, 2, none⟩ = some (.int .i64 e7)) ∧ (W.cell? ⟨P9, 0, none⟩ = some (.bool n9) ∧ W.cell? ⟨P9, 1, none⟩ = some (.slice o9 l9 c9) ∧ W.cell? ⟨P9, 2, none⟩ = some (.int .i64 e9)) ∧ W.cell? ⟨b, off + k * 3 + 2, none⟩ = some (.int .i64 tn)) := fun W h => ⟨(HC.out _ W (Below.refl _ _) h).2.2.1, (HC.out _ W (Below.refl _ _) h).2.2.2.1, (HC.out _ W (Below.refl _ _) h).2.2.2.2.2.2⟩
      clear v0 v1 v2 a0 a1 a2 b0 b1 b2 x0 x1 x2
      refine wp_region_noPanic ?_
      refine wp_region_held_drew (S := fun W => (W.cell? ⟨P7, 0, none⟩ = some (.bool n7) ∧ W.cell? ⟨P7, 1, none⟩ = some (.slice o7 l7 c7) ∧ W.cell? ⟨P7, 2, none⟩ = some (.int .i64 e7)) ∧ (W.cell? ⟨P9, 0, none⟩ = some (.bool n9) ∧ W.cell? ⟨P9, 1, none⟩ = some (.slice o9 l9 c9) ∧ W.cell? ⟨P9, 2, none⟩ = some (.int .i64 e9)) ∧ W.cell? ⟨b, off + k * 3 + 2, none⟩ = some (.int .i64 tn)) (by kernel_rfl) (hS7 _ (Below.refl _ _).drew) (fun _ => ?_)
      refine takeH 46 (i := 1) (v := (.agg #[.bool n7, .slice o7 l7 c7, .int .i64 e7])) rfl rfl (by kernel_rfl) (by kernel_rfl) (by kernel_rfl) (fun _ _ _ h => h) (Or.inl ⟨(by kernel_rfl), fun w' hS => ex_load3 _ _ rfl P7 (by kernel_rfl) w' n7 o7 l7 c7 e7 hS.1⟩) (hS7 _ (Below.refl _ _).drew) ?_
      refine takeH 47 (i := 2) (v := (.agg #[.bool n9, .slice o9 l9 c9, .int .i64 e9])) rfl rfl (by kernel_rfl) (by kernel_rfl) (by kernel_rfl) (fun _ _ _ h => h) (Or.inl ⟨(by kernel_rfl), fun w' hS => ex_load3 _ _ rfl P9 (by kernel_rfl) w' n9 o9 l9 c9 e9 hS.2.1⟩) (hS7 _ (Below.refl _ _).drew) ?_
      refine takeH 49 (i := 4) (v := .slice (some ⟨b, off, none⟩) ts.length lc) rfl rfl (by kernel_rfl) (by kernel_rfl) (by kernel_rfl) (fun _ _ _ h => h) (Or.inl ⟨(by kernel_rfl), fun w' _ => by kernel_rfl⟩) (hS7 _ (Below.refl _ _).drew) ?_
      refine takeH 50 (i := 5) (v := .int .i64 (k : Int)) rfl rfl (by kernel_rfl) (by kernel_rfl) (by kernel_rfl) (fun _ _ _ h => h) (Or.inl ⟨(by kernel_rfl), fun w' _ => by kernel_rfl⟩) (hS7 _ (Below.refl _ _).drew) ?_
      simp only [Act.put, List.setIfInBounds_toArray, List.set_cons_zero, List.set_cons_succ]
      refine takeH 51 (i := 6) (v := .pointer (some ⟨b, off + k * 3, none⟩)) rfl rfl (by kernel_rfl) (by kernel_rfl) (by kernel_rfl) (fun _ _ _ h => h) (Or.inl ⟨(by kernel_rfl), by intro w' _; go_simp⟩) (hS7 _ (Below.refl _ _).drew) ?_
      simp only [Act.put, List.setIfInBounds_toArray, List.set_cons_zero, List.set_cons_succ]
      refine takeH 52 (i := 7) (v := .pointer (some ⟨b, off + k * 3 + 2, none⟩)) rfl rfl (by kernel_rfl) (by kernel_rfl) (by kernel_rfl) (fun _ _ _ h => h) (Or.inl ⟨(by kernel_rfl), by intro w' _; go_simp⟩) (hS7 _ (Below.refl _ _).drew) ?_
      simp only [Act.put, List.setIfInBounds_toArray, List.set_cons_zero, List.set_cons_succ]
      refine takeH 53 (i := 8) (v := .int .i64 tn) rfl rfl (by kernel_rfl) (by kernel_rfl) (by kernel_rfl) (fun _ _ _ h => h) (Or.inl ⟨(by kernel_rfl), by intro w' hS; have hS3 := hS.2.2; clear hS; go_simp⟩) (hS7 _ (Below.refl _ _).drew) ?_
      simp only [Act.put, List.setIfInBounds_toArray, List.set_cons_zero, List.set_cons_succ]
      refine lpRegion _ _ _ _ _ 3 9 10 0 11 48 54 55 45 (fun a b c l s => #[l, true, true, a, true, true, true, true, true, b, c, s]) _ WA 16 44 43 (.agg #[.bool n7, .slice o7 l7 c7, .int .i64 e7]) (.agg #[.bool n9, .slice o9 l9 c9, .int .i64 e9]) (.int .i64 tn) (E + E) (E + (E + 92)) (E + (E + 92)) 2048 (fval ta * fval tb) (2200 + k) pr (2200 + k + 1) (z + pr) (.tmp 5) (.tmp 55) Pv n0 o0 l0 c0 e0 rfl rfl rfl rfl rfl rfl rfl rfl rfl rfl rfl rfl rfl rfl rfl (by decide) (by decide) (by decide) (fun _ _ _ _ => rfl) (fun _ _ _ _ => rfl) (fun _ _ _ _ => rfl) (fun _ _ _ _ => rfl) (fun _ _ _ _ => rfl) (by kernel_rfl) (by kernel_rfl) (by kernel_rfl) (by kernel_rfl) (by kernel_rfl) (by kernel_rfl) (by kernel_rfl) (by kernel_rfl) (by intro u x W; kernel_rfl) (by intro u x W; kernel_rfl) (by intro u x W; kernel_rfl) (by intro u x W; kernel_rfl) (by intro u x W; kernel_rfl) (fun u x W hW => ex_load3 _ _ rfl Pv (by kernel_rfl) W n0 o0 l0 c0 e0 (HC.out _ W (Below.refl _ _) hW).2.1) (fun u x W hW => ex_load3 _ _ rfl Pv (by kernel_rfl) W n0 o0 l0 c0 e0 (HC.out _ W (Below.refl _ _) hW).2.1) (fun u x W hW => ex_load3 _ _ rfl Pv (by kernel_rfl) W n0 o0 l0 c0 e0 (HC.out _ W (Below.refl _ _) hW).2.1) rfl (by intro u x y; exact ⟨(by kernel_rfl), (by kernel_rfl)⟩)
        (fun W hW => timesZ_any _ _ E 1024 1024 (fval ta) (fval tb) W (NumZ.later YA.out hW) (NumZ.later YB.out hW) (by omega) (by omega) (by omega))
        (fun W u hW hu => Calls.mono (movedK_any 92 _ (E + E) 2048 _ tn (by have := HOK.out; omega) (by omega) W hu (by omega) (by omega)) (by rintro e W' ⟨v, rfl, hz, hb⟩; exact ⟨v, rfl, (by rw [HPR.out, ← GE.out]; exact NumZ.mono hz (by omega)), hb⟩))
        (fun W x hW hx => plusZ_any _ _ (E + (E + 92)) (2200 + k) z pr W (NumZ.later MA.out hW) hx (by omega) (by have := LT.out; omega)) VA.out hS7 ?_ _ (Below.refl _ _).drew
      intro wf W u x nf of lf cf ef Bf Zf Rf Ra Rt Rz Rb
      have hBW : Below w1.heap.size w1 W := Rb _ _ (BA'.out.trans (Bf.mono BA'.out.size)) (by have := HBX.out; have := HPV.out; omega)
      have QA : Hid (BtS w1 W Bx Pv nf of lf cf ef E (2200 + k + 1) (z + pr)) :=
        ⟨hBW, (AA.out.below Bf AA.out.block).heap (Rt _ (Ne.symm HPV.out.1)), Ra, Rz _ _ _ _ Zf⟩
      have KO' : Hid ((∀ j, j < wz.heap.size → j ≠ Bx → W.heap[j]? = wz.heap[j]?) ∧ wz.heap.size ≤ W.heap.size) := ⟨fun j h1 h2 => (Rt j (fun c => by have := HPW.out; omega)).trans ((Bf.block j (Nat.lt_of_lt_of_le h1 ZA.out)).trans (OA.out j h1 h2)), Nat.le_trans ZA.out (Nat.le_trans Bf.size (Rb _ _ (Below.refl 0 wf) (Nat.zero_le _)).size)⟩
      refine ⟨⟨three_cells ((Rt P7 hn7).trans (keep0 NA.out Bf)), three_cells ((Rt P9 hn9).trans (keep0 NB.out Bf)), (HT.out _ hBW).2.2⟩, ?_⟩
      refine NoPanic.normal ?_
      clear HC AA BA' VA MA NA NB YA YB hS7 Rz Rb Rt
      simp only [Act.put, List.setIfInBounds_toArray, List.set_cons_zero, List.set_cons_succ]
      go_wp2_with fail
      go_roundw
      case rel => exact ⟨k + 1, nf, of, lf, cf, ef, by omega, by omega, by go_num, by rw [HNX.out, show (2200 + ((k + 1 : Nat) : Int)) = 2200 + k + 1 by omega]; exact QA, KO'⟩
      case measure => simp [intOf]; omega
    · obtain ⟨z, hz⟩ : ∃ z, psum (ts.take k) = z := ⟨_, rfl⟩
      rw [hz] at K
      by_cases h1 : k < ts.length
      · have hd : decide ((k : Int) < (ts.length : Int)) = true := decide_eq_true (by omega)
        have hd' : decide (k < ts.length) = true := decide_eq_true h1
        have hd2 : decide ((k : Int) < 20) = false := decide_eq_false (by omega)
        have hd2' : decide (k < 20) = false := decide_eq_false (by omega)
        clear hz hlt h1
        have g0 : Hid (wr.heap[Rs]? = some (Obj.cells #[Value.bool false, Value.slice none 0 0, Value.int IntKind.i64 0] 27)) := (KO.out.1 Rs HRS.out.1 HRS.out.2.1).trans HRS.out.2.2.1
        have KM : Hid (NumZ wr (.agg #[.bool n0, .slice o0 l0 c0, .int .i64 e0]) (E + (E + 92)) 2220 z) := NumZ.mono K.out.num (by omega)
        have OB : Hid (∀ j, j ≠ Rs → (((wr.setCell ⟨Rs, 0, none⟩ (.bool n0)).setCell ⟨Rs, 1, none⟩ (.slice o0 l0 c0)).setCell ⟨Rs, 2, none⟩ (.int .i64 e0)).heap[j]? = wr.heap[j]?) := fun j hj => by rw [heap_setCell_other _ _ _ _ hj, heap_setCell_other _ _ _ _ hj, heap_setCell_other _ _ _ _ hj]
        obtain ⟨x0, x1, x2⟩ := three_cells g0.out
        obtain ⟨y0, y1, y2⟩ := three_cells K.out.hp
        have fz := fun j => frozen_of_row _ _ j _ _ g0.out
        go_wp2_with fail
        refine bodyPost_ret (v := .agg #[.bool n0, .slice o0 l0 c0, .int .i64 e0]) (res_num _ 4 (by kernel_rfl) _ _ Rs _ _ _ (by rfl) (set3_heap _ _ _ g0.out)) rfl ⟨_, z, rfl, ?_, ?_, ?_, ?_⟩
        · exact NumZ.set3 _ _ _ ⟨_, _, _, _, _, g0.out⟩ KM.out
        · exact K.out.ax.heap (OB.out Bx (Ne.symm HRS.out.2.1))
        · exact ⟨below_set3 _ _ _ (Below.mk2 (fun j hj => (KO.out.1 j (by have := HRS.out.2.2.2; have := HAXB.out; omega) (by omega)).trans (HRS2.out j (by have := HAXB.out; omega))) K.out.bel HBE.out (by have := HRS.out.2.2.2; have := KO.out.2; omega)) (by have := HAXB.out; have := HRS.out.2.2.2; omega), fun j h1 h2 => (OB.out j (by have := HRS.out.2.2.2; omega)).trans ((KO.out.1 j (by have := HRS.out.2.2.2; omega) h2).trans (HRS2.out j h1))⟩
        · exact below_set3 _ _ _ K.out.bel (by have := HAXB.out; have := HBX.out; have := HRS.out.2.2.2; omega)
      · have hd : decide ((k : Int) < (ts.length : Int)) = false := decide_eq_false (by omega)
        have hd' : decide (k < ts.length) = false := decide_eq_false h1
        clear hz hlt h1
        have g0 : Hid (wr.heap[Rs]? = some (Obj.cells #[Value.bool false, Value.slice none 0 0, Value.int IntKind.i64 0] 27)) := (KO.out.1 Rs HRS.out.1 HRS.out.2.1).trans HRS.out.2.2.1
        have KM : Hid (NumZ wr (.agg #[.bool n0, .slice o0 l0 c0, .int .i64 e0]) (E + (E + 92)) 2220 z) := NumZ.mono K.out.num (by omega)
        have OB : Hid (∀ j, j ≠ Rs → (((wr.setCell ⟨Rs, 0, none⟩ (.bool n0)).setCell ⟨Rs, 1, none⟩ (.slice o0 l0 c0)).setCell ⟨Rs, 2, none⟩ (.int .i64 e0)).heap[j]? = wr.heap[j]?) := fun j hj => by rw [heap_setCell_other _ _ _ _ hj, heap_setCell_other _ _ _ _ hj, heap_setCell_other _ _ _ _ hj]
        obtain ⟨x0, x1, x2⟩ := three_cells g0.out
        obtain ⟨y0, y1, y2⟩ := three_cells K.out.hp
        have fz := fun j => frozen_of_row _ _ j _ _ g0.out
        go_wp2_with fail
        refine bodyPost_ret (v := .agg #[.bool n0, .slice o0 l0 c0, .int .i64 e0]) (res_num _ 4 (by kernel_rfl) _ _ Rs _ _ _ (by rfl) (set3_heap _ _ _ g0.out)) rfl ⟨_, z, rfl, ?_, ?_, ?_, ?_⟩
        · exact NumZ.set3 _ _ _ ⟨_, _, _, _, _, g0.out⟩ KM.out
        · exact K.out.ax.heap (OB.out Bx (Ne.symm HRS.out.2.1))
        · exact ⟨below_set3 _ _ _ (Below.mk2 (fun j hj => (KO.out.1 j (by have := HRS.out.2.2.2; have := HAXB.out; omega) (by omega)).trans (HRS2.out j (by have := HAXB.out; omega))) K.out.bel HBE.out (by have := HRS.out.2.2.2; have := KO.out.2; omega)) (by have := HAXB.out; have := HRS.out.2.2.2; omega), fun j h1 h2 => (OB.out j (by have := HRS.out.2.2.2; omega)).trans ((KO.out.1 j (by have := HRS.out.2.2.2; omega) h2).trans (HRS2.out j h1))⟩
        · exact below_set3 _ _ _ K.out.bel (by have := HAXB.out; have := HBX.out; have := HRS.out.2.2.2; omega)
end Go.Proofs.Ytkpoikjikkailaa
