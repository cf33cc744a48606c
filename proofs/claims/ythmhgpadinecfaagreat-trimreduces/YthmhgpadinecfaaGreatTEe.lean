import Derived.Test.YthmhgpadinecfaaGreatTEd
import Derived.Test.YthmhgpadinecfaaGreatTDl
set_option maxRecDepth 100000
set_option maxHeartbeats 4000000
set_option linter.unusedVariables false
set_option linter.unusedSimpArgs false
namespace Go.Proofs.YthmhgpadinecfaaGreat
open Go.RowKit Go.Shelf
theorem put_noneP {P : Program} {md : Region.Mode} {ops : Array Oper} {Q : Exit -> Act -> World -> Prop} {S : World -> Prop} {s fuel : Nat} {l : Array Bool} {a : Act} {dst : Option Tmp} {v : Value} {w : World} (hd : dst = none) (h : wpAnyP P md ops Q S s fuel l a w) : wpAnyP P md ops Q S s fuel l (a.put dst v) w := by subst hd; exact h
theorem reduceD_any
  (N : Int) (co : Option Addr) (cn cc : Nat) (io : Option Addr) (dn dc : Nat) (go : Option Addr) (gn gc : Nat) (ro : Option Addr) (rn rc : Nat) (bad : Bool) (cs : List Nat) (ids : List Int) (gv : Nat -> Option Addr × Nat × Nat) (gs : List (List Nat)) (rs : List Nat) (E : Nat) (hE : E = 1074) (w : World) (gd : Bool) (ck : Int) (pl : List Nat) (most : Int) (m : Nat) (hm : max most 0 = (m : Int)) (hmm : (m : Int) <= 9223372036854775807) (F : Nat -> Bool) (HF : Hid (F = fun j => decide (j ∈ pl.take (gn - m))))
  (HGo : Hid (∀ W, Below w.heap.size w W -> Calls Tryz.prog 23 #[.agg #[.int .i64 N, .slice co cn cc, .slice io dn dc, .slice go gn gc, .slice ro rn rc, .bool bad]] W fun e w' => e = .returned (.bool gd) /\ Below W.heap.size W w'))
  (HCk : Hid (∀ W, Below w.heap.size w W -> Calls Tryz.prog 25 #[.agg #[.int .i64 N, .slice co cn cc, .slice io dn dc, .slice go gn gc, .slice ro rn rc, .bool bad]] W fun e w' => e = .returned (.int .i64 ck) /\ Below W.heap.size W w'))
  (HPl : Hid (gd = true -> ∀ W, Below w.heap.size w W -> Calls Tryz.prog 24 #[.agg #[.int .i64 N, .slice co cn cc, .slice io dn dc, .slice go gn gc, .slice ro rn rc, .bool bad]] W fun e w' => ∃ v, e = .returned v /\ w'.ownsRow W.heap.size 3 1 v pl.length (pl.map fun x : Nat => Value.int .i64 (x : Int)) /\ Below W.heap.size W w'))
  (HC : Hid (∀ W, Below w.heap.size w W -> RdUs W co cn cc cs)) (HI : Hid (∀ W, Below w.heap.size w W -> RdIs W io dn dc ids)) (HG : Hid (∀ W, Below w.heap.size w W -> RdGu W go gn gc gv gs)) (HR : Hid (∀ W, Below w.heap.size w W -> RdUs W ro rn rc rs))
  (HWH : Hid (gd = true -> N = (rn : Int) /\ dn = gn /\ pl.length = gn /\ (∀ x ∈ pl, x < gn) /\ (∀ k, k < gn -> (gv k).2.1 = rn) /\ (∀ j : Nat, Fin (rs[j]?.getD 0)) /\ (∀ k j : Nat, Fin ((gs[k]?.getD [])[j]?.getD 0))))
  (HLT : Hid ((∀ j : Nat, rs[j]?.getD 0 < 18446744073709551616) /\ ∀ k j : Nat, (gs[k]?.getD [])[j]?.getD 0 < 18446744073709551616)) (hcn : cn <= 1050000) (hgn : gn <= 1050000) (hrn : rn <= 1050000) (HLL : Hid (∀ k, k < gn -> (gv k).2.1 <= 1050000)) :
  Calls Tryz.prog 9 #[.agg #[.int .i64 N, .slice co cn cc, .slice io dn dc, .slice go gn gc, .slice ro rn rc, .bool bad], .int .i64 most] w fun e w' => ∃ y : ZD, e = .returned (.agg (zRow y)) /\ ZUT w' y /\ RdD gd ck N gn rn cs rs ids gs F y /\ Below w.heap.size w w' := by
 have X0 : Below w.heap.size w ((w.alloc (.cells #[.int .i64 N, .slice co cn cc, .slice io dn dc, .slice go gn gc, .slice ro rn rc, .bool bad] 32)).alloc (.cells #[.int .i64 0, .slice none 0 0, .slice none 0 0, .slice none 0 0, .slice none 0 0, .bool false] 32)) := ((Below.refl _ w).alloc (Nat.le_refl _) _).alloc (by simp only [alloc_size]; omega) _
 have Y0 : ((w.alloc (.cells #[.int .i64 N, .slice co cn cc, .slice io dn dc, .slice go gn gc, .slice ro rn rc, .bool bad] 32)).alloc (.cells #[.int .i64 0, .slice none 0 0, .slice none 0 0, .slice none 0 0, .slice none 0 0, .bool false] 32)).heap[w.heap.size]? = some (.cells #[.int .i64 N, .slice co cn cc, .slice io dn dc, .slice go gn gc, .slice ro rn rc, .bool bad] 32) := alloc_kept (heap_alloc_new w _) _
 have Y1 : ((w.alloc (.cells #[.int .i64 N, .slice co cn cc, .slice io dn dc, .slice go gn gc, .slice ro rn rc, .bool bad] 32)).alloc (.cells #[.int .i64 0, .slice none 0 0, .slice none 0 0, .slice none 0 0, .slice none 0 0, .bool false] 32)).heap[w.heap.size + 1]? = some (.cells #[.int .i64 0, .slice none 0 0, .slice none 0 0, .slice none 0 0, .slice none 0 0, .bool false] 32) := heap_at _ _ _ (by simp only [alloc_size])
 go_enter Tryz.func9, Tryz.ntmps9
 go_upto_region 1 with fail
 obtain ⟨X, hX⟩ : ∃ X, ((w.alloc (.cells #[.int .i64 N, .slice co cn cc, .slice io dn dc, .slice go gn gc, .slice ro rn rc, .bool bad] 32)).alloc (.cells #[.int .i64 0, .slice none 0 0, .slice none 0 0, .slice none 0 0, .slice none 0 0, .bool false] 32)) = X := ⟨_, rfl⟩
 rw [hX] at X0 Y0 Y1 ⊢
 have T0 : Hid (Below w.heap.size w X /\ X.heap[w.heap.size]? = some (.cells #[.int .i64 N, .slice co cn cc, .slice io dn dc, .slice go gn gc, .slice ro rn rc, .bool bad] 32) /\ X.heap[w.heap.size + 1]? = some (.cells #[.int .i64 0, .slice none 0 0, .slice none 0 0, .slice none 0 0, .slice none 0 0, .bool false] 32)) := ⟨X0, Y0, Y1⟩
 clear hX X0 Y0 Y1
 have HE : Hid (E = 1074) := hE
 clear hE
 go_wp2_with (first | (refine wpList_load_row (by rfl) 32 _ (by rfl) w.heap.size _ (by rfl) T0.out.2.1 _ Tryz.underlying32 rfl 6 Tryz.infoZu (by rfl) ?_))
 refine Calls.mono (HGo.out _ T0.out.1) ?_
 rintro e w1 ⟨rfl, b1⟩
 have T1 : Hid (Below w.heap.size w w1 /\ w1.heap[w.heap.size]? = some (.cells #[.int .i64 N, .slice co cn cc, .slice io dn dc, .slice go gn gc, .slice ro rn rc, .bool bad] 32) /\ w1.heap[w.heap.size + 1]? = some (.cells #[.int .i64 0, .slice none 0 0, .slice none 0 0, .slice none 0 0, .slice none 0 0, .bool false] 32)) := ⟨to_callD T0.out.1 b1, kept b1 T0.out.2.1, kept b1 T0.out.2.2⟩
 clear b1 T0 HGo
 cases gd with
 | false =>
  clear HPl HWH
  by_cases h : ck = 0
  ·have e1 : (ck != 0) = false := by simp [h]
   have HCE : Hid (ck = 0) := h
   clear h
   go_upto_region 4 with (first
    | (refine wpList_load_row (by rfl) 32 _ (by rfl) w.heap.size _ (by rfl) T1.out.2.1 _ Tryz.underlying32 rfl 6 Tryz.infoZu (by rfl) ?_)
    | (go_at_call 25; refine Calls.mono (HCk.out _ T1.out.1) ?_; rintro e w2 ⟨rfl, b2⟩; have T2 : Hid (Below w.heap.size w w2 /\ w2.heap[w.heap.size]? = some (.cells #[.int .i64 N, .slice co cn cc, .slice io dn dc, .slice go gn gc, .slice ro rn rc, .bool bad] 32) /\ w2.heap[w.heap.size + 1]? = some (.cells #[.int .i64 0, .slice none 0 0, .slice none 0 0, .slice none 0 0, .slice none 0 0, .bool false] 32)) := ⟨to_callD T1.out.1 b2, kept b2 T1.out.2.1, kept b2 T1.out.2.2⟩; obtain ⟨d0, d1, d2, d3, d4, d5⟩ := cells6 T2.out.2.1; clear b2))
   go_wp2_with (first | (refine wpList_store_row (by rfl) 32 _ _ (by rfl) w w.heap.size (w.heap.size + 1) #[.int .i64 N, .slice none 0 0, .slice none 0 0, .slice none 0 0, .slice none 0 0, .bool true] _ (by rfl) (by rfl) T2.out.2.2 T2.out.1 (by omega) 6 Tryz.infoZu (by rfl) (by rfl) (oneZ _ _ _ _ _ rfl rfl rfl rfl _) ?_; intro W9 e9 b9 s9 o9))
   refine bodyPost_ret (res_oneJ _ 4 32 (by kernel_rfl) _ _ (w.heap.size + 1) _ (by rfl) _ Tryz.underlying32 rfl 6 Tryz.infoZu rfl e9) rfl ?_
   exact ⟨bdD N, rfl, (fun W _ => bdD_ZU W _), ⟨.inr (.inl ⟨rfl, HCE.out, rfl⟩)⟩, b9⟩
  ·have e1 : (ck != 0) = true := by simp [h]
   have HCE : Hid (ck ≠ 0) := h
   clear h
   go_upto_region 3 with (first
    | (refine wpList_load_row (by rfl) 32 _ (by rfl) w.heap.size _ (by rfl) T1.out.2.1 _ Tryz.underlying32 rfl 6 Tryz.infoZu (by rfl) ?_)
    | (go_at_call 25; refine Calls.mono (HCk.out _ T1.out.1) ?_; rintro e w2 ⟨rfl, b2⟩; have T2 : Hid (Below w.heap.size w w2 /\ w2.heap[w.heap.size]? = some (.cells #[.int .i64 N, .slice co cn cc, .slice io dn dc, .slice go gn gc, .slice ro rn rc, .bool bad] 32) /\ w2.heap[w.heap.size + 1]? = some (.cells #[.int .i64 0, .slice none 0 0, .slice none 0 0, .slice none 0 0, .slice none 0 0, .bool false] 32)) := ⟨to_callD T1.out.1 b2, kept b2 T1.out.2.1, kept b2 T1.out.2.2⟩; clear b2))
   go_wp2_with (first | (refine wpList_store_row (by rfl) 32 _ _ (by rfl) w w.heap.size (w.heap.size + 1) #[.int .i64 0, .slice none 0 0, .slice none 0 0, .slice none 0 0, .slice none 0 0, .bool true] _ (by rfl) (by rfl) T2.out.2.2 T2.out.1 (by omega) 6 Tryz.infoZu (by rfl) (by rfl) (oneZ _ _ _ _ _ rfl rfl rfl rfl _) ?_; intro W9 e9 b9 s9 o9))
   refine bodyPost_ret (res_oneJ _ 4 32 (by kernel_rfl) _ _ (w.heap.size + 1) _ (by rfl) _ Tryz.underlying32 rfl 6 Tryz.infoZu rfl e9) rfl ?_
   exact ⟨bdD 0, rfl, (fun W _ => bdD_ZU W _), ⟨.inl ⟨rfl, HCE.out, rfl⟩⟩, b9⟩
 | true =>
  obtain ⟨hN, hdn, hpl, hpx, hgv, hfr, hfg⟩ := HWH.out (by trivial)
  subst hN
  have hdn' := hdn.symm
  clear hdn
  subst hdn'
  have HPLN : Hid (pl.length = gn /\ ∀ x ∈ pl, x < gn) := ⟨hpl, hpx⟩
  have HGV : Hid (∀ k, k < gn -> (gv k).2.1 = rn) := hgv
  have HFN : Hid ((∀ j : Nat, Fin (rs[j]?.getD 0)) /\ ∀ k j : Nat, Fin ((gs[k]?.getD [])[j]?.getD 0)) := ⟨hfr, hfg⟩
  have hmx := run_maxD most 0
  rw [hm] at hmx
  have hmk := makeBT gn (by omega)
  obtain ⟨d0, d1, d2, d3, d4, d5⟩ := cells6 T1.out.2.1
  have hsz1 : w.heap.size + 1 < w1.heap.size := blk_lt T1.out.2.2
  clear hpl hpx hgv hfr hfg HWH HCk d0 d1 d2 d4 d5
  go_upto_region 7 with fail
  have A1 : Below w1.heap.size w1 (w1.alloc (.cells (blN gn fun _ => false) 4)) := (Below.refl _ w1).alloc (Nat.le_refl _) _
  have S0 : (Below w.heap.size w (w1.alloc (.cells (blN gn fun _ => false) 4)) /\ (w1.alloc (.cells (blN gn fun _ => false) 4)).heap[w.heap.size]? = some (.cells #[.int .i64 (rn : Int), .slice co cn cc, .slice io gn dc, .slice go gn gc, .slice ro rn rc, .bool bad] 32) /\ (w1.alloc (.cells (blN gn fun _ => false) 4)).heap[w.heap.size + 1]? = some (.cells #[.int .i64 0, .slice none 0 0, .slice none 0 0, .slice none 0 0, .slice none 0 0, .bool false] 32)) /\ (w1.alloc (.cells (blN gn fun _ => false) 4)).heap[w1.heap.size]? = some (.cells (blN gn fun _ => false) 4) := ⟨⟨to_callD T1.out.1 A1, kept A1 T1.out.2.1, kept A1 T1.out.2.2⟩, heap_alloc_new w1 _⟩
  obtain ⟨Y, hY⟩ : ∃ Y, (w1.alloc (.cells (blN gn fun _ => false) 4)) = Y := ⟨_, rfl⟩
  obtain ⟨G, hG⟩ : ∃ b, w1.heap.size = b := ⟨_, rfl⟩
  rw [hY, hG] at S0
  rw [hY, hG]
  rw [hG] at hsz1
  have S1 : Hid _ := S0
  clear hY hG S0 A1 T1 hmk hmx d3 hm
  obtain ⟨d0, d1, d2, d3, d4, d5⟩ := cells6 S1.out.1.2.1
  clear d0 d1 d2 d4 d5
  obtain ⟨bb, hbb⟩ : ∃ bb : Bool, bb = decide (m < gn) := ⟨_, rfl⟩
  have HBB : Hid (decide (m < gn) = bb) := hbb.symm
  have HBA : ∀ (inst : Decidable (m < gn)), @decide (m < gn) inst = bb := fun inst => by rw [hbb]; congr
  clear hbb
  go_upto_if 35 with fail
  have HBC : ∀ (inst : Decidable ((m : Int) < (gn : Int))), @decide ((m : Int) < (gn : Int)) inst = bb := by
   intro inst
   rw [<- HBB.out]
   by_cases h : m < gn
   ·rw [decide_eq_true h]; exact @decide_eq_true _ inst (by omega)
   ·rw [decide_eq_false h]; exact @decide_eq_false _ inst (by omega)
  have HBD : ∀ (inst : Decidable ((gn : Int) > (m : Int))), @decide ((gn : Int) > (m : Int)) inst = bb := HBC
  try (first | rw [HBA] | rw [HBC] | rw [HBD])
  clear HBA HBC HBD
  go_cut [] (fun wx => Hid ((Below w.heap.size w wx /\ wx.heap[w.heap.size]? = some (.cells #[.int .i64 (rn : Int), .slice co cn cc, .slice io gn dc, .slice go gn gc, .slice ro rn rc, .bool bad] 32) /\ wx.heap[w.heap.size + 1]? = some (.cells #[.int .i64 0, .slice none 0 0, .slice none 0 0, .slice none 0 0, .slice none 0 0, .bool false] 32)) /\ wx.heap[G]? = some (.cells (blN gn F) 4)))
  case first =>
   cases bb with
   | true =>
    have hgm : m < gn := of_decide_eq_true HBB.out
    clear HBB
    obtain ⟨d, hde⟩ : ∃ d, gn - m = d := ⟨_, rfl⟩
    have HFD : Hid (F = fun j => decide (j ∈ pl.take d)) := by rw [<- hde]; exact HF
    obtain ⟨hw1, hw2⟩ := sub_wrD hde hgm hgn
    have hdle : d <= gn := by omega
    clear hde HF hgm
    go_upto_region 9 with (first
     | (refine wpList_load_row (by rfl) 32 _ (by rfl) w.heap.size _ (by rfl) S1.out.1.2.1 _ Tryz.underlying32 rfl 6 Tryz.infoZu (by rfl) ?_)
     | (go_at_call 24; refine Calls.mono (HPl.out (by trivial) _ S1.out.1.1) ?_; rintro e w2 ⟨v2, rfl, o2, b2⟩))
    obtain ⟨ao2, cap2, hv2, hm2, -⟩ := owns_slice o2
    subst hv2
    have T2 : Hid (MkD w w2 #[.int .i64 (rn : Int), .slice co cn cc, .slice io gn dc, .slice go gn gc, .slice ro rn rc, .bool bad] G gn (fun j => decide (j ∈ pl.take 0)) (.slice ao2 pl.length cap2) pl) := ⟨to_callD S1.out.1.1 b2, kept b2 S1.out.1.2.1, kept b2 S1.out.1.2.2, by have := kept b2 S1.out.2; simpa using this, owns_monoJ o2 S1.out.1.1.size⟩
    clear o2 b2 S1 d3
    go_wp2_with fail
    go_loopg [7] d (fun g v7 wx => ∃ i : Nat, v7 = .int .i64 i /\ i + g = d /\ Hid (MkD w wx #[.int .i64 (rn : Int), .slice co cn cc, .slice io gn dc, .slice go gn gc, .slice ro rn rc, .bool bad] G gn (fun j => decide (j ∈ pl.take i)) (.slice ao2 pl.length cap2) pl))
    case atStart => exact ⟨0, rfl, by omega, T2⟩
    case round =>
     clear T2
     obtain ⟨i, rfl, hi, HJ⟩ := hrel
     obtain ⟨d0, d1, d2, d3, d4, d5⟩ := cells6 HJ.out.zb
     clear d0 d1 d2 d4 d5
     by_cases hlt : i < d
     ·have hq : decide ((i : Int) < (d : Int)) = true := decide_eq_true (by omega)
      obtain ⟨q, rfl⟩ : ∃ q, gk = q + 1 := ⟨gk - 1, by omega⟩
      have HIG : Hid (i + (q + 1) = d) := hi
      have hil : i < pl.length := by rw [HPLN.out.1]; omega
      have hil' : (i : Int) < (pl.length : Int) := by omega
      obtain ⟨ao', cap', hv', -, hcl⟩ := owns_slice HJ.out.l
      cases hv'
      rcases hcl with h0 | ⟨lb, hao, hcl⟩
      ·omega
      subst hao
      have gl := hcl i hil
      obtain ⟨x, hxe⟩ : ∃ x, pl[i] = x := ⟨_, rfl⟩
      rw [List.getElem?_map, List.getElem?_eq_getElem hil, hxe] at gl
      have gl : wr.cell? ⟨lb, i, none⟩ = some (.int .i64 (x : Int)) := gl
      have hxg : x < gn := by rw [<- hxe]; exact HPLN.out.2 _ (List.getElem_mem hil)
      have hxg' : (x : Int) < (gn : Int) := by omega
      have HST : Hid (∀ j, j < gn -> decide (j ∈ pl.take (i + 1)) = if j = x then true else decide (j ∈ pl.take i)) := fun j _ => mark_set hil hxe j
      clear hcl hi hxe
      go_upto_region 11 with (first | (refine wpList_store_at (by rfl) 4 _ _ (by rfl) w w.heap.size G x (.bool true) _ (blN gn (fun j => decide (j ∈ pl.take (i + 1)))) 4 (by rfl) (by rfl) HJ.out.ma HJ.out.bel (by omega) 1 Tryz.szB1 rfl (by rw [blN_size]; omega) (one_bo _) (blN_set _ _ _ _ hxg HST.out) ?_; intro W2 e2 b2 s2 o2))
      have HJ2 : Hid _ := HJ.out.setB e2 o2 b2
      clear e2 b2 s2 o2 HJ d3 gl HST
      go_wp2_with fail
      go_roundg q
      case measure => omega
      case rel => exact ⟨i + 1, by go_num, by have := HIG.out; omega, HJ2⟩
     ·have hq : decide ((i : Int) < (d : Int)) = false := decide_eq_false (by omega)
      have hq' : decide (i < d) = false := decide_eq_false (by omega)
      have ei : i = d := by omega
      rw [ei] at HJ
      clear hi ei
      go_wp2_with fail
      go_meet
      exact ⟨⟨HJ.out.bel, HJ.out.zb, HJ.out.ans⟩, by rw [HFD.out]; exact HJ.out.ma⟩
   | false =>
    have hgm : ¬ m < gn := of_decide_eq_false HBB.out
    clear HBB
    have HFD : Hid (F = fun _ => false) := by unfold Hid; rw [HF.out, show gn - m = 0 by omega]; funext j; simp
    clear hgm HF
    go_wp2_with fail
    go_meet
    exact ⟨S1.out.1, by rw [HFD.out]; exact S1.out.2⟩
  case rest =>
  obtain ⟨X, rfl⟩ : ∃ X, X = wc := ⟨_, rfl⟩
  have P2 : Hid ((Below w.heap.size w X /\ X.heap[w.heap.size]? = some (.cells #[.int .i64 (rn : Int), .slice co cn cc, .slice io gn dc, .slice go gn gc, .slice ro rn rc, .bool bad] 32) /\ X.heap[w.heap.size + 1]? = some (.cells #[.int .i64 0, .slice none 0 0, .slice none 0 0, .slice none 0 0, .slice none 0 0, .bool false] 32))) := hcut.out.1
  have PMA : Hid (X.heap[G]? = some (.cells (blN gn F) 4)) := hcut.out.2
  have HPA : Hid (∀ W, Below w.heap.size w W -> Calls Tryz.prog 26 #[.slice co cn cc] W fun e w' => ∃ v, e = .returned v /\ w'.ownsRow W.heap.size 50 1 v cs.length (uJ (cs.map plD)) /\ Below W.heap.size W w') := fun W hb => plainsD_any co cn cc cs W (HC.out W hb) hcn
  have HPC : Hid (∀ k, k < gn -> ∀ W, Below w.heap.size w W -> Calls Tryz.prog 26 #[.slice (gv k).1 (gv k).2.1 (gv k).2.2] W fun e w' => ∃ v, e = .returned v /\ w'.ownsRow W.heap.size 50 1 v (gs[k]?.getD []).length (uJ ((gs[k]?.getD []).map plD)) /\ Below W.heap.size W w') := fun k hk W hb => plainsD_any _ _ _ _ W ((HG.out W hb).each k hk) (HLL.out k hk)
  clear S1 HPl HF HC hcut d3 HBB
  go_upto_region 13 with fail
  go_cut [8] (fun v wx => ∃ D vc, v = .pointer (some ⟨D, 0, none⟩) /\ Hid (wx.heap[D]? = some (.cells #[.int .i64 (rn : Int), vc, .slice none 0 0, .slice none 0 0, .slice none 0 0, .bool false] 32)) /\ Hid (wx.ownsRow X.heap.size 50 1 vc cs.length (uJ (cs.map plD))) /\ Hid (Below X.heap.size X wx) /\ X.heap.size <= D)
  case first =>
   have bX : Below X.heap.size X X.drew := (Below.refl _ _).drew
   refine wp_region_noPanic ?_
   refine wp_region_held_drew (S := (fun W' => Below X.heap.size X W')) (by kernel_rfl) bX (fun _ => ?_)
   refine tzI 53 0 ?_ ?_ bX ?_
   rotate_left
   ·intro w' hSw; obtain ⟨c0, c1, c2, c3, c4, c5⟩ := cells6 ((hSw.block _ (blk_lt P2.out.2.1)).trans P2.out.2.1); go_simp; try with_reducible rfl
   try simp only [pA,pE,pB,pC,pD]
   refine tzI 54 1 ?_ ?_ bX ?_
   rotate_left
   ·intro w' hSw; obtain ⟨c0, c1, c2, c3, c4, c5⟩ := cells6 ((hSw.block _ (blk_lt P2.out.2.1)).trans P2.out.2.1); go_simp; try with_reducible rfl
   try simp only [pA,pE,pB,pC,pD]
   refine tzI 55 2 ?_ ?_ bX ?_
   rotate_left
   ·intro w' hSw; obtain ⟨c0, c1, c2, c3, c4, c5⟩ := cells6 ((hSw.block _ (blk_lt P2.out.2.1)).trans P2.out.2.1); go_simp; try with_reducible rfl
   try simp only [pA,pE,pB,pC,pD]
   refine tzI 56 3 ?_ ?_ bX ?_
   rotate_left
   ·intro w' hSw; obtain ⟨c0, c1, c2, c3, c4, c5⟩ := cells6 ((hSw.block _ (blk_lt P2.out.2.1)).trans P2.out.2.1); go_simp; try with_reducible rfl
   try simp only [pA,pE,pB,pC,pD]
   obtain ⟨V, hV⟩ : ∃ V, X.drew = V := ⟨_, rfl⟩
   have bV : Below X.heap.size X V := hV ▸ bX
   rw [hV]
   clear hV bX
   refine rzH [4, 6] ?_
   refine consH _ rfl ?_ (consH _ rfl ?_ AllReadyH.nil)
   ·refine hzC 57 (Calls.mono (HPA.out _ (to_callD P2.out.1 bV)) ?_)
    rintro e Vc ⟨vc, rfl, o1, hb⟩
    obtain ⟨avc, pvc, hvc, -⟩ := owns_slice o1
    skip
    subst hvc
    have bVc : Below X.heap.size X Vc := bV.trans (hb.mono bV.size)
    have ocVc := owns_monoJ o1 bV.size
    refine ⟨_, rfl, bVc, ?_⟩
    try simp only [pA,pE,pB,pC,pD]
    refine tzH 58 5 (.agg #[.int .i64 (rn : Int), (.slice avc cs.length pvc), .slice none 0 0, .slice none 0 0, .slice none 0 0, .bool false]) (Or.inl ⟨by kernel_rfl, fun w' _ => by kernel_rfl⟩) bVc ?_
    try simp only [pA,pE,pB,pC,pD]
    refine rzH [6] ?_
    refine consH _ rfl ?_ AllReadyH.nil
    refine hopAJ 8 rfl rfl rfl 32 rfl #[.int .i64 0, .slice none 0 0, .slice none 0 0, .slice none 0 0, .slice none 0 0, .bool false] allocUJ fun D Vca hDVca hDl hb => ?_
    have bVca : Below X.heap.size X Vca := bVc.trans (hb.mono bVc.size)
    have hDX : X.heap.size <= D := Nat.le_trans bVc.size hDl
    have ocVca := owns_keepT ocVc fun k cur hc => hb.block k (blk_lt hc)
    refine ⟨bVca, ?_⟩
    try simp only [pA,pE,pB,pC,pD]
    refine rzH [7] ?_
    refine consH _ rfl (hopL rfl (wpList_store_row (by rfl) 32 _ _ (by rfl) X X.heap.size D #[.int .i64 (rn : Int), (.slice avc cs.length pvc), .slice none 0 0, .slice none 0 0, .slice none 0 0, .bool false] _ (by kernel_rfl) (by kernel_rfl) hDVca bVca hDX 6 Tryz.infoZu (by rfl) (by rfl) (oneZ _ _ _ _ _ (own_valJ ocVca).1 rfl rfl rfl _) fun W9 e9 b9 hs9 ho9 => ?_)) AllReadyH.nil
    refine (And.intro b9 ?_ : _ /\ _)
    try simp only [pA,pE,pB,pC,pD]
    refine wpAnyH_done (by kernel_rfl) ?_ _
    refine NoPanic.normal ?_
    try simp only [pA,pE,pB,pC,pD]
    go_wp2_with fail
    go_meet
    have hk9 : ∀ (k : Nat) (cur : Array Value), Vca.heap[k]? = some (.cells cur 50) -> W9.heap[k]? = Vca.heap[k]? := fun k cur hc => ho9 k (by rintro rfl; rw [hDVca] at hc; cases hc)
    exact ⟨D, (.slice avc cs.length pvc), rfl, e9, owns_keepT ocVca hk9, b9, hDX⟩
   ·refine hopAJ 8 rfl rfl rfl 32 rfl #[.int .i64 0, .slice none 0 0, .slice none 0 0, .slice none 0 0, .slice none 0 0, .bool false] allocUJ fun D Va hDVa hDl hb => ?_
    have bVa : Below X.heap.size X Va := bV.trans (hb.mono bV.size)
    have hDX : X.heap.size <= D := Nat.le_trans bV.size hDl
    refine ⟨bVa, ?_⟩
    try simp only [pA,pE,pB,pC,pD]
    refine rzH [4] ?_
    refine consH _ rfl ?_ AllReadyH.nil
    refine hzC 57 (Calls.mono (HPA.out _ (to_callD P2.out.1 bVa)) ?_)
    rintro e Vac ⟨vc, rfl, o1, hb⟩
    obtain ⟨avc, pvc, hvc, -⟩ := owns_slice o1
    skip
    subst hvc
    have bVac : Below X.heap.size X Vac := bVa.trans (hb.mono bVa.size)
    have hDVac := kept hb hDVa
    have ocVac := owns_monoJ o1 bVa.size
    refine ⟨_, rfl, bVac, ?_⟩
    try simp only [pA,pE,pB,pC,pD]
    refine tzH 58 5 (.agg #[.int .i64 (rn : Int), (.slice avc cs.length pvc), .slice none 0 0, .slice none 0 0, .slice none 0 0, .bool false]) (Or.inl ⟨by kernel_rfl, fun w' _ => by kernel_rfl⟩) bVac ?_
    try simp only [pA,pE,pB,pC,pD]
    refine rzH [7] ?_
    refine consH _ rfl (hopL rfl (wpList_store_row (by rfl) 32 _ _ (by rfl) X X.heap.size D #[.int .i64 (rn : Int), (.slice avc cs.length pvc), .slice none 0 0, .slice none 0 0, .slice none 0 0, .bool false] _ (by kernel_rfl) (by kernel_rfl) hDVac bVac hDX 6 Tryz.infoZu (by rfl) (by rfl) (oneZ _ _ _ _ _ (own_valJ ocVac).1 rfl rfl rfl _) fun W9 e9 b9 hs9 ho9 => ?_)) AllReadyH.nil
    refine (And.intro b9 ?_ : _ /\ _)
    try simp only [pA,pE,pB,pC,pD]
    refine wpAnyH_done (by kernel_rfl) ?_ _
    refine NoPanic.normal ?_
    try simp only [pA,pE,pB,pC,pD]
    go_wp2_with fail
    go_meet
    have hk9 : ∀ (k : Nat) (cur : Array Value), Vac.heap[k]? = some (.cells cur 50) -> W9.heap[k]? = Vac.heap[k]? := fun k cur hc => ho9 k (by rintro rfl; rw [hDVac] at hc; cases hc)
    exact ⟨D, (.slice avc cs.length pvc), rfl, e9, owns_keepT ocVac hk9, b9, hDX⟩
  case rest =>
  obtain ⟨D, vc, rfl, ED, EC, EB, hDX⟩ := hcut
  have hD1 : w.heap.size + 1 < D := Nat.lt_of_lt_of_le (blk_lt P2.out.2.2) hDX
  have hDl : w.heap.size <= D := by omega
  have T3 : Hid (RdT w wc #[.int .i64 (rn : Int), .slice co cn cc, .slice io gn dc, .slice go gn gc, .slice ro rn rc, .bool bad] G gn F (cs.map plD) [] ((pkD (fun j => !F j) 0).map fun j => ids[j]?.getD 0) ((pkD (fun j => !F j) 0).map fun j => (gs[j]?.getD []).map plD) vc (.slice none 0 0) (.slice none 0 0) (.slice none 0 0) [] /\ wc.heap[D]? = some (.cells #[.int .i64 (rn : Int), vc, .slice none 0 0, .slice none 0 0, .slice none 0 0, .bool false] 32)) := ⟨⟨to_callD P2.out.1 EB.out, kept EB.out P2.out.2.1, kept EB.out P2.out.2.2, kept EB.out PMA.out, ⟨by rw [List.length_map]; exact owns_monoJ EC.out P2.out.1.size, World.ownsRow_nil _ _ _ _, World.ownsRow_nil _ _ _ _, World.ownsRow_nil _ _ _ _, rfl, fun j u hj => (by simp at hj)⟩, fun g hg => by cases hg⟩, ED.out⟩
  clear ED EC EB hDX P2 PMA HPA
  go_wp2_with fail
  go_loopg [9] gn (fun g v9 wx => ∃ (k : Nat) (vi vg : Value) (gl : List Value), v9 = .int .i64 k /\ k + g = gn /\ Hid (RdT w wx #[.int .i64 (rn : Int), .slice co cn cc, .slice io gn dc, .slice go gn gc, .slice ro rn rc, .bool bad] G gn F (cs.map plD) [] ((pkD (fun j => !F j) k).map fun j => ids[j]?.getD 0) ((pkD (fun j => !F j) k).map fun j => (gs[j]?.getD []).map plD) vc (.slice none 0 0) vi vg gl /\ wx.heap[D]? = some (.cells #[.int .i64 (rn : Int), vc, vi, vg, .slice none 0 0, .bool false] 32)))
  case atStart => exact ⟨0, _, _, [], rfl, by omega, T3⟩
  case round =>
   clear T3
   obtain ⟨k, vi, vg, gl, rfl, hk, HJ⟩ := hrel
   obtain ⟨d0, d1, d2, d3, d4, d5⟩ := cells6 HJ.out.1.zb
   clear d0 d1 d2 d4 d5
   by_cases hlt : k < gn
   ·have hd : decide ((k : Int) < (gn : Int)) = true := decide_eq_true (by omega)
    obtain ⟨q, rfl⟩ : ∃ q, gk = q + 1 := ⟨gk - 1, by omega⟩
    have HIG : Hid (k + (q + 1) = gn) := hk
    have hlt' : (k : Int) < (gn : Int) := by omega
    have gc1 : wr.cell? ⟨G, k, none⟩ = some (.bool (F k)) := by rw [cell_of_row _ G _ _ _ _ HJ.out.1.ma]; exact blN_at gn F k hlt
    clear hk
    cases hf : F k with
    | true =>
     rw [hf] at gc1
     have HPN : Hid (pkD (fun j => !F j) (k + 1) = pkD (fun j => !F j) k) := pkD_no (by simp [hf])
     clear hf
     go_wp2_with fail
     go_roundg q
     case measure => omega
     case rel => exact ⟨k + 1, vi, vg, gl, by go_num, by have := HIG.out; omega, by unfold Hid; rw [HPN.out]; exact HJ.out⟩
    | false =>
     rw [hf] at gc1
     have HPY : Hid (pkD (fun j => !F j) (k + 1) = pkD (fun j => !F j) k ++ [k]) := pkD_yes (by simp [hf])
     clear hf
     have HPN : Hid ((pkD (fun j => !F j) k).length <= k) := pkD_len _ _
     rcases (HI.out _ HJ.out.1.bel).cells with h0 | ⟨ib, ioff, hio, hci⟩
     ·omega
     rcases (HG.out _ HJ.out.1.bel).cells with h0 | ⟨gb, goff, hgo, hcg⟩
     ·omega
     subst hio
     subst hgo
     obtain ⟨y, hy⟩ : ∃ y, ids[k]?.getD 0 = y := ⟨_, rfl⟩
     have HYE : Hid (ids[k]?.getD 0 = y) := hy
     have HIY : Hid (∀ W, Below w.heap.size w W -> W.cell? ⟨ib, ioff + k, none⟩ = some (.int .i64 y)) := by
      intro W hb
      rcases (HI.out W hb).cells with h0 | ⟨ib', ioff', hio, hci'⟩
      ·omega
      ·cases hio
       rw [hci' k hlt, hy]
     have HLI : Hid (((pkD (fun j => !F j) k).map fun j => ids[j]?.getD 0).length + 1 <= 4000000) := by unfold Hid; rw [List.length_map]; have := HPN.out; omega
     have HLG : Hid (gl.length + 1 <= 4000000) := by unfold Hid; rw [HJ.out.1.l.len, List.length_map]; have := HPN.out; omega
     have LV := HJ.out.1.later (Below.refl _ wr).drew
     have sV : (wr.drew.heap[D]? = some (.cells #[.int .i64 (rn : Int), vc, vi, vg, .slice none 0 0, .bool false] 32) /\ wr.drew.heap[w.heap.size]? = some (.cells #[.int .i64 (rn : Int), .slice co cn cc, .slice (some ⟨ib, ioff, none⟩) gn dc, .slice (some ⟨gb, goff, none⟩) gn gc, .slice ro rn rc, .bool bad] 32) /\ wr.drew.cell? ⟨ib, ioff + k, none⟩ = some (.int .i64 y)) := ⟨HJ.out.2, LV.zb, HIY.out _ LV.bel⟩
     clear hci hcg hy HPN
     go_upto_region 18 with fail
     refine wp_region_noPanic ?_
     refine wp_region_P (fun V => (V.heap[D]? = some (.cells #[.int .i64 (rn : Int), vc, vi, vg, .slice none 0 0, .bool false] 32) /\ V.heap[w.heap.size]? = some (.cells #[.int .i64 (rn : Int), .slice co cn cc, .slice (some ⟨ib, ioff, none⟩) gn dc, .slice (some ⟨gb, goff, none⟩) gn gc, .slice ro rn rc, .bool bad] 32) /\ V.cell? ⟨ib, ioff + k, none⟩ = some (.int .i64 y))) 10 (by kernel_rfl) ?_
     refine tzQ 71 0 ?_ ?_ (fun _ => sV) ?_
     rotate_left
     ·intro w' hSw; go_simp; try with_reducible rfl
     try simp only [pA,pE,pB,pC,pD]
     refine tzP 72 1 ?_ (Or.inl ⟨by kernel_rfl, ?_⟩) sV ?_
     rotate_left
     ·intro w' hSw; obtain ⟨c0, c1, c2, c3, c4, c5⟩ := cells6 hSw.1; obtain ⟨z0, z1, z2, z3, z4, z5⟩ := cells6 hSw.2.1; have q0 := hSw.2.2; go_simp; try with_reducible rfl
     try simp only [pA,pE,pB,pC,pD]
     refine tzQ 73 2 ?_ ?_ (fun _ => sV) ?_
     rotate_left
     ·intro w' hSw; go_simp; try with_reducible rfl
     try simp only [pA,pE,pB,pC,pD]
     refine tzP 74 3 ?_ (Or.inl ⟨by kernel_rfl, ?_⟩) sV ?_
     rotate_left
     ·intro w' hSw; obtain ⟨c0, c1, c2, c3, c4, c5⟩ := cells6 hSw.1; obtain ⟨z0, z1, z2, z3, z4, z5⟩ := cells6 hSw.2.1; have q0 := hSw.2.2; go_simp; try with_reducible rfl
     try simp only [pA,pE,pB,pC,pD]
     refine tzQ 75 4 ?_ ?_ (fun _ => sV) ?_
     rotate_left
     ·intro w' hSw; go_simp; try with_reducible rfl
     try simp only [pA,pE,pB,pC,pD]
     refine tzQ 76 5 ?_ ?_ (fun _ => sV) ?_
     rotate_left
     ·intro w' hSw; go_simp; try with_reducible rfl
     try simp only [pA,pE,pB,pC,pD]
     refine tzP 77 6 ?_ (Or.inl ⟨by kernel_rfl, ?_⟩) sV ?_
     rotate_left
     ·intro w' hSw; obtain ⟨c0, c1, c2, c3, c4, c5⟩ := cells6 hSw.1; obtain ⟨z0, z1, z2, z3, z4, z5⟩ := cells6 hSw.2.1; have q0 := hSw.2.2; go_simp; try with_reducible rfl
     try simp only [pA,pE,pB,pC,pD]
     refine rzP [7] ?_
     refine consP _ rfl (hopBJ 78 (Value.int .i64 y) 3 rfl rfl rfl (by kernel_rfl) fun I V2 hI b2 => ?_) AllReadyP.nil
     have s2 := And.intro (kept b2 sV.1) (And.intro (kept b2 sV.2.1) ((b2.cell (World.block_lt_of_cell? _ _ sV.2.2)).trans sV.2.2))
     have L2 := LV.later b2
     refine ⟨s2, ?_⟩
     try simp only [pA,pE,pB,pC,pD]
     refine rzP [8] ?_
     refine consP _ rfl (hopL rfl (append_gsJ Tryz.underlying23 Tryz.infoIJ rfl (by decide) (by decide) V2 (by rfl) _ _ (by rfl) w.heap.size vi _ _ (by kernel_rfl) L2.l.i ⟨I, 0, none⟩ 1 1 [Value.int .i64 y] (by kernel_rfl) rfl (news_oneJ hI) (oneI _ rfl) HLI.out L2.bel.size fun v6 w6 o6 g6 => ?_)) AllReadyP.nil
     change QK _ _ Exit.normal (Act.put _ (some 79) v6) w6
     have L6 : RdT w w6 #[.int .i64 (rn : Int), .slice co cn cc, .slice (some ⟨ib, ioff, none⟩) gn dc, .slice (some ⟨gb, goff, none⟩) gn gc, .slice ro rn rc, .bool bad] G gn F (cs.map plD) [] (((pkD (fun j => !F j) k).map fun j => ids[j]?.getD 0) ++ [y]) ((pkD (fun j => !F j) k).map fun j => (gs[j]?.getD []).map plD) vc (.slice none 0 0) v6 vg gl := L2.pushI g6 (by rw [List.length_append, List.map_append]; exact o6)
     have s6D := (grw_types L2.l.i g6 D _ _ (by decide) s2.1).trans s2.1
     have s6 := And.intro s6D (And.intro L6.zb (HIY.out w6 L6.bel))
     refine (And.intro s6 ?_ : _ /\ _)
     try simp only [pA,pE,pB,pC,pD]
     clear g6
     refine tzQ 80 9 ?_ ?_ (fun _ => s6) ?_
     rotate_left
     ·intro w' hSw; go_simp; try with_reducible rfl
     try simp only [pA,pE,pB,pC,pD]
     refine rzP [10] ?_
     refine consPs _ rfl (by kernel_rfl) (hopL rfl (wpList_store_at (by rfl) 23 _ _ (by rfl) w w.heap.size D 2 v6 _ #[.int .i64 (rn : Int), vc, v6, vg, .slice none 0 0, .bool false] 32 (by kernel_rfl) (by kernel_rfl) s6D L6.bel hDl 1 Tryz.szIs (by rw [(own_valJ L6.l.i).2]; rfl) (Nat.le_of_ble_eq_true rfl) (by intro u hu; rw [(own_valJ L6.l.i).2] at hu; simp only [List.mem_cons, List.not_mem_nil, or_false] at hu; subst hu; exact (own_valJ L6.l.i).1) (by rw [(own_valJ L6.l.i).2]; rfl) fun w8 e8 b8 s8 k8 => ?_)) AllReadyP.nil
     refine (And.intro trivial ?_ : _ /\ _)
     refine put_noneP rfl ?_
     try simp only [pA,pE,pB,pC,pD]
     refine wpAnyP_done (by kernel_rfl) ?_ _
     refine NoPanic.normal ?_
     try simp only [pA,pE,pB,pC,pD]
     have E8 : Hid (RdT w w8 #[.int .i64 (rn : Int), .slice co cn cc, .slice (some ⟨ib, ioff, none⟩) gn dc, .slice (some ⟨gb, goff, none⟩) gn gc, .slice ro rn rc, .bool bad] G gn F (cs.map plD) [] (((pkD (fun j => !F j) k).map fun j => ids[j]?.getD 0) ++ [y]) ((pkD (fun j => !F j) k).map fun j => (gs[j]?.getD []).map plD) vc (.slice none 0 0) v6 vg gl /\ w8.heap[D]? = some (.cells #[.int .i64 (rn : Int), vc, v6, vg, .slice none 0 0, .bool false] 32)) := ⟨L6.setD s6D hD1 k8 b8, e8⟩
     clear s6D s6 L6 e8 b8 s8 k8 o6 L2 b2 hI s2 sV LV
     clear HJ d3 gc1
     go_upto_region 19 with fail
     have LV := E8.out.1.later (Below.refl _ w8).drew
     have sV : (w8.drew.heap[D]? = some (.cells #[.int .i64 (rn : Int), vc, v6, vg, .slice none 0 0, .bool false] 32) /\ w8.drew.heap[w.heap.size]? = some (.cells #[.int .i64 (rn : Int), .slice co cn cc, .slice (some ⟨ib, ioff, none⟩) gn dc, .slice (some ⟨gb, goff, none⟩) gn gc, .slice ro rn rc, .bool bad] 32) /\ RdGu w8.drew (some ⟨gb, goff, none⟩) gn gc gv gs) := ⟨E8.out.2, LV.zb, HG.out _ LV.bel⟩
     refine wp_region_noPanic ?_
     refine wp_region_P (fun V => (V.heap[D]? = some (.cells #[.int .i64 (rn : Int), vc, v6, vg, .slice none 0 0, .bool false] 32) /\ V.heap[w.heap.size]? = some (.cells #[.int .i64 (rn : Int), .slice co cn cc, .slice (some ⟨ib, ioff, none⟩) gn dc, .slice (some ⟨gb, goff, none⟩) gn gc, .slice ro rn rc, .bool bad] 32) /\ RdGu V (some ⟨gb, goff, none⟩) gn gc gv gs)) 11 (by kernel_rfl) ?_
     refine tzQ 81 0 ?_ ?_ (fun _ => sV) ?_
     rotate_left
     ·intro w' hSw; go_simp; try with_reducible rfl
     try simp only [pA,pE,pB,pC,pD]
     refine tzP 82 1 ?_ (Or.inl ⟨by kernel_rfl, ?_⟩) sV ?_
     rotate_left
     ·intro w' hSw; obtain ⟨c0, c1, c2, c3, c4, c5⟩ := cells6 hSw.1; obtain ⟨z0, z1, z2, z3, z4, z5⟩ := cells6 hSw.2.1; have q0 := rdGu_at hSw.2.2 hlt; go_simp; try with_reducible rfl
     try simp only [pA,pE,pB,pC,pD]
     refine tzQ 83 2 ?_ ?_ (fun _ => sV) ?_
     rotate_left
     ·intro w' hSw; go_simp; try with_reducible rfl
     try simp only [pA,pE,pB,pC,pD]
     refine tzP 84 3 ?_ (Or.inl ⟨by kernel_rfl, ?_⟩) sV ?_
     rotate_left
     ·intro w' hSw; obtain ⟨c0, c1, c2, c3, c4, c5⟩ := cells6 hSw.1; obtain ⟨z0, z1, z2, z3, z4, z5⟩ := cells6 hSw.2.1; have q0 := rdGu_at hSw.2.2 hlt; go_simp; try with_reducible rfl
     try simp only [pA,pE,pB,pC,pD]
     refine tzQ 85 4 ?_ ?_ (fun _ => sV) ?_
     rotate_left
     ·intro w' hSw; go_simp; try with_reducible rfl
     try simp only [pA,pE,pB,pC,pD]
     refine tzQ 86 5 ?_ ?_ (fun _ => sV) ?_
     rotate_left
     ·intro w' hSw; go_simp; try with_reducible rfl
     try simp only [pA,pE,pB,pC,pD]
     refine tzP 87 6 ?_ (Or.inl ⟨by kernel_rfl, ?_⟩) sV ?_
     rotate_left
     ·intro w' hSw; obtain ⟨c0, c1, c2, c3, c4, c5⟩ := cells6 hSw.1; obtain ⟨z0, z1, z2, z3, z4, z5⟩ := cells6 hSw.2.1; have q0 := rdGu_at hSw.2.2 hlt; go_simp; try with_reducible rfl
     try simp only [pA,pE,pB,pC,pD]
     refine rzP [7] ?_
     refine consP _ rfl (hzC 88 (Calls.mono (HPC.out k hlt _ LV.bel) ?_)) AllReadyP.nil
     rintro e V1 ⟨v1, rfl, o1, b1⟩
     obtain ⟨a1, cp1, hv1, -⟩ := owns_slice o1
     subst hv1
     have s1 := And.intro (kept b1 sV.1) (And.intro (kept b1 sV.2.1) (sV.2.2.later b1))
     have L1 := LV.later b1
     have o1' := owns_monoJ o1 LV.bel.size
     refine ⟨_, rfl, s1, ?_⟩
     try simp only [pA,pE,pB,pC,pD]
     refine rzP [8] ?_
     refine consP _ rfl (hopBJ 89 (Value.slice a1 (gs[k]?.getD []).length cp1) 29 rfl rfl rfl (by kernel_rfl) fun I V2 hI b2 => ?_) AllReadyP.nil
     have s2 := And.intro (kept b2 s1.1) (And.intro (kept b2 s1.2.1) (s1.2.2.later b2))
     have L2 := L1.later b2
     have o2 := owns_keepT o1' fun k cur hc => b2.block k (blk_lt hc)
     refine ⟨s2, ?_⟩
     try simp only [pA,pE,pB,pC,pD]
     refine rzP [9] ?_
     refine consP _ rfl (hopL rfl (append_gsJ Tryz.underlying30 Tryz.infoUsJ rfl (by decide) (by decide) V2 (by rfl) _ _ (by rfl) w.heap.size vg _ _ (by kernel_rfl) L2.l.g ⟨I, 0, none⟩ 1 1 [(Value.slice a1 (gs[k]?.getD []).length cp1)] (by kernel_rfl) rfl (news_oneJ hI) (oneI _ (own_valJ o2).1) HLG.out L2.bel.size fun v7 w6 o6 g6 => ?_)) AllReadyP.nil
     change QK _ _ Exit.normal (Act.put _ (some 90) v7) w6
     have L6 : RdT w w6 #[.int .i64 (rn : Int), .slice co cn cc, .slice (some ⟨ib, ioff, none⟩) gn dc, .slice (some ⟨gb, goff, none⟩) gn gc, .slice ro rn rc, .bool bad] G gn F (cs.map plD) [] (((pkD (fun j => !F j) k).map fun j => ids[j]?.getD 0) ++ [y]) (((pkD (fun j => !F j) k).map fun j => (gs[j]?.getD []).map plD) ++ [(gs[k]?.getD []).map plD]) vc (.slice none 0 0) v6 v7 (gl ++ [(Value.slice a1 (gs[k]?.getD []).length cp1)]) := L2.pushG rfl g6 o6 (by rw [List.length_map]; exact o2)
     have s6D := (grw_types L2.l.g g6 D _ _ (by decide) s2.1).trans s2.1
     have s6 := And.intro s6D (And.intro L6.zb (HG.out w6 L6.bel))
     refine (And.intro s6 ?_ : _ /\ _)
     try simp only [pA,pE,pB,pC,pD]
     clear g6
     refine tzQ 91 10 ?_ ?_ (fun _ => s6) ?_
     rotate_left
     ·intro w' hSw; go_simp; try with_reducible rfl
     try simp only [pA,pE,pB,pC,pD]
     refine rzP [11] ?_
     refine consPs _ rfl (by kernel_rfl) (hopL rfl (wpList_store_at (by rfl) 30 _ _ (by rfl) w w.heap.size D 3 v7 _ #[.int .i64 (rn : Int), vc, v6, v7, .slice none 0 0, .bool false] 32 (by kernel_rfl) (by kernel_rfl) s6D L6.bel hDl 1 Tryz.szUss (by rw [(own_valJ L6.l.g).2]; rfl) (Nat.le_of_ble_eq_true rfl) (by intro u hu; rw [(own_valJ L6.l.g).2] at hu; simp only [List.mem_cons, List.not_mem_nil, or_false] at hu; subst hu; exact (own_valJ L6.l.g).1) (by rw [(own_valJ L6.l.g).2]; rfl) fun w8 e8 b8 s8 k8 => ?_)) AllReadyP.nil
     refine (And.intro trivial ?_ : _ /\ _)
     refine put_noneP rfl ?_
     try simp only [pA,pE,pB,pC,pD]
     refine wpAnyP_done (by kernel_rfl) ?_ _
     refine NoPanic.normal ?_
     try simp only [pA,pE,pB,pC,pD]
     have E9 : Hid (RdT w w8 #[.int .i64 (rn : Int), .slice co cn cc, .slice (some ⟨ib, ioff, none⟩) gn dc, .slice (some ⟨gb, goff, none⟩) gn gc, .slice ro rn rc, .bool bad] G gn F (cs.map plD) [] ((pkD (fun j => !F j) (k + 1)).map fun j => ids[j]?.getD 0) ((pkD (fun j => !F j) (k + 1)).map fun j => (gs[j]?.getD []).map plD) vc (.slice none 0 0) v6 v7 (gl ++ [(Value.slice a1 (gs[k]?.getD []).length cp1)]) /\ w8.heap[D]? = some (.cells #[.int .i64 (rn : Int), vc, v6, v7, .slice none 0 0, .bool false] 32)) := ⟨by rw [HPY.out, List.map_append, List.map_append, List.map_cons, List.map_nil, List.map_cons, List.map_nil, HYE.out]; exact L6.setD s6D hD1 k8 b8, e8⟩
     clear s6D s6 L6 e8 b8 s8 k8 o6 L1 L2 b1 b2 hI s1 s2 sV LV o1 o1' o2
     go_wp2_with fail
     go_roundg q
     case measure => omega
     case rel => exact ⟨k + 1, _, _, _, by go_num, by have := HIG.out; omega, E9⟩
   ·have hd : decide ((k : Int) < (gn : Int)) = false := decide_eq_false (by omega)
    have hd' : decide (k < gn) = false := decide_eq_false (by omega)
    have ek : k = gn := by omega
    rw [ek] at HJ
    have HTI : Hid (∀ (W : World) (v : Value) (T : Int) (i k : Nat), k <= 1050000 -> NumC W v E T (vlD rs gs F i k) -> NumC W v E 1300 (vlD rs gs F i k)) := fun W v T i k hk hz => by
     obtain ⟨X, hX⟩ : ∃ X : Nat, X = 2374 := ⟨_, rfl⟩
     exact NumC.tight hz (by decide) (X := X) (by rw [hX, HE.out]; rfl) (vlD_bound hX HFN.out.1 HFN.out.2 F i hk)
    have T4 : Hid ((RdT w wr #[.int .i64 (rn : Int), .slice co cn cc, .slice io gn dc, .slice go gn gc, .slice ro rn rc, .bool bad] G gn F (cs.map plD) [] ((pkD (fun j => !F j) gn).map fun j => ids[j]?.getD 0) ((pkD (fun j => !F j) gn).map fun j => (gs[j]?.getD []).map plD) vc (.slice none 0 0) vi vg gl /\ wr.heap[D]? = some (.cells #[.int .i64 (rn : Int), vc, vi, vg, .slice none 0 0, .bool false] 32)) /\ ([] : List Nat).length = 0 /\ ∀ j, j < 0 -> RndZ 1 (vlD rs gs F j gn) 1 (([] : List Nat)[j]?.getD 0, true)) := ⟨HJ.out, rfl, fun j hj => absurd hj (Nat.not_lt_zero _)⟩
    clear hk ek HJ HPC HI hlt
    go_wp2_with fail
    go_loopg [10] rn (fun g v10 wx => ∃ (i : Nat) (us : List Nat) (vr : Value), v10 = .int .i64 i /\ i + g = rn /\ Hid ((RdT w wx #[.int .i64 (rn : Int), .slice co cn cc, .slice io gn dc, .slice go gn gc, .slice ro rn rc, .bool bad] G gn F (cs.map plD) us ((pkD (fun j => !F j) gn).map fun j => ids[j]?.getD 0) ((pkD (fun j => !F j) gn).map fun j => (gs[j]?.getD []).map plD) vc (vr) vi vg gl /\ wx.heap[D]? = some (.cells #[.int .i64 (rn : Int), vc, vi, vg, vr, .bool false] 32)) /\ us.length = i /\ ∀ j, j < i -> RndZ 1 (vlD rs gs F j gn) 1 (us[j]?.getD 0, true)))
    case atStart => exact ⟨0, [], _, rfl, by omega, T4⟩
    case round =>
     clear T4 d3 hd hd'
     obtain ⟨i, us, vr, rfl, hi, HJ⟩ := hrel
     obtain ⟨d0, d1, d2, d3, d4, d5⟩ := cells6 HJ.out.1.1.zb
     clear d1 d2 d3 d5
     by_cases hlt : i < rn
     ·have hd : decide ((i : Int) < (rn : Int)) = true := decide_eq_true (by omega)
      obtain ⟨q, rfl⟩ : ∃ q, gk = q + 1 := ⟨gk - 1, by omega⟩
      have HIG : Hid (i + (q + 1) = rn) := hi
      have hlt' : (i : Int) < (rn : Int) := by omega
      rcases (HR.out _ HJ.out.1.1.bel).cells with h0 | ⟨rb, roff, hro, hcr⟩
      ·omega
      subst hro
      have gr := hcr i hlt
      obtain ⟨x, hx⟩ : ∃ x, rs[i]?.getD 0 = x := ⟨_, rfl⟩
      rw [hx] at gr
      have HVA : Hid (∀ W, Calls Tryz.prog 27 #[.int .u64 ((x : Nat) : Int)] W fun e w' => ∃ v, e = .returned v /\ NumC w' v E 1024 (vlD rs gs F i 0) /\ Below W.heap.size W w') := fun W => by
       have h1 := valueD_any x (by rw [<- hx]; exact HLT.out.1 i) E HE.out W
       have h2 : fz x = x := by unfold fz; rw [if_pos (by rw [<- hx]; exact HFN.out.1 i)]
       rw [h2] at h1
       rw [vlD_zero, hx]
       exact h1
      clear hcr hi hx
      go_upto_region 24 with (first
       | (go_at_call 27; refine Calls.mono (HVA.out _) ?_; rintro e w3 ⟨v3, rfl, z3, b3⟩; obtain ⟨n3, o3, l3, c3, x3, hv3⟩ := z3.form; subst hv3))
      obtain ⟨V, hV⟩ : ∃ V, (w3.alloc (.cells #[.bool n3, .slice o3 l3 c3, .int .i64 x3] 65)) = V := ⟨_, rfl⟩
      obtain ⟨B11, hB⟩ : ∃ b, w3.heap.size = b := ⟨_, rfl⟩
      have A1 : Below w3.heap.size w3 V := by rw [<- hV]; exact (Below.refl _ w3).alloc (Nat.le_refl _) _
      have Y1 : V.heap[B11]? = some (.cells #[.bool n3, .slice o3 l3 c3, .int .i64 x3] 65) := by rw [<- hV, <- hB]; exact heap_alloc_new w3 _
      have bc : Below wr.heap.size wr V := to_callD b3 A1
      have hB11 : w.heap.size <= B11 := by rw [<- hB]; exact Nat.le_trans HJ.out.1.1.bel.size b3.size
      have T5 : Hid (RdT w V #[.int .i64 (rn : Int), .slice co cn cc, .slice io gn dc, .slice go gn gc, .slice (some ⟨rb, roff, none⟩) rn rc, .bool bad] G gn F (cs.map plD) us ((pkD (fun j => !F j) gn).map fun j => ids[j]?.getD 0) ((pkD (fun j => !F j) gn).map fun j => (gs[j]?.getD []).map plD) vc (vr) vi vg gl /\ V.heap[D]? = some (.cells #[.int .i64 (rn : Int), vc, vi, vg, vr, .bool false] 32) /\ BxN V B11 E 1300 (vlD rs gs F i 0) n3 o3 l3 c3 x3) := ⟨HJ.out.1.1.later bc, kept bc HJ.out.1.2, Y1, (z3.later A1).mono (by omega)⟩
      have HUS : Hid (us.length = i /\ ∀ j, j < i -> RndZ 1 (vlD rs gs F j gn) 1 (us[j]?.getD 0, true)) := HJ.out.2
      rw [hV, hB]
      clear hV hB A1 Y1 bc z3 b3 HJ gr d0 d4 HVA
      go_wp2_with fail
      go_loopg [12] gn (fun g v12 wx => ∃ (k : Nat) (n1 : Bool) (o1 : Option Addr) (l1 c1 : Nat) (x1 : Int), v12 = .int .i64 k /\ k + g = gn /\ Hid (RdT w wx #[.int .i64 (rn : Int), .slice co cn cc, .slice io gn dc, .slice go gn gc, .slice (some ⟨rb, roff, none⟩) rn rc, .bool bad] G gn F (cs.map plD) us ((pkD (fun j => !F j) gn).map fun j => ids[j]?.getD 0) ((pkD (fun j => !F j) gn).map fun j => (gs[j]?.getD []).map plD) vc (vr) vi vg gl /\ wx.heap[D]? = some (.cells #[.int .i64 (rn : Int), vc, vi, vg, vr, .bool false] 32) /\ BxN wx B11 E 1300 (vlD rs gs F i k) n1 o1 l1 c1 x1))
      case atStart => exact ⟨0, _, _, _, _, _, rfl, by omega, T5⟩
      case round =>
       clear T5
       obtain ⟨k, n1, o1, l1, c1, x1, rfl, hk, HJ⟩ := hrel
       obtain ⟨d0, d1, d2, d3, d4, d5⟩ := cells6 HJ.out.1.zb
       clear d1 d2 d4 d5
       by_cases hkn : k < gn
       ·have hd2 : decide ((k : Int) < (gn : Int)) = true := decide_eq_true (by omega)
        obtain ⟨q2, rfl⟩ : ∃ q2, gk = q2 + 1 := ⟨gk - 1, by omega⟩
        have HIK : Hid (k + (q2 + 1) = gn) := hk
        have hkn' : (k : Int) < (gn : Int) := by omega
        have gc1 : wr.cell? ⟨G, k, none⟩ = some (.bool (F k)) := by rw [cell_of_row _ G _ _ _ _ HJ.out.1.ma]; exact blN_at gn F k hkn
        clear hk d0
        cases hf : F k with
        | false =>
         rw [hf] at gc1
         have HVN : Hid (vlD rs gs F i (k + 1) = vlD rs gs F i k) := vlD_no hf
         clear hf
         go_wp2_with fail
         go_roundg q2
         case measure => omega
         case rel => exact ⟨k + 1, n1, o1, l1, c1, x1, by go_num, by have := HIK.out; omega, by unfold Hid; rw [HVN.out]; exact HJ.out⟩
        | true =>
         rw [hf] at gc1
         have HVY0 : vlD rs gs F i (k + 1) = vlD rs gs F i k + (rmag (frung ((gs[k]?.getD [])[i]?.getD 0)) : Int) := vlD_yes hf
         clear hf
         rcases (HG.out _ HJ.out.1.bel).cells with h0 | ⟨gb, goff, hgo, hcg⟩
         ·omega
         subst hgo
         have hcg1 := hcg k hkn
         have hec := (HG.out _ HJ.out.1.bel).each k hkn
         have hgvr := HGV.out k hkn
         obtain ⟨⟨ga, gln, gcp⟩, hgv⟩ : ∃ p, gv k = p := ⟨_, rfl⟩
         rw [hgv] at hcg1 hec hgvr
         dsimp only at hcg1 hec hgvr
         have hgvr' := hgvr.symm
         rcases hec.cells with h0 | ⟨cb, coff, hga, hcc⟩
         ·omega
         subst hga
         have hil : i < gln := by omega
         have hil' : (i : Int) < (gln : Int) := by omega
         have hcx := hcc i hil
         obtain ⟨x, hx⟩ : ∃ x, (gs[k]?.getD [])[i]?.getD 0 = x := ⟨_, rfl⟩
         rw [hx] at hcx HVY0
         have HVY : Hid (vlD rs gs F i (k + 1) = vlD rs gs F i k + (rmag (frung x) : Int)) := HVY0
         have HVA : Hid (∀ W, Calls Tryz.prog 27 #[.int .u64 ((x : Nat) : Int)] W fun e w' => ∃ v, e = .returned v /\ NumC w' v E 1024 (fval x) /\ Below W.heap.size W w') := fun W => by
          have h1 := valueD_any x (by rw [<- hx]; exact HLT.out.2 k i) E HE.out W
          have h2 : fz x = x := by unfold fz; rw [if_pos (by rw [<- hx]; exact HFN.out.2 k i)]
          rw [h2] at h1
          exact h1
         have HLD : Hid (RdT w wr.drew #[.int .i64 (rn : Int), .slice co cn cc, .slice io gn dc, .slice (some ⟨gb, goff, none⟩) gn gc, .slice (some ⟨rb, roff, none⟩) rn rc, .bool bad] G gn F (cs.map plD) us ((pkD (fun j => !F j) gn).map fun j => ids[j]?.getD 0) ((pkD (fun j => !F j) gn).map fun j => (gs[j]?.getD []).map plD) vc (vr) vi vg gl) := HJ.out.1.later (Below.refl _ wr).drew
         have HOD : Hid (wr.drew.heap[D]? = some (.cells #[.int .i64 (rn : Int), vc, vi, vg, vr, .bool false] 32)) := HJ.out.2.1
         have HBN : Hid (NumC wr.drew (.agg #[.bool n1, .slice o1 l1 c1, .int .i64 x1]) E 1300 (vlD rs gs F i k)) := HJ.out.2.2.num.later (Below.refl _ wr).drew
         have SX : (wr.drew.heap[B11]? = some (.cells #[.bool n1, .slice o1 l1 c1, .int .i64 x1] 65) /\ wr.drew.cell? ⟨w.heap.size, 3, none⟩ = some (.slice (some ⟨gb, goff, none⟩) gn gc) /\ wr.drew.cell? ⟨gb, goff + k, none⟩ = some (.slice (some ⟨cb, coff, none⟩) gln gcp) /\ wr.drew.cell? ⟨cb, coff + i, none⟩ = some (.int .u64 ((x : Nat) : Int))) := ⟨HJ.out.2.2.row, d3, hcg1, hcx⟩
         clear hcg hcg1 hec hgv hgvr hgvr' hcc hcx hx HVY0 HJ
         go_upto_region 28 with fail
         refine wp_region_noPanic ?_
         refine wp_region_P (S := fun V => (V.heap[B11]? = some (.cells #[.bool n1, .slice o1 l1 c1, .int .i64 x1] 65) /\ V.cell? ⟨w.heap.size, 3, none⟩ = some (.slice (some ⟨gb, goff, none⟩) gn gc) /\ V.cell? ⟨gb, goff + k, none⟩ = some (.slice (some ⟨cb, coff, none⟩) gln gcp) /\ V.cell? ⟨cb, coff + i, none⟩ = some (.int .u64 ((x : Nat) : Int)))) (s := 12) (by kernel_rfl) ?_
         refine tzP 115 0 (.agg #[.bool n1, .slice o1 l1 c1, .int .i64 x1]) (Or.inl ⟨by kernel_rfl, fun w' hSw => ex_loadRN _ 65 _ rfl B11 (by kernel_rfl) w' _ hSw.1 _ Tryz.underlying65 rfl 3 Tryz.infoN3 rfl⟩) SX ?_
         try simp only [pA,pE,pB,pC,pD]
         refine tzP 116 1 ?_ (Or.inl ⟨by kernel_rfl, ?_⟩) SX ?_
         rotate_left
         ·intro w' hSw; obtain ⟨s1, s2, s3, s4⟩ := hSw; go_simp; try with_reducible rfl
         try simp only [pA,pE,pB,pC,pD]
         refine tzP 117 2 ?_ (Or.inl ⟨by kernel_rfl, ?_⟩) SX ?_
         rotate_left
         ·intro w' hSw; obtain ⟨s1, s2, s3, s4⟩ := hSw; go_simp; try with_reducible rfl
         try simp only [pA,pE,pB,pC,pD]
         refine tzP 118 3 ?_ (Or.inl ⟨by kernel_rfl, ?_⟩) SX ?_
         rotate_left
         ·intro w' hSw; obtain ⟨s1, s2, s3, s4⟩ := hSw; go_simp; try with_reducible rfl
         try simp only [pA,pE,pB,pC,pD]
         refine tzP 119 4 ?_ (Or.inl ⟨by kernel_rfl, ?_⟩) SX ?_
         rotate_left
         ·intro w' hSw; obtain ⟨s1, s2, s3, s4⟩ := hSw; go_simp; try with_reducible rfl
         try simp only [pA,pE,pB,pC,pD]
         refine tzP 120 5 ?_ (Or.inl ⟨by kernel_rfl, ?_⟩) SX ?_
         rotate_left
         ·intro w' hSw; obtain ⟨s1, s2, s3, s4⟩ := hSw; go_simp; try with_reducible rfl
         try simp only [pA,pE,pB,pC,pD]
         refine tzP 121 6 ?_ (Or.inl ⟨by kernel_rfl, ?_⟩) SX ?_
         rotate_left
         ·intro w' hSw; obtain ⟨s1, s2, s3, s4⟩ := hSw; go_simp; try with_reducible rfl
         try simp only [pA,pE,pB,pC,pD]
         refine tzP 122 7 ?_ (Or.inl ⟨by kernel_rfl, ?_⟩) SX ?_
         rotate_left
         ·intro w' hSw; obtain ⟨s1, s2, s3, s4⟩ := hSw; go_simp; try with_reducible rfl
         try simp only [pA,pE,pB,pC,pD]
         refine tzP 123 8 ?_ (Or.inl ⟨by kernel_rfl, ?_⟩) SX ?_
         rotate_left
         ·intro w' hSw; obtain ⟨s1, s2, s3, s4⟩ := hSw; go_simp; try with_reducible rfl
         try simp only [pA,pE,pB,pC,pD]
         refine rzP [9] ?_
         refine consP _ rfl (hzC 124 (Calls.mono (HVA.out _) ?_)) AllReadyP.nil
         rintro e V1 ⟨v2, rfl, hz2, b1⟩
         have SX1 : (V1.heap[B11]? = some (.cells #[.bool n1, .slice o1 l1 c1, .int .i64 x1] 65) /\ V1.cell? ⟨w.heap.size, 3, none⟩ = some (.slice (some ⟨gb, goff, none⟩) gn gc) /\ V1.cell? ⟨gb, goff + k, none⟩ = some (.slice (some ⟨cb, coff, none⟩) gln gcp) /\ V1.cell? ⟨cb, coff + i, none⟩ = some (.int .u64 ((x : Nat) : Int))) := ⟨kept b1 SX.1, (b1.cell (World.block_lt_of_cell? _ _ SX.2.1)).trans SX.2.1, (b1.cell (World.block_lt_of_cell? _ _ SX.2.2.1)).trans SX.2.2.1, (b1.cell (World.block_lt_of_cell? _ _ SX.2.2.2)).trans SX.2.2.2⟩
         have HC1 := HBN.out.later b1
         have L1 := HLD.out.later b1
         have E1 := kept b1 HOD.out
         clear b1 SX HBN HLD HOD
         refine ⟨_, rfl, SX1, ?_⟩
         try simp only [pA,pE,pB,pC,pD]
         refine rzP [10] ?_
         refine consP _ rfl (hzC 125 (Calls.mono (sizeC_any _ E 1024 _ _ hz2) ?_)) AllReadyP.nil
         rintro e V2 ⟨v4, rfl, hz4, b2⟩
         have SX2 : (V2.heap[B11]? = some (.cells #[.bool n1, .slice o1 l1 c1, .int .i64 x1] 65) /\ V2.cell? ⟨w.heap.size, 3, none⟩ = some (.slice (some ⟨gb, goff, none⟩) gn gc) /\ V2.cell? ⟨gb, goff + k, none⟩ = some (.slice (some ⟨cb, coff, none⟩) gln gcp) /\ V2.cell? ⟨cb, coff + i, none⟩ = some (.int .u64 ((x : Nat) : Int))) := ⟨kept b2 SX1.1, (b2.cell (World.block_lt_of_cell? _ _ SX1.2.1)).trans SX1.2.1, (b2.cell (World.block_lt_of_cell? _ _ SX1.2.2.1)).trans SX1.2.2.1, (b2.cell (World.block_lt_of_cell? _ _ SX1.2.2.2)).trans SX1.2.2.2⟩
         have HC2 := HC1.later b2
         have L2 := L1.later b2
         have E2 := kept b2 E1
         clear b2 SX1 HC1 L1 E1 hz2
         refine ⟨_, rfl, SX2, ?_⟩
         try simp only [pA,pE,pB,pC,pD]
         refine rzP [11] ?_
         refine consP _ rfl (hzC 126 (Calls.mono (plusC_any _ _ E 1300 _ _ _ HC2 (hz4.mono (by omega)) (by have := HE.out; omega) (by omega)) ?_)) AllReadyP.nil
         rintro e V3 ⟨v5, rfl, hz5, b3⟩
         obtain ⟨n5, o5, l5, c5, x5, hv5⟩ := hz5.form
         subst hv5
         have SX3 : (V3.heap[B11]? = some (.cells #[.bool n1, .slice o1 l1 c1, .int .i64 x1] 65) /\ V3.cell? ⟨w.heap.size, 3, none⟩ = some (.slice (some ⟨gb, goff, none⟩) gn gc) /\ V3.cell? ⟨gb, goff + k, none⟩ = some (.slice (some ⟨cb, coff, none⟩) gln gcp) /\ V3.cell? ⟨cb, coff + i, none⟩ = some (.int .u64 ((x : Nat) : Int))) := ⟨kept b3 SX2.1, (b3.cell (World.block_lt_of_cell? _ _ SX2.2.1)).trans SX2.2.1, (b3.cell (World.block_lt_of_cell? _ _ SX2.2.2.1)).trans SX2.2.2.1, (b3.cell (World.block_lt_of_cell? _ _ SX2.2.2.2)).trans SX2.2.2.2⟩
         have L3 := L2.later b3
         have E3 := kept b3 E2
         clear b3 SX2 HC2 L2 E2 hz4
         refine ⟨_, rfl, SX3, ?_⟩
         try simp only [pA,pE,pB,pC,pD]
         refine rzP [12] ?_
         refine consPs _ rfl (by kernel_rfl) (hopL rfl (wpList_store_row (by rfl) 65 _ _ (by rfl) w w.heap.size B11 #[.bool n5, .slice o5 l5 c5, .int .i64 x5] _ (by kernel_rfl) (by kernel_rfl) SX3.1 L3.bel hB11 3 Tryz.infoN3 rfl rfl (oneN _ _ _ _ _) fun V9 e9 b9 s9 k9 => ?_)) AllReadyP.nil
         refine ⟨trivial, ?_⟩
         refine put_noneP rfl ?_
         try simp only [pA,pE,pB,pC,pD]
         refine wpAnyP_done (by kernel_rfl) ?_ _
         refine NoPanic.normal ?_
         try simp only [pA,pE,pB,pC,pD]
         have hkt : ∀ (j : Nat) (cur : Array Value) (t : TypeId), t ≠ 65 -> V3.heap[j]? = some (.cells cur t) -> V9.heap[j]? = V3.heap[j]? := fun j cur t ht hc => k9 j (by rintro rfl; rw [SX3.1] at hc; cases hc; exact ht rfl)
         have P9 : Hid (RdT w V9 #[.int .i64 (rn : Int), .slice co cn cc, .slice io gn dc, .slice (some ⟨gb, goff, none⟩) gn gc, .slice (some ⟨rb, roff, none⟩) rn rc, .bool bad] G gn F (cs.map plD) us ((pkD (fun j => !F j) gn).map fun j => ids[j]?.getD 0) ((pkD (fun j => !F j) gn).map fun j => (gs[j]?.getD []).map plD) vc (vr) vi vg gl /\ V9.heap[D]? = some (.cells #[.int .i64 (rn : Int), vc, vi, vg, vr, .bool false] 32) /\ BxN V9 B11 E 1300 (vlD rs gs F i (k + 1)) n5 o5 l5 c5 x5) := by
          refine ⟨L3.keepN hkt b9, (hkt _ _ _ (by decide) E3).trans E3, e9, ?_⟩
          have z9 := hz5.cl (num_cl SX3.1) (fun b hb _ => k9 b hb)
          refine HTI.out V9 _ 1301 i (k + 1) (by omega) ?_
          rw [HVY.out, <- fval_absJ]
          exact z9
         clear hkt e9 b9 s9 k9 SX3 L3 E3 hz5
         go_wp2_with fail
         go_roundg q2
         case measure => omega
         case rel => exact ⟨k + 1, _, _, _, _, _, by go_num, by have := HIK.out; omega, P9⟩
       ·have hd2 : decide ((k : Int) < (gn : Int)) = false := decide_eq_false (by omega)
        have hd2' : decide (k < gn) = false := decide_eq_false (by omega)
        have ek : k = gn := by omega
        rw [ek] at HJ
        clear hk ek
        go_upto_region 30 with (first
         | (refine wpList_load_row (by rfl) 65 _ (by rfl) B11 #[.bool n1, .slice o1 l1 c1, .int .i64 x1] (by rfl) HJ.out.2.2.row _ Tryz.underlying65 rfl 3 Tryz.infoN3 (by rfl) ?_)
         | (go_at_call 30; refine Calls.mono (roundZ_any 1 _ E 0 1300 _ _ HJ.out.2.2.num.toZ E HE.out rfl (by rw [HE.out]; omega) (by omega) (by omega) (by omega)) ?_; rintro e w4 ⟨r4, ok4, rfl, hr4, b4⟩; have HR4 : Hid (RndZ 1 (vlD rs gs F i gn) 1 (r4, ok4)) := hr4; clear hr4))
        have Q4 : Hid (RdT w w4 #[.int .i64 (rn : Int), .slice co cn cc, .slice io gn dc, .slice go gn gc, .slice (some ⟨rb, roff, none⟩) rn rc, .bool bad] G gn F (cs.map plD) us ((pkD (fun j => !F j) gn).map fun j => ids[j]?.getD 0) ((pkD (fun j => !F j) gn).map fun j => (gs[j]?.getD []).map plD) vc (vr) vi vg gl /\ w4.heap[D]? = some (.cells #[.int .i64 (rn : Int), vc, vi, vg, vr, .bool false] 32)) := ⟨HJ.out.1.later b4, kept b4 HJ.out.2.1⟩
        clear b4 HJ
        cases ok4 with
        | false =>
         obtain ⟨z0, z1, z2, z3, z4, z5⟩ := cells6 Q4.out.1.zb
         clear z1 z2 z3 z4 z5
         have HL4 : Hid (i < rn) := hlt
         go_wp2_with (first | (refine wpList_store_row (by rfl) 32 _ _ (by rfl) w w.heap.size (w.heap.size + 1) #[.int .i64 (rn : Int), .slice none 0 0, .slice none 0 0, .slice none 0 0, .slice none 0 0, .bool true] _ (by rfl) (by rfl) Q4.out.1.ans Q4.out.1.bel (by omega) 6 Tryz.infoZu (by rfl) (by rfl) (oneZ _ _ _ _ _ rfl rfl rfl rfl _) ?_; intro W9 e9 b9 s9 o9))
         refine bodyPost_ret (res_oneJ _ 4 32 (by kernel_rfl) _ _ (w.heap.size + 1) _ (by rfl) _ Tryz.underlying32 rfl 6 Tryz.infoZu rfl e9) rfl ?_
         exact ⟨bdD (rn : Int), rfl, (fun W _ => bdD_ZU W _), ⟨.inr (.inr (.inl ⟨rfl, ⟨i, r4, HL4.out, HR4.out⟩, rfl⟩))⟩, b9⟩
        | true =>
         obtain ⟨z0, z1, z2, z3, z4, z5⟩ := cells6 Q4.out.2
         clear z0 z1 z2 z3 z5
         obtain ⟨ra, rcp, hvr, hmr, -⟩ := owns_slice Q4.out.1.l.r
         subst hvr
         have hk2 : us.length + 1 <= 4000000 := by have := HUS.out.1; omega
         have hws := Q4.out.1.bel.size
         have LQ : Hid (RdT w (w4.alloc (.cells #[.int .u64 (r4 : Int)] 50)) #[.int .i64 (rn : Int), .slice co cn cc, .slice io gn dc, .slice go gn gc, .slice (some ⟨rb, roff, none⟩) rn rc, .bool bad] G gn F (cs.map plD) us ((pkD (fun j => !F j) gn).map fun j => ids[j]?.getD 0) ((pkD (fun j => !F j) gn).map fun j => (gs[j]?.getD []).map plD) vc (.slice ra us.length rcp) vi vg gl) := Q4.out.1.later ((Below.refl _ w4).alloc (Nat.le_refl _) _)
         have OQ : Hid ((w4.alloc (.cells #[.int .u64 (r4 : Int)] 50)).heap[D]? = some (.cells #[.int .i64 (rn : Int), vc, vi, vg, .slice ra us.length rcp, .bool false] 32)) := alloc_kept Q4.out.2 _
         go_upto_region 22 with (first
          | (at_builtin; refine append_gsJ Tryz.underlying29 Tryz.infoUJ rfl (by decide) (by decide) _ (by rfl) _ _ (by rfl) w.heap.size (.slice ra us.length rcp) us.length _ (by rfl) LQ.out.l.r ⟨w4.heap.size, 0, none⟩ 1 1 [.int .u64 (r4 : Int)] (by rfl) rfl (news_oneJ (heap_alloc_new w4 _)) (oneI _ rfl) hk2 (by simp only [alloc_size]; omega) ?_; intro v5 w5 o5 g5; have s5D := (grw_types LQ.out.l.r g5 D _ _ (by decide) OQ.out).trans OQ.out; have L5 := LQ.out.pushR g5 o5)
          | (refine wpList_store_at (by rfl) 29 _ _ (by rfl) w w.heap.size D 4 v5 _ #[.int .i64 (rn : Int), vc, vi, vg, v5, .bool false] 32 (by rfl) (by rfl) s5D L5.bel hDl 1 Tryz.szUsD (by rw [(own_valJ o5).2]; rfl) (Nat.le_of_ble_eq_true rfl) (by intro u hu; rw [(own_valJ o5).2] at hu; simp only [List.mem_cons, List.not_mem_nil, or_false] at hu; subst hu; exact (own_valJ o5).1) (by rw [(own_valJ o5).2]; rfl) ?_; intro w6 e6 b6 s6 k6))
         have HN : Hid ((RdT w w6 #[.int .i64 (rn : Int), .slice co cn cc, .slice io gn dc, .slice go gn gc, .slice (some ⟨rb, roff, none⟩) rn rc, .bool bad] G gn F (cs.map plD) (us ++ [r4]) ((pkD (fun j => !F j) gn).map fun j => ids[j]?.getD 0) ((pkD (fun j => !F j) gn).map fun j => (gs[j]?.getD []).map plD) vc (v5) vi vg gl /\ w6.heap[D]? = some (.cells #[.int .i64 (rn : Int), vc, vi, vg, v5, .bool false] 32)) /\ (us ++ [r4]).length = (i + 1) /\ ∀ j, j < (i + 1) -> RndZ 1 (vlD rs gs F j gn) 1 ((us ++ [r4])[j]?.getD 0, true)) := by
          refine ⟨⟨L5.setD s5D hD1 k6 b6, e6⟩, by rw [List.length_append, HUS.out.1]; rfl, fun j hj => ?_⟩
          by_cases e : j < i
          ·rw [List.getElem?_append_left (by rw [HUS.out.1]; exact e)]; exact HUS.out.2 j e
          ·have ej : j = i := by omega
           subst ej
           rw [List.getElem?_append_right (by rw [HUS.out.1]; exact Nat.le_refl _), HUS.out.1, Nat.sub_self]; exact HR4.out
         clear o5 g5 s5D L5 e6 b6 s6 k6 Q4 HR4 z4 LQ OQ HUS
         go_wp2_with fail
         go_roundg q
         case measure => omega
         case rel => exact ⟨i + 1, us ++ [r4], v5, by go_num, by have := HIG.out; omega, HN⟩
     ·have hd : decide ((i : Int) < (rn : Int)) = false := decide_eq_false (by omega)
      have hd' : decide (i < rn) = false := decide_eq_false (by omega)
      have ei : i = rn := by omega
      have HJ2 : Hid ((RdT w wr #[.int .i64 (rn : Int), .slice co cn cc, .slice io gn dc, .slice go gn gc, .slice ro rn rc, .bool bad] G gn F (cs.map plD) us ((pkD (fun j => !F j) gn).map fun j => ids[j]?.getD 0) ((pkD (fun j => !F j) gn).map fun j => (gs[j]?.getD []).map plD) vc (vr) vi vg gl /\ wr.heap[D]? = some (.cells #[.int .i64 (rn : Int), vc, vi, vg, vr, .bool false] 32)) /\ us.length = rn /\ ∀ j, j < rn -> RndZ 1 (vlD rs gs F j gn) 1 (us[j]?.getD 0, true)) := by have := HJ.out; rw [ei] at this; exact this
      clear hi ei HJ
      go_wp2_with (first
       | (refine wpList_load_row (by rfl) 32 _ (by rfl) D _ (by rfl) HJ2.out.1.2 _ Tryz.underlying32 rfl 6 Tryz.infoZu (by rfl) ?_)
       | (refine wpList_store_row (by rfl) 32 _ _ (by rfl) w w.heap.size (w.heap.size + 1) #[.int .i64 (rn : Int), vc, vi, vg, vr, .bool false] _ (by rfl) (by rfl) HJ2.out.1.1.ans HJ2.out.1.1.bel (by omega) 6 Tryz.infoZu (by rfl) (by rfl) (oneZ _ _ _ _ _ (own_valJ HJ2.out.1.1.l.c).1 (own_valJ HJ2.out.1.1.l.i).1 (own_valJ HJ2.out.1.1.l.g).1 (own_valJ HJ2.out.1.1.l.r).1 _) ?_; intro W9 e9 b9 s9 o9))
      have HL := HJ2.out.1.1.l.keep (w' := W9) fun j cur t ht hc => o9 j (by rintro rfl; rw [HJ2.out.1.1.ans] at hc; cases hc; exact ht rfl)
      obtain ⟨v, hv, hzu, v1, v2, v3, v4, v5, v6, v7, v8, v9, v10⟩ := HL.zu (rn : Int) false
      refine bodyPost_ret (res_oneJ _ 4 32 (by kernel_rfl) _ _ (w.heap.size + 1) _ (by rfl) _ Tryz.underlying32 rfl 6 Tryz.infoZu rfl e9) rfl ?_
      exact ⟨v, congrArg Ending.returned hv, HL.zut v hv hzu v3 v4 v5 v6, ⟨.inr (.inr (.inr ⟨rfl, v1, v2, v3, v5, v6, by rw [v4]; exact HJ2.out.2.1, fun j hj => by rw [v4]; exact HJ2.out.2.2 j hj⟩))⟩, b9⟩
end Go.Proofs.YthmhgpadinecfaaGreat
