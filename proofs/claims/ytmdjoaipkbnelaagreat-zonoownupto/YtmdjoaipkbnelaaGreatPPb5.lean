import Derived.Test.YtmdjoaipkbnelaaGreatPPb4
set_option maxRecDepth 100000
set_option maxHeartbeats 4000000
set_option linter.unusedVariables false
set_option linter.unusedSimpArgs false
namespace Go.Proofs.YtmdjoaipkbnelaaGreat
open Go.RowKit
theorem alloc3_facts (w:World) (o1 o2 o3:Obj):(((w.alloc o1).alloc o2).alloc o3).heap[w.heap.size]? = some o1 /\ (((w.alloc o1).alloc o2).alloc o3).heap[w.heap.size + 1]? = some o2 /\ (((w.alloc o1).alloc o2).alloc o3).heap[w.heap.size + 1 + 1]? = some o3 /\ (((w.alloc o1).alloc o2).alloc o3).heap.size = w.heap.size + 3 /\ Below w.heap.size w (((w.alloc o1).alloc o2).alloc o3):=by
 have e1:=heap_alloc_new w o1
 have e2:=heap_alloc_new (w.alloc o1) o2
 have e3:=heap_alloc_new ((w.alloc o1).alloc o2) o3
 rw [show (w.alloc o1).heap.size = w.heap.size + 1 by simp] at e2
 rw [show ((w.alloc o1).alloc o2).heap.size = w.heap.size + 1 + 1 by simp] at e3
 refine ⟨?_,?_,e3,by simp,(((Below.refl _ _).alloc (Nat.le_refl _) _).alloc (by simp) _).alloc (by simp;omega) _⟩
 ·rw [Below.heap_alloc _ _ _ (by simp;omega),Below.heap_alloc _ _ _ (by simp),e1]
 ·rw [Below.heap_alloc _ _ _ (by simp),e2]
theorem make1_any (d:Int) (B lo hi x:Nat) (bad:Bool) (hx:(if d = 2 then lo else hi) = x) (w:World) (hB:w.heap[B]? = some (.cells #[.float .f64 lo,.float .f64 hi,.bool bad] 47)) (p:Nat × Bool)
  (hp:∀ w,Calls Tryz.prog 36 #[.int .i64 0,.float .f64 x] w fun e w'=>e = .returned (.tuple #[.float .f64 p.1,.bool p.2]) /\ w' = w) :
  Calls Tryz.prog 76 #[.int .i64 d,.pointer (some ⟨B,0,none⟩)] w fun e w'=>e = .returned (.tuple #[.float .f64 p.1,.bool p.2]) /\ Below w.heap.size w w':=by
 have HS:Hid (∀ w,Calls Tryz.prog 77 #[.int .i64 d,.agg #[.float .f64 lo,.float .f64 hi,.bool bad]] w fun e w'=>e = .returned (.float .f64 x) /\ Below w.heap.size w w'):=by
  intro w;have:=side_any d lo hi bad w;rw [hx] at this;exact this
 have HP:Hid _:=hp
 obtain ⟨c0,c1,c2⟩:=cells3 hB
 clear hB hp hx
 go_enter Tryz.func76,Tryz.ntmps76
 go_wp2_with fail
 refine Calls.mono (HS.out _) ?_
 rintro e w1 ⟨rfl,b1⟩
 have B1:Hid (Below w.heap.size w w1):=b1
 clear b1 HS
 go_wp2_with fail
 refine Calls.mono (HP.out _) ?_
 rintro e w2 ⟨rfl,rfl⟩
 go_wp2_with fail
 go_ret2
 exact ⟨rfl,B1.out⟩
theorem rds_one {W:World} {g:Nat} {lo hi:Nat} {bad:Bool} {t:TypeId} (h:W.heap[g]? = some (.cells #[.float .f64 lo,.float .f64 hi,.bool bad] t)) (hlo:lo < 18446744073709551616) (hhi:hi < 18446744073709551616):RdS W (some ⟨g,0,none⟩) 1 1 (fun _=>(lo,hi,bad)):=by
 obtain ⟨c0,c1,c2⟩:=cells3 h
 refine ⟨by omega,by decide,fun _ _=>⟨hlo,hhi⟩,.inr ⟨g,0,rfl,fun j hj=>?_⟩⟩
 obtain rfl:j = 0:=by omega
 exact ⟨c0,c1,c2⟩
theorem all_one {lo hi:Nat} {bad:Bool}:decide (AllGood (fun _=>(lo,hi,bad)) 1) = decide (Good lo hi bad):=by
 congr 1;apply propext
 exact ⟨fun h=>h 0 (by omega),fun h _ _=>h⟩
def two (a b:Nat × Nat × Bool) (j:Nat):Nat × Nat × Bool:=if j = 0 then a else b
theorem good1_any {W:World} {g:Nat} {lo hi:Nat} {bad:Bool} {t:TypeId} (h:W.heap[g]? = some (.cells #[.float .f64 lo,.float .f64 hi,.bool bad] t)) (hlo:lo < 18446744073709551616) (hhi:hi < 18446744073709551616) :
  Calls Tryz.prog 73 #[.slice (some ⟨g,0,none⟩) 1 1] W fun e w'=>e = .returned (.bool (decide (Good lo hi bad))) /\ Below W.heap.size W w':=by
 have:=good_any _ 1 1 _ W (rds_one h hlo hhi)
 rw [all_one] at this;exact this
theorem next_plain {x:Nat} (hx:x < 18446744073709551616) (hf:Fin x) (w:World) :
  Calls Tryz.prog 36 #[.int .i64 0,.float .f64 x] w fun e w'=>e = .returned (.tuple #[.float .f64 (plainM x),.bool true]) /\ w' = w:=by
 obtain ⟨p,h1,-,c⟩:=next_any 0 x hx
 have h:=h1 hf
 rw [show sideOf 0 = 0 from rfl,Int.add_zero] at h
 have:=canon_rnd (D:=64) hx hf (by decide) (.inl rfl) h
 subst this
 exact c w
def makeS (lo hi:Nat):Nat × Nat × Bool:=if Good lo hi false then (plainM lo,plainM hi,false) else (0,0,true)
theorem make_any (lo hi:Nat) (hlo:lo < 18446744073709551616) (hhi:hi < 18446744073709551616) (w:World) :
  Calls Tryz.prog 46 #[.float .f64 lo,.float .f64 hi] w fun e w'=>e = .returned (.agg #[.float .f64 (makeS lo hi).1,.float .f64 (makeS lo hi).2.1,.bool (makeS lo hi).2.2]) /\ Below w.heap.size w w':=by
 have hsf:=run_store_f
 obtain ⟨g0,g1,g2,gz,gb⟩:=alloc3_facts w (Obj.cells #[Value.float FloatKind.f64 0,Value.float FloatKind.f64 0,Value.bool false] 47) (Obj.cells #[Value.float FloatKind.f64 lo,Value.float FloatKind.f64 hi,Value.bool false] 47) (Obj.cells #[Value.float FloatKind.f64 lo,Value.float FloatKind.f64 hi,Value.bool false] 47)
 have G0:Hid _:=g0
 have G1:Hid _:=g1
 have G2:Hid _:=g2
 have GZ:Hid _:=gz
 have GB:Hid _:=gb
 clear g0 g1 g2 gz gb
 go_enter Tryz.func46,Tryz.ntmps46
 go_wp2_with fail
 generalize (((w.alloc (Obj.cells #[Value.float FloatKind.f64 0,Value.float FloatKind.f64 0,Value.bool false] 47)).alloc (Obj.cells #[Value.float FloatKind.f64 lo,Value.float FloatKind.f64 hi,Value.bool false] 47)).alloc (Obj.cells #[Value.float FloatKind.f64 lo,Value.float FloatKind.f64 hi,Value.bool false] 47)) = W at G0 G1 G2 GZ GB ⊢
 refine (good1_any G2.out hlo hhi).mono ?_
 rintro e w1 ⟨rfl,b1⟩
 have R0:Hid _:=(b1.block w.heap.size (by have:=GZ.out;omega)).trans G0.out
 have R1:Hid _:=(b1.block (w.heap.size + 1) (by have:=GZ.out;omega)).trans G1.out
 have B1:Hid (Below w.heap.size w w1):=GB.out.trans (b1.mono GB.out.size)
 have Z1:Hid (w.heap.size + 1 < w1.heap.size):=by have:=b1.size;have:=GZ.out;unfold Hid;omega
 clear b1 G0 G1 G2 GZ GB
 by_cases hg:Good lo hi false
 ·have HM:Hid (makeS lo hi = (plainM lo,plainM hi,false)):=by unfold Hid makeS;rw [if_pos hg]
  rw [decide_eq_true hg]
  have T2:Hid (Tells 76 #[.pointer (some ⟨w.heap.size + 1,0,none⟩)] w1 2 (plainM lo,true)):=fun w' hb=>make1_any 2 _ lo hi lo false rfl w' ((hb.block _ Z1.out).trans R1.out) _ (next_plain hlo hg.2.1)
  have T1:Hid (Tells 76 #[.pointer (some ⟨w.heap.size + 1,0,none⟩)] w1 1 (plainM hi,true)):=fun w' hb=>make1_any 1 _ lo hi hi false rfl w' ((hb.block _ Z1.out).trans R1.out) _ (next_plain hhi hg.2.2.1)
  clear hg
  go_wp2_with fail
  refine (spanOf_any 76 _ (enters_of Tryz.func76 (by kernel_rfl) rfl) _ (plainM lo,true) (plainM hi,true) T2.out T1.out).mono ?_
  rintro e w2 ⟨rfl,b2⟩
  rw [show spOf (plainM lo,true) (plainM hi,true) = (plainM lo,plainM hi,false) from rfl]
  have r2:=(b2.block w.heap.size (by have:=Z1.out;omega)).trans R0.out
  have B2:Hid (Below w.heap.size w w2):=B1.out.trans (b2.mono B1.out.size)
  have R2:Hid _:=r2
  obtain ⟨c0,c1,c2⟩:=cells3 r2
  have fz:=fun j=>frozen_of_row _ _ j _ _ r2
  clear b2 R0 R1 B1 Z1 T1 T2 r2
  go_wp2_with fail
  refine bodyPost_ret (v:=.agg #[.float .f64 (plainM lo),.float .f64 (plainM hi),.bool false]) (res_sp _ 4 (by kernel_rfl) _ _ w.heap.size _ _ _ ?_ (setsp_heap _ _ _ R2.out)) rfl ?_
  ·rfl
  ·exact ⟨by rw [HM.out],below_setsp _ _ _ B2.out (Nat.le_refl _)⟩
 ·have HM:Hid (makeS lo hi = (0,0,true)):=by unfold Hid makeS;rw [if_neg hg]
  rw [decide_eq_false hg]
  go_wp2_with fail
  refine (spBad_any _).mono ?_
  rintro e w2 ⟨rfl,b2⟩
  have r2:=(b2.block w.heap.size (by have:=Z1.out;omega)).trans R0.out
  have B2:Hid (Below w.heap.size w w2):=B1.out.trans (b2.mono B1.out.size)
  have R2:Hid _:=r2
  obtain ⟨c0,c1,c2⟩:=cells3 r2
  have fz:=fun j=>frozen_of_row _ _ j _ _ r2
  clear b2 R0 R1 B1 Z1 r2
  go_wp2_with fail
  refine bodyPost_ret (v:=.agg #[.float .f64 0,.float .f64 0,.bool true]) (res_sp _ 4 (by kernel_rfl) _ _ w.heap.size _ _ _ ?_ (setsp_heap _ _ _ R2.out)) rfl ?_
  ·rfl
  ·exact ⟨by rw [HM.out],below_setsp _ _ _ B2.out (Nat.le_refl _)⟩
def one1 (c:Nat):Option Int:=prodO (some 0) c 4607182418800017408 0
def AroR (c:Nat) (o:Option Int) (r:Nat × Nat × Bool):Prop:=∃ lo low hi high,RndO 2 (joinO (one1 c) o true) lo low /\ RndO 1 (joinO (one1 c) o false) hi high /\ r = (if low && high then makeS lo hi else (0,0,true))
theorem Tryz.infoSpJ:(Tryz.prog.info? 47).map (·.size) = some 3:=by kernel_rfl
theorem oneSp (a b:Nat) (x:Bool):(#[.float .f64 a,.float .f64 b,.bool x]:Array Value).all (·.oneCell') = true:=by
 simp only [Array.all_eq_true_iff_forall_mem]
 intro v hv
 simp only [List.mem_toArray,List.mem_cons,List.not_mem_nil,or_false] at hv
 rcases hv with rfl | rfl | rfl <;> rfl
theorem RndO.ltJ {d:Int} {o:Option Int} {u:Nat} {b:Bool} (h:RndO d o u b):u < 18446744073709551616:=by
 cases o with
 | none=>rw [h.1];decide
 | some z=>
  obtain ⟨a,ha⟩:∃ a:Nat,a = 1166:=⟨_,rfl⟩
  exact (tell_fin (h a ha)).2
theorem around_any (c:Nat) (hc:c < 18446744073709551616) (P:Nat) (o:Option Int) (w:World) (hA:AccO w P o) :
  Calls Tryz.prog 24 #[.float .f64 c,.pointer (some ⟨P,0,none⟩)] w fun e w'=>(∃ r:Nat × Nat × Bool,e = .returned (.agg #[.float .f64 r.1,.float .f64 r.2.1,.bool r.2.2]) /\ AroR c o r) /\ Below w.heap.size w w':=by
 have HA:Hid _:=hA
 have hPl:=hA.block
 clear hA
 go_enter Tryz.func24,Tryz.ntmps24
 go_upto_region 1 with fail
 have Z0:=heap_alloc_new w (.cells #[.float .f64 0,.float .f64 0,.bool false] 47)
 have Z1:Below w.heap.size w (w.alloc (.cells #[.float .f64 0,.float .f64 0,.bool false] 47)):=(Below.refl _ w).alloc (Nat.le_refl _) _
 have Z2:AccO (w.alloc (.cells #[.float .f64 0,.float .f64 0,.bool false] 47)) P o:=HA.out.heap (Below.heap_alloc w _ _ hPl)
 obtain ⟨X,hX⟩:∃ X,w.alloc (.cells #[.float .f64 0,.float .f64 0,.bool false] 47) = X:=⟨_,rfl⟩
 rw [hX] at Z0 Z1 Z2 ⊢
 have hxs:=blk_lt Z0
 clear hX HA
 go_wp2_with fail
 refine (new_any _).mono ?_
 rintro e w1 ⟨rfl,a1,b1,s1⟩
 go_wp2_with fail
 refine (new_any _).mono ?_
 rintro e w2 ⟨rfl,a2,b2,s2⟩
 rw [s1] at a2 s2
 have q1:AccO w2 X.heap.size (some 0):=a1.below b2 (by omega)
 have q3:AccO w2 P o:=(Z2.below b1 (by omega)).below b2 (by omega)
 go_wp2_with fail
 refine (accAdd_any X.heap.size (some 0) c hc _ q1).mono ?_
 rintro e w3 ⟨rfl,a3,c3⟩
 have q4:AccO w3 P o:=q3.chg c3 (by omega)
 have q5:AccO w3 (X.heap.size + 1) (some 0):=a2.chg c3 (by omega)
 go_wp2_with fail
 refine (accJoin_any X.heap.size P _ o true _ a3 q4).mono ?_
 rintro e w4 ⟨rfl,a4,c4⟩
 have q6:AccO w4 P o:=q4.chg c4 (by omega)
 have q7:AccO w4 (X.heap.size + 1) (some 0):=q5.chg c4 (by omega)
 go_wp2_with fail
 refine (accAdd_any (X.heap.size + 1) (some 0) c hc _ q7).mono ?_
 rintro e w5 ⟨rfl,a5,c5⟩
 have q8:AccO w5 P o:=q6.chg c5 (by omega)
 have q9:AccO w5 X.heap.size (joinO (one1 c) o true):=a4.chg c5 (by omega)
 go_wp2_with fail
 refine (accJoin_any (X.heap.size + 1) P _ o false _ a5 q8).mono ?_
 rintro e w6 ⟨rfl,a6,c6⟩
 have q10:AccO w6 X.heap.size (joinO (one1 c) o true):=q9.chg c6 (by omega)
 have z6:Below w.heap.size w w6:=Z1.trans ((b1.mono (by omega)).trans ((b2.mono (by omega)).trans ((c3.below.mono (by omega)).trans ((c4.below.mono (by omega)).trans ((c5.below.mono (by omega)).trans (c6.below.mono (by omega)))))))
 have k6:w6.heap[w.heap.size]? = some (.cells #[.float .f64 0,.float .f64 0,.bool false] 47):=by
  have h3:=c3.below.size
  have h4:=c4.below.size
  have h5:=c5.below.size
  rw [c6.other _ (by omega) (by omega),c5.other _ (by omega) (by omega),c4.other _ (by omega) (by omega),c3.other _ (by omega) (by omega),b2.block _ (by omega),b1.block _ (by omega)]
  exact Z0
 have HQ:Hid _:=And.intro a6 (And.intro q10 (And.intro z6 k6))
 clear a1 b1 s1 a2 b2 s2 q1 q3 a3 c3 q4 q5 a4 c4 q6 q7 a5 c5 q8 q9 a6 c6 q10 z6 k6 Z0 Z1 Z2
 go_wp2_with fail
 refine (accRound_any 2 X.heap.size _ _ HQ.out.2.1).mono ?_
 rintro e w7 ⟨lo,low,rfl,r7,b7⟩
 have HR7:Hid (RndO 2 (joinO (one1 c) o true) lo low):=r7
 clear r7
 go_wp2_with fail
 refine (accRound_any 1 (X.heap.size + 1) _ _ (HQ.out.1.below b7 HQ.out.1.block)).mono ?_
 rintro e w8 ⟨hi,high,rfl,r8,b8⟩
 have HR8:Hid (RndO 1 (joinO (one1 c) o false) hi high):=r8
 have HB8:Hid (Below w.heap.size w w8 /\ w8.heap[w.heap.size]? = some (.cells #[.float .f64 0,.float .f64 0,.bool false] 47)):=⟨to_call (to_call HQ.out.2.2.1 b7) b8,kept b8 (kept b7 HQ.out.2.2.2)⟩
 clear r8 b7 b8 HQ
 have hlo:=RndO.ltJ HR7.out
 have hhi:=RndO.ltJ HR8.out
 cases low with
 | false=>
  go_wp2_with (first
   | (refine wpList_store_row (by rfl) 47 _ _ (by rfl) w w.heap.size w.heap.size _ _ (by rfl) (by rfl) HB8.out.2 HB8.out.1 (Nat.le_refl _) 3 Tryz.infoSpJ (by rfl) (by rfl) (oneSp ..) ?_;intro W9 e9 b9 s9 o9))
  exact bodyPost_ret (res_oneJ _ 4 47 (by kernel_rfl) _ _ w.heap.size _ (by rfl) _ Tryz.underlying47 rfl 3 Tryz.infoSpJ rfl e9) rfl ⟨⟨(0,0,true),rfl,lo,false,hi,high,HR7.out,HR8.out,rfl⟩,b9⟩
 | true=>
  cases high with
  | false=>
   go_wp2_with (first
    | (refine wpList_store_row (by rfl) 47 _ _ (by rfl) w w.heap.size w.heap.size _ _ (by rfl) (by rfl) HB8.out.2 HB8.out.1 (Nat.le_refl _) 3 Tryz.infoSpJ (by rfl) (by rfl) (oneSp ..) ?_;intro W9 e9 b9 s9 o9))
   exact bodyPost_ret (res_oneJ _ 4 47 (by kernel_rfl) _ _ w.heap.size _ (by rfl) _ Tryz.underlying47 rfl 3 Tryz.infoSpJ rfl e9) rfl ⟨⟨(0,0,true),rfl,lo,true,hi,false,HR7.out,HR8.out,rfl⟩,b9⟩
  | true=>
   go_wp2_with (first
    | (go_at_call 46;refine (make_any lo hi hlo hhi _).mono ?_;rintro e w9 ⟨rfl,b9'⟩)
    | (refine wpList_store_row (by rfl) 47 _ _ (by rfl) w w.heap.size w.heap.size _ _ (by rfl) (by rfl) (kept b9' HB8.out.2) (to_call HB8.out.1 b9') (Nat.le_refl _) 3 Tryz.infoSpJ (by rfl) (by rfl) (oneSp ..) ?_;intro W9 e9 b9 s9 o9))
   exact bodyPost_ret (res_oneJ _ 4 47 (by kernel_rfl) _ _ w.heap.size _ (by rfl) _ Tryz.underlying47 rfl 3 Tryz.infoSpJ rfl e9) rfl ⟨⟨makeS lo hi,rfl,lo,true,hi,true,HR7.out,HR8.out,rfl⟩,b9⟩
theorem Tryz.infoSp3:(Tryz.prog.info? 47).map (fun i=>(i.zero,i.size,i.bytes)) = some (some (.agg #[.float .f64 0,.float .f64 0,.bool false]),3,24):=by kernel_rfl
def spN (n:Nat):Array Value:=madeCells #[.float .f64 0,.float .f64 0,.bool false] (n * 3)
theorem spN_size (n:Nat):(spN n).size = n * 3:=by unfold spN madeCells;simp
theorem makeSp (n:Nat) (hn:n <= 1000000) (w:World) :
  (Instr.makeSlice 39 (.int .i64 (n:Int)) (.int .i64 (n:Int))).run Tryz.prog w = .ok (.slice (some ⟨w.heap.size,0,none⟩) n n) (w.alloc (.cells (spN n) 47)):=by
 obtain ⟨i0,hi,hz0,hz1,hz2⟩:=info3J Tryz.infoSp3
 have h:=run_makeSlice (P:=Tryz.prog) w 39 47 i0 (.agg #[.float .f64 0,.float .f64 0,.bool false]) Tryz.underlying39 hi hz0 .i64 .i64 (n:Int) (n:Int) (by omega) (by omega) (by rw [hz1,Int.toNat_natCast];omega) (by rw [hz2];omega) (by omega)
 rw [Int.toNat_natCast,hz1] at h
 exact h
def put3 (arr:Array Value) (o:Nat) (a b c:Value):Array Value:=(arr.toList.take o ++ [a,b,c] ++ arr.toList.drop (o + 3)).toArray
theorem put3_size (arr:Array Value) (o:Nat) (a b c:Value) (h:o + 3 <= arr.size):(put3 arr o a b c).size = arr.size:=by unfold put3;simp;omega
theorem put3_at (arr:Array Value) (o:Nat) (a b c:Value) (h:o + 3 <= arr.size):(put3 arr o a b c)[o]? = some a /\ (put3 arr o a b c)[o + 1]? = some b /\ (put3 arr o a b c)[o + 2]? = some c:=by
 have hl:(arr.toList.take o).length = o:=by simp;omega
 unfold put3
 simp only [List.getElem?_toArray,List.append_assoc]
 refine ⟨?_,?_,?_⟩
 ·rw [List.getElem?_append_right (by omega),hl,Nat.sub_self];rfl
 ·rw [List.getElem?_append_right (by omega),hl,show o + 1 - o = 1 by omega];rfl
 ·rw [List.getElem?_append_right (by omega),hl,show o + 2 - o = 2 by omega];rfl
theorem put3_lo (arr:Array Value) (o:Nat) (a b c:Value) (h:o + 3 <= arr.size) (i:Nat) (hi:i < o):(put3 arr o a b c)[i]? = arr[i]?:=by
 unfold put3
 simp only [List.getElem?_toArray,List.append_assoc]
 rw [List.getElem?_append_left (by simp;omega),List.getElem?_take_of_lt hi]
 simp
structure SpL (w:World) (g n k:Nat) (R:Nat -> Nat × Nat × Bool -> Prop):Prop where
 ex:∃ arr:Array Value,w.heap[g]? = some (.cells arr 47) /\ arr.size = n * 3 /\ ∀ j,j < k -> ∃ r,R j r /\ arr[j * 3]? = some (.float .f64 r.1) /\ arr[j * 3 + 1]? = some (.float .f64 r.2.1) /\ arr[j * 3 + 2]? = some (.bool r.2.2)
theorem SpL.heap {w w':World} {g n k:Nat} {R:Nat -> Nat × Nat × Bool -> Prop} (h:SpL w g n k R) (hk:w'.heap[g]? = w.heap[g]?):SpL w' g n k R:=by obtain ⟨arr,h1,h2⟩:=h.ex;exact ⟨arr,hk.trans h1,h2⟩
theorem bounds_ok (z:ZD) (w:World) (hz:ZR w z) (hc:checkB z = true) (hb:z.bad = false) (hN:z.N = (z.rn:Int)) (hrn:z.rn <= 100000) (hdg:z.dn <= z.gn) (hcn:z.cn = z.rn) (hw:∀ k,k < z.dn -> (z.gs[k]?.getD []).length = z.rn) :
  Calls Tryz.prog 9 #[.agg #[.int .i64 z.N,.slice z.co z.cn z.cc,.slice z.io z.dn z.dc,.slice z.go z.gn z.gc,.slice z.ro z.rn z.rc,.bool z.bad]] w fun e w'=>(∃ g,e = .returned (.slice (some ⟨g,0,none⟩) z.rn z.rn) /\ w.heap.size <= g /\ SpL w' g z.rn z.rn (fun j r=>AroR (z.cs[j]?.getD 0) (farZ z j) r)) /\ Below w.heap.size w w':=by
 have HZ:Hid (∀ W',Below w.heap.size w W' -> ZR W' z):=fun W' hb=>hz.later hb
 have HT:Hid (∀ W',Below w.heap.size w W' -> Calls Tryz.prog 16 #[.agg #[.int .i64 z.N,.slice z.co z.cn z.cc,.slice z.io z.dn z.dc,.slice z.go z.gn z.gc,.slice z.ro z.rn z.rc,.bool z.bad]] W' fun e w'=>e = .returned (.agg #[.int .i64 z.N,.slice z.co z.cn z.cc,.slice z.io z.dn z.dc,.slice z.go z.gn z.gc,.slice z.ro z.rn z.rc,.bool z.bad]) /\ Below W'.heap.size W' w'):=fun W' hb=>taken_ok z W' (hz.later hb) hc
 have HRe:Hid (∀ W',Below w.heap.size w W' -> _):=fun W' hb=>reaches_any z W' (hz.later hb) hrn hdg hw
 obtain ⟨fz,hfz⟩:∃ fz,farZ z = fz:=⟨_,rfl⟩
 rw [hfz] at HRe ⊢
 have HCL:Hid (z.cs.length = z.cn):=hz.c.length
 clear hz hc hw hfz
 obtain ⟨N,co,cn,cc,io,dn,dc,go,gn,gc,ro,rn,rc,bad,cs,ids,gv,gs,rs⟩:=z
 dsimp only at HZ HT HRe HCL hb hN hrn hdg hcn ⊢
 subst hb
 subst hN
 have HCN:Hid (cn = rn):=hcn
 clear hcn
 have X0:Below w.heap.size w (w.alloc (.cells #[.int .i64 (rn:Int),.slice co cn cc,.slice io dn dc,.slice go gn gc,.slice ro rn rc,.bool false] 26)):=(Below.refl _ w).alloc (Nat.le_refl _) _
 have hmk:=makeSp rn (by omega)
 go_enter Tryz.func9,Tryz.ntmps9
 go_upto_region 2 with (first
  | (go_at_call 16;refine Calls.mono (HT.out _ X0) ?_;rintro e w1 ⟨rfl,hb1⟩)
  | (refine wpList_store_row (by rfl) 26 _ _ (by rfl) w w.heap.size w.heap.size _ _ (by rfl) (by rfl) (kept hb1 (heap_alloc_new w _)) (to_call X0 hb1) (Nat.le_refl _) 6 Tryz.infoZ (by rfl) (by rfl) (oneZ _ _ _ _ _ rfl rfl rfl rfl _) ?_;intro W2 e2 b2 s2 o2))
 have HK2:Hid (Below w.heap.size w W2 /\ W2.heap[w.heap.size]? = some (.cells #[.int .i64 (rn:Int),.slice co cn cc,.slice io dn dc,.slice go gn gc,.slice ro rn rc,.bool false] 26)):=⟨b2,e2⟩
 have hw2:=blk_lt e2
 clear X0 hb1 b2 s2 o2 HT e2
 obtain ⟨c0,c1,c2,c3,c4,c5⟩:=cells6 HK2.out.2
 go_upto_region 5 with fail
 have Y0:(W2.alloc (.cells (spN rn) 47)).heap[w.heap.size]? = some (.cells #[.int .i64 (rn:Int),.slice co cn cc,.slice io dn dc,.slice go gn gc,.slice ro rn rc,.bool false] 26):=alloc_kept HK2.out.2 _
 have Y1:(W2.alloc (.cells (spN rn) 47)).heap[W2.heap.size]? = some (.cells (spN rn) 47):=heap_alloc_new W2 _
 have Y2:Below w.heap.size w (W2.alloc (.cells (spN rn) 47)):=HK2.out.1.alloc HK2.out.1.size _
 obtain ⟨X,hX⟩:∃ X,W2.alloc (.cells (spN rn) 47) = X:=⟨_,rfl⟩
 rw [hX] at Y0 Y1 Y2 ⊢
 clear hX hmk c0 c1 c2 c3 c4 c5 HK2
 go_wp2_with (first
  | (refine wpList_load_row (by rfl) 26 _ (by rfl) w.heap.size _ (by rfl) Y0 _ Tryz.underlying26 rfl 6 Tryz.infoZ (by rfl) ?_)
  | (go_at_call 21;refine Calls.mono (HRe.out _ Y2) ?_;rintro e w4 ⟨rfl,⟨p,hp⟩,b4,s4⟩))
 have HP0:Hid (AcL w4 (X.heap.size + 1) rn p fz):=hp
 have H40:Hid (Below w.heap.size w w4 /\ w4.heap[w.heap.size]? = some (.cells #[.int .i64 (rn:Int),.slice co cn cc,.slice io dn dc,.slice go gn gc,.slice ro rn rc,.bool false] 26)):=⟨to_call Y2 b4,kept b4 Y0⟩
 have HL0:Hid (SpL w4 W2.heap.size rn 0 (fun j r=>AroR (cs[j]?.getD 0) (fz j) r)):=⟨_,kept b4 Y1,spN_size rn,fun j hj=>by omega⟩
 have HGX:Hid (W2.heap.size < X.heap.size):=blk_lt Y1
 have HS4:Hid (X.heap.size + 1 < w4.heap.size):=s4
 clear hp b4 s4 Y0 Y1 Y2 HRe
 go_loopg [16] rn (fun g iv wx=>∃ k:Nat,iv = .int .i64 k /\ k + g = rn /\ Hid (AcL wx (X.heap.size + 1) rn p fz) /\ Hid (Below w.heap.size w wx /\ wx.heap[w.heap.size]? = some (.cells #[.int .i64 (rn:Int),.slice co cn cc,.slice io dn dc,.slice go gn gc,.slice ro rn rc,.bool false] 26)) /\ Hid (SpL wx W2.heap.size rn k (fun j r=>AroR (cs[j]?.getD 0) (fz j) r)) /\ Hid (X.heap.size + 1 < wx.heap.size))
 case atStart=>exact ⟨0,rfl,by omega,HP0,H40,HL0,HS4⟩
 case round=>
  clear HP0 H40 HL0 HS4
  obtain ⟨k,rfl,hk,HP,H4,HL,HS⟩:=hrel
  by_cases hlt:k < rn
  ·have hd:decide ((k:Int) < (rn:Int)) = true:=decide_eq_true (by omega)
   obtain ⟨g,rfl⟩:∃ g,gk = g + 1:=⟨gk - 1,by omega⟩
   have hzc:=(HZ.out _ H4.out.1).c
   dsimp only at hzc
   rcases hzc.cells with h0 | ⟨cb,coff,rfl,hcc⟩
   ·have:=HCN.out;omega
   have hltc:k < cn:=by rw [HCN.out];exact hlt
   have gc':=hcc k hltc
   have hxl:=hzc.lt _ (getD_mem (us:=cs) (j:=k) (by have:=HCL.out;have:=HCN.out;omega))
   obtain ⟨x,hx⟩:∃ x,cs[k]?.getD 0 = x:=⟨_,rfl⟩
   have HX:Hid (cs[k]?.getD 0 = x):=hx
   rw [hx] at gc' hxl
   have gp:=HP.out.row k hlt
   obtain ⟨d0,d1,d2,d3,d4,d5⟩:=cells6 H4.out.2
   have HAr:Hid _:=around_any x hxl (p k) (fz k) wr (HP.out.acc k hlt)
   have HIG:Hid (k + (g + 1) = rn):=hk
   have hkr3:k * 3 + 3 <= rn * 3:=by omega
   obtain ⟨arr,ha1,ha2,ha3⟩:=HL.out.ex
   have HRr:Hid _:=ha3
   clear hcc hx hk hzc hxl ha3
   go_wp2_with (first
    | (go_at_call 24;refine Calls.mono HAr.out ?_;rintro e w5 ⟨⟨r,rfl,hr⟩,b5⟩)
    | (refine wpList_store_at (by rfl) 47 _ _ (by rfl) w w.heap.size W2.heap.size (k * 3) (.agg #[.float .f64 r.1,.float .f64 r.2.1,.bool r.2.2]) _ (put3 arr (k * 3) (.float .f64 r.1) (.float .f64 r.2.1) (.bool r.2.2)) 47 (by rfl) (by rfl) (kept b5 ha1) (to_call H4.out.1 b5) (by omega) 3 Tryz.infoSpJ (by rfl) (by rw [ha2];exact hkr3) (by intro u hu;simp [Value.cells] at hu;rcases hu with rfl | rfl | rfl <;> rfl) (by rfl) ?_;intro w7 e7 b7 s7 o7))
   have hgx:=HGX.out
   have hsr:=HS.out
   have h5s:=b5.size
   have HP7:Hid (AcL w7 (X.heap.size + 1) rn p fz):=(HP.out.later b5 HS.out).heap (fun i hi _=>o7 i (by omega)) (by omega)
   have H47:Hid (Below w.heap.size w w7 /\ w7.heap[w.heap.size]? = some (.cells #[.int .i64 (rn:Int),.slice (some ⟨cb,coff,none⟩) cn cc,.slice io dn dc,.slice go gn gc,.slice ro rn rc,.bool false] 26)):=⟨b7,(o7 _ (by omega)).trans (kept b5 H4.out.2)⟩
   have HL7:Hid (SpL w7 W2.heap.size rn (k + 1) (fun j r=>AroR (cs[j]?.getD 0) (fz j) r)):=by
    refine ⟨_,e7,by rw [put3_size _ _ _ _ _ (by rw [ha2];exact hkr3),ha2],fun j hj=>?_⟩
    by_cases e:j = k
    ·subst e
     exact ⟨r,by rw [HX.out];exact hr,put3_at _ _ _ _ _ (by rw [ha2];exact hkr3)⟩
    ·obtain ⟨r',h1,h2,h3,h4⟩:=HRr.out j (by omega)
     exact ⟨r',h1,(put3_lo _ _ _ _ _ (by rw [ha2];exact hkr3) _ (by omega)).trans h2,(put3_lo _ _ _ _ _ (by rw [ha2];exact hkr3) _ (by omega)).trans h3,(put3_lo _ _ _ _ _ (by rw [ha2];exact hkr3) _ (by omega)).trans h4⟩
   have HS7:Hid (X.heap.size + 1 < w7.heap.size):=by unfold Hid;omega
   clear hr b5 e7 b7 s7 o7 hgx hsr h5s ha1 ha2 gp gc' d0 d1 d2 d3 d4 d5 HX HRr HAr hkr3
   go_roundg g
   case measure=>omega
   case rel=>exact ⟨k + 1,by go_num,by have:=HIG.out;omega,HP7,H47,HL7,HS7⟩
  ·have hd:decide ((k:Int) < (rn:Int)) = false:=decide_eq_false (by omega)
   have hd':decide (k < rn) = false:=decide_eq_false (by omega)
   have hkr:k = rn:=by omega
   have HL2:Hid (SpL wr W2.heap.size rn rn (fun j r=>AroR (cs[j]?.getD 0) (fz j) r)):=hkr ▸ HL.out
   clear hkr
   go_wp2_with fail
   go_ret
   exact ⟨⟨W2.heap.size,rfl,by omega,HL2.out⟩,H4.out.1⟩
open Go.RowKit Go.Shelf
open Ieee
theorem fval_zeroJ:fval 0 = 0:=by decide +kernel
theorem fin_zeroJ:Fin 0:=by decide
structure FnZ (z:ZD):Prop where
 c:∀ j:Nat,Fin (z.cs[j]?.getD 0)
 r:∀ j:Nat,Fin (z.rs[j]?.getD 0)
 g:∀ k j:Nat,Fin ((z.gs[k]?.getD [])[j]?.getD 0)
 few:z.dn <= 1050000
open Ieee
theorem RndO.some_iff {d:Int} {x:Int} {u a:Nat} {b:Bool} (ha:a = 1166) (h:RndO d (some x) u b):RndZ d x (2 ^ a) (u,b):=h a ha
end Go.Proofs.YtmdjoaipkbnelaaGreat
namespace Go.Proofs.YtmdjoaipkbnelaaGreat
open Go.RowKit
theorem plainM_ltJ {x:Nat} (h:x < 18446744073709551616):plainM x < 18446744073709551616:=by unfold plainM;split <;> omega
theorem drop_eqI {is js:List Int} {k:Nat} (h1:k < is.length) (h2:k < js.length):decide (is.drop k = js.drop k) = (decide (is[k]?.getD 0 = js[k]?.getD 0) && decide (is.drop (k + 1) = js.drop (k + 1))):=by
 rw [List.drop_eq_getElem_cons h1,List.drop_eq_getElem_cons h2,List.getElem?_eq_getElem h1,List.getElem?_eq_getElem h2]
 simp only [List.cons.injEq,Option.getD_some,Bool.decide_and]
theorem equalI_any (ao bo:Option Addr) (al ac bl bc:Nat) (is js:List Int) (w:World) (h:RdIs w ao al ac is) (h':RdIs w bo bl bc js) :
  Calls Tryz.prog 54 #[.slice ao al ac,.slice bo bl bc] w fun e w'=>e = .returned (.bool (decide (is = js))) /\ Below w.heap.size w w':=by
 have HR:Hid _:=h
 have HR':Hid _:=h'
 have HLN:Hid (is.length = al /\ js.length = bl /\ al <= 9223372036854775807):=⟨h.length,h'.length,Nat.le_trans h.max maxLen_le⟩
 have hmx:al <= 9223372036854775807:=Nat.le_trans h.max maxLen_le
 clear h h'
 by_cases hn:al = bl
 ·subst hn
  go_enter Tryz.func54,Tryz.ntmps54
  go_wp2_with fail
  go_loopg [13] al (fun g iv wx=>∃ k:Nat,iv = .int .i64 k /\ k + g = al /\ Hid (Below w.heap.size w wx) /\ Hid (decide (is.drop k = js.drop k) = decide (is = js)))
  case atStart=>exact ⟨0,rfl,by omega,Below.refl _ w,rfl⟩
  case round=>
   obtain ⟨k,rfl,hk,HB,HD⟩:=hrel
   by_cases hlt:k < al
   ·have hd:decide ((k:Int) < (al:Int)) = true:=decide_eq_true (by omega)
    obtain ⟨g,rfl⟩:∃ g,gk = g + 1:=⟨gk - 1,by omega⟩
    rcases (HR.out.later HB.out).cells with h0 | ⟨ab,aoff,rfl,hca⟩
    ·omega
    rcases (HR'.out.later HB.out).cells with h0 | ⟨bb,boff,rfl,hcb⟩
    ·omega
    have ga:=hca k hlt
    have gb:=hcb k hlt
    have HDs:Hid (_ = _):=drop_eqI (is:=is) (js:=js) (k:=k) (by rw [HLN.out.1];exact hlt) (by rw [HLN.out.2.1];exact hlt)
    obtain ⟨x,hx⟩:∃ x,is[k]?.getD 0 = x:=⟨_,rfl⟩
    obtain ⟨y,hy⟩:∃ y,js[k]?.getD 0 = y:=⟨_,rfl⟩
    rw [hx,hy] at HDs
    rw [hx] at ga
    rw [hy] at gb
    have HIG:Hid (k + (g + 1) = al):=hk
    clear hca hcb hx hy hk
    by_cases hxy:x = y
    ·subst hxy
     go_wp2_with fail
     go_region
     go_wp2_with fail
     go_roundg g
     case measure=>omega
     case rel=>exact ⟨k + 1,by go_num,by have:=HIG.out;omega,below_drewN HB.out _,by
      have h1:=HDs.out
      rw [show decide True = true from rfl,Bool.true_and] at h1
      unfold Hid;rw [<- h1];exact HD.out⟩
    ·have hne:(x != y) = true:=by simpa using hxy
     have HE:Hid (decide (is = js) = false):=by
      have h1:=HDs.out
      rw [decide_eq_false hxy,Bool.false_and] at h1
      unfold Hid;rw [<- HD.out];exact h1
     go_wp2_with fail
     go_region
     go_wp2_with fail
     go_ret
     exact ⟨by rw [HE.out];rfl,below_drewN HB.out _⟩
   ·have hd:decide ((k:Int) < (al:Int)) = false:=decide_eq_false (by omega)
    have hd':decide (k < al) = false:=decide_eq_false (by omega)
    have HE:Hid (decide (is = js) = true):=by
     have h1:=HD.out
     rw [List.drop_eq_nil_of_le (by rw [HLN.out.1];omega),List.drop_eq_nil_of_le (by rw [HLN.out.2.1];omega),decide_eq_true rfl] at h1
     exact h1.symm
    go_wp2_with fail
    go_ret
    exact ⟨by rw [HE.out];rfl,HB.out⟩
 ·have hd:((al:Int) != (bl:Int)) = true:=by simpa using (show ¬ ((al:Int) = (bl:Int)) by omega)
  have HE:Hid (decide (is = js) = false):=by
   unfold Hid
   refine decide_eq_false fun c=>hn ?_
   rw [<- HLN.out.1,<- HLN.out.2.1,c]
  go_enter Tryz.func54,Tryz.ntmps54
  go_wp2_with fail
  go_ret
  exact ⟨by rw [HE.out];rfl,Below.refl _ w⟩
open Go.RowKit Go.Shelf
theorem neq_ord {u v:Nat} (hu:Fin u) (hv:Fin v):(FloatKind.f64.format.order u v == some Ordering.eq) = decide (srung u = srung v):=by
 have ho:=order_rung (x:=u) (y:=v) (Nat.le_of_lt hu) (Nat.le_of_lt hv)
 rw [f64_fmtJ,ho]
 by_cases h:srung u = srung v
 ·rw [Int.compare_eq_eq.2 h,decide_eq_true h];rfl
 ·rw [decide_eq_false h]
  by_cases h2:srung u < srung v
  ·rw [Int.compare_eq_lt.2 h2];rfl
  ·rw [Int.compare_eq_gt.2 (by omega)];rfl
theorem neq_ordN {u v:Nat} (hu:Fin u) (hv:Fin v):(FloatKind.f64.format.order u v != some Ordering.eq) = !decide (srung u = srung v):=by
 rw [<- neq_ord hu hv];rfl
def sameL (us vs:List Nat):Bool:=decide (us.map srung = vs.map srung)
theorem drop_eqF {us vs:List Nat} {k:Nat} (h1:k < us.length) (h2:k < vs.length):sameL (us.drop k) (vs.drop k) = (decide (srung (us[k]?.getD 0) = srung (vs[k]?.getD 0)) && sameL (us.drop (k + 1)) (vs.drop (k + 1))):=by
 unfold sameL
 rw [List.drop_eq_getElem_cons h1,List.drop_eq_getElem_cons h2,List.getElem?_eq_getElem h1,List.getElem?_eq_getElem h2]
 simp only [List.map_cons,List.cons.injEq,Option.getD_some,Bool.decide_and]
theorem equalF_any (ao bo:Option Addr) (al ac bl bc:Nat) (us vs:List Nat) (hu:∀ u ∈ us,Fin u) (hv:∀ v ∈ vs,Fin v) (w:World) (h:RdF w ao al ac us) (h':RdF w bo bl bc vs) :
  Calls Tryz.prog 55 #[.slice ao al ac,.slice bo bl bc] w fun e w'=>e = .returned (.bool (sameL us vs)) /\ Below w.heap.size w w':=by
 have HR:Hid _:=h
 have HR':Hid _:=h'
 have HLN:Hid (us.length = al /\ vs.length = bl /\ al <= 9223372036854775807):=⟨h.length,h'.length,Nat.le_trans h.max maxLen_le⟩
 have hmx:al <= 9223372036854775807:=Nat.le_trans h.max maxLen_le
 have HFu:Hid _:=hu
 have HFv:Hid _:=hv
 clear h h' hu hv
 by_cases hn:al = bl
 ·subst hn
  go_enter Tryz.func55,Tryz.ntmps55
  go_wp2_with fail
  go_loopg [13] al (fun g iv wx=>∃ k:Nat,iv = .int .i64 k /\ k + g = al /\ Hid (Below w.heap.size w wx) /\ Hid (sameL (us.drop k) (vs.drop k) = sameL us vs))
  case atStart=>exact ⟨0,rfl,by omega,Below.refl _ w,rfl⟩
  case round=>
   obtain ⟨k,rfl,hk,HB,HD⟩:=hrel
   by_cases hlt:k < al
   ·have hd:decide ((k:Int) < (al:Int)) = true:=decide_eq_true (by omega)
    obtain ⟨g,rfl⟩:∃ g,gk = g + 1:=⟨gk - 1,by omega⟩
    rcases (HR.out.later HB.out).cells with h0 | ⟨ab,aoff,rfl,hca⟩
    ·omega
    rcases (HR'.out.later HB.out).cells with h0 | ⟨bb,boff,rfl,hcb⟩
    ·omega
    have ga:=hca k hlt
    have gb:=hcb k hlt
    have HDs:Hid (_ = _):=drop_eqF (us:=us) (vs:=vs) (k:=k) (by rw [HLN.out.1];exact hlt) (by rw [HLN.out.2.1];exact hlt)
    obtain ⟨x,hx⟩:∃ x,us[k]?.getD 0 = x:=⟨_,rfl⟩
    obtain ⟨y,hy⟩:∃ y,vs[k]?.getD 0 = y:=⟨_,rfl⟩
    rw [hx,hy] at HDs
    rw [hx] at ga
    rw [hy] at gb
    have HIG:Hid (k + (g + 1) = al):=hk
    have hox:=neq_ordN (HFu.out _ (getD_mem (us:=us) (j:=k) (by rw [HLN.out.1];exact hlt))) (HFv.out _ (getD_mem (us:=vs) (j:=k) (by rw [HLN.out.2.1];exact hlt)))
    rw [hx,hy] at hox
    clear hca hcb hx hy hk
    by_cases hxy:srung x = srung y
    ·rw [decide_eq_true hxy] at hox HDs
     rw [Bool.not_true] at hox
     clear hxy
     go_wp2_with fail
     go_region
     go_wp2_with fail
     go_roundg g
     case measure=>omega
     case rel=>exact ⟨k + 1,by go_num,by have:=HIG.out;omega,below_drewN HB.out _,by
      have h1:=HDs.out
      rw [Bool.true_and] at h1
      unfold Hid;rw [<- h1];exact HD.out⟩
    ·rw [decide_eq_false hxy] at hox HDs
     rw [Bool.not_false] at hox
     clear hxy
     have HE:Hid (sameL us vs = false):=by
      have h1:=HDs.out
      rw [Bool.false_and] at h1
      unfold Hid;rw [<- HD.out];exact h1
     go_wp2_with fail
     go_region
     go_wp2_with fail
     go_ret
     exact ⟨by rw [HE.out];rfl,below_drewN HB.out _⟩
   ·have hd:decide ((k:Int) < (al:Int)) = false:=decide_eq_false (by omega)
    have hd':decide (k < al) = false:=decide_eq_false (by omega)
    have HE:Hid (sameL us vs = true):=by
     have h1:=HD.out
     rw [List.drop_eq_nil_of_le (by rw [HLN.out.1];omega),List.drop_eq_nil_of_le (by rw [HLN.out.2.1];omega)] at h1
     exact h1.symm
    go_wp2_with fail
    go_ret
    exact ⟨by rw [HE.out];rfl,HB.out⟩
 ·have hd:((al:Int) != (bl:Int)) = true:=by simpa using (show ¬ ((al:Int) = (bl:Int)) by omega)
  have HE:Hid (sameL us vs = false):=by
   unfold Hid
   refine decide_eq_false fun c=>hn ?_
   have:=congrArg List.length c
   rw [List.length_map,List.length_map,HLN.out.1,HLN.out.2.1] at this
   exact this
  go_enter Tryz.func55,Tryz.ntmps55
  go_wp2_with fail
  go_ret
  exact ⟨by rw [HE.out];rfl,Below.refl _ w⟩
def sameG (us vs:List (List Nat)):Bool:=decide (us.map (·.map srung) = vs.map (·.map srung))
theorem drop_eqG {us vs:List (List Nat)} {k:Nat} (h1:k < us.length) (h2:k < vs.length):sameG (us.drop k) (vs.drop k) = (sameL (us[k]?.getD []) (vs[k]?.getD []) && sameG (us.drop (k + 1)) (vs.drop (k + 1))):=by
 unfold sameG sameL
 rw [List.drop_eq_getElem_cons h1,List.drop_eq_getElem_cons h2,List.getElem?_eq_getElem h1,List.getElem?_eq_getElem h2]
 simp only [List.map_cons,List.cons.injEq,Option.getD_some,Bool.decide_and]
theorem getD_memG {us:List (List Nat)} {j:Nat} (h:j < us.length):us[j]?.getD [] ∈ us:=by
 rw [List.getElem?_eq_getElem h];exact List.getElem_mem h
theorem equalG_any (ao bo:Option Addr) (al ac bl bc:Nat) (gu gv:Nat -> Option Addr × Nat × Nat) (us vs:List (List Nat)) (hu:∀ l ∈ us,∀ u ∈ l,Fin u) (hv:∀ l ∈ vs,∀ v ∈ l,Fin v) (w:World) (h:RdGs w ao al ac gu us) (h':RdGs w bo bl bc gv vs) :
  Calls Tryz.prog 56 #[.slice ao al ac,.slice bo bl bc,.func (.func 55) #[] #[]] w fun e w'=>e = .returned (.bool (sameG us vs)) /\ Below w.heap.size w w':=by
 have HR:Hid _:=h
 have HR':Hid _:=h'
 have HLN:Hid (us.length = al /\ vs.length = bl /\ al <= 9223372036854775807):=⟨h.length,h'.length,Nat.le_trans h.max maxLen_le⟩
 have hmx:al <= 9223372036854775807:=Nat.le_trans h.max maxLen_le
 have HFu:Hid _:=hu
 have HFv:Hid _:=hv
 clear h h' hu hv
 by_cases hn:al = bl
 ·subst hn
  go_enter Tryz.func56,Tryz.ntmps56
  go_wp2_with fail
  go_loopg [17] al (fun g iv wx=>∃ k:Nat,iv = .int .i64 k /\ k + g = al /\ Hid (Below w.heap.size w wx) /\ Hid (sameG (us.drop k) (vs.drop k) = sameG us vs))
  case atStart=>exact ⟨0,rfl,by omega,Below.refl _ w,rfl⟩
  case round=>
   obtain ⟨k,rfl,hk,HB,HD⟩:=hrel
   by_cases hlt:k < al
   ·have hd:decide ((k:Int) < (al:Int)) = true:=decide_eq_true (by omega)
    obtain ⟨g,rfl⟩:∃ g,gk = g + 1:=⟨gk - 1,by omega⟩
    rcases (HR.out.later HB.out).cells with h0 | ⟨ab,aoff,rfl,hca⟩
    ·omega
    rcases (HR'.out.later HB.out).cells with h0 | ⟨bb,boff,rfl,hcb⟩
    ·omega
    have ga:=hca k hlt
    have gb:=hcb k hlt
    have hk1:k < us.length:=by rw [HLN.out.1];exact hlt
    have hk2:k < vs.length:=by rw [HLN.out.2.1];exact hlt
    have HDs:Hid (_ = _):=drop_eqG (us:=us) (vs:=vs) (k:=k) hk1 hk2
    have HC:Hid (Calls Tryz.prog 55 #[.slice (gu k).1 (gu k).2.1 (gu k).2.2,.slice (gv k).1 (gv k).2.1 (gv k).2.2] wr fun e w'=>e = .returned (.bool (sameL (us[k]?.getD []) (vs[k]?.getD []))) /\ Below wr.heap.size wr w'):=equalF_any _ _ _ _ _ _ _ _ (HFu.out _ (getD_memG hk1)) (HFv.out _ (getD_memG hk2)) wr ((HR.out.later HB.out).each k hlt) ((HR'.out.later HB.out).each k hlt)
    have HIG:Hid (k + (g + 1) = al):=hk
    clear hca hcb hk hk1 hk2
    cases hxy:sameL (us[k]?.getD []) (vs[k]?.getD []) with
    | true=>
     rw [hxy] at HC HDs
     clear hxy
     go_wp2_with (go_at_call 55;refine HC.out.mono ?_;rintro e w1 ⟨rfl,hb1⟩)
     have HB1:Hid (Below w.heap.size w w1):=HB.out.trans (hb1.mono HB.out.size)
     go_roundg g
     case measure=>omega
     case rel=>exact ⟨k + 1,by go_num,by have:=HIG.out;omega,HB1,by
      have h1:=HDs.out
      rw [Bool.true_and] at h1
      unfold Hid;rw [<- h1];exact HD.out⟩
    | false=>
     rw [hxy] at HC HDs
     clear hxy
     have HE:Hid (sameG us vs = false):=by
      have h1:=HDs.out
      rw [Bool.false_and] at h1
      unfold Hid;rw [<- HD.out];exact h1
     go_wp2_with (go_at_call 55;refine HC.out.mono ?_;rintro e w1 ⟨rfl,hb1⟩)
     go_ret
     exact ⟨by rw [HE.out];rfl,HB.out.trans (hb1.mono HB.out.size)⟩
   ·have hd:decide ((k:Int) < (al:Int)) = false:=decide_eq_false (by omega)
    have hd':decide (k < al) = false:=decide_eq_false (by omega)
    have HE:Hid (sameG us vs = true):=by
     have h1:=HD.out
     rw [List.drop_eq_nil_of_le (by rw [HLN.out.1];omega),List.drop_eq_nil_of_le (by rw [HLN.out.2.1];omega)] at h1
     exact h1.symm
    go_wp2_with fail
    go_ret
    exact ⟨by rw [HE.out];rfl,HB.out⟩
 ·have hd:((al:Int) != (bl:Int)) = true:=by simpa using (show ¬ ((al:Int) = (bl:Int)) by omega)
  have HE:Hid (sameG us vs = false):=by
   unfold Hid
   refine decide_eq_false fun c=>hn ?_
   have:=congrArg List.length c
   rw [List.length_map,List.length_map,HLN.out.1,HLN.out.2.1] at this
   exact this
  go_enter Tryz.func56,Tryz.ntmps56
  go_wp2_with fail
  go_ret
  exact ⟨by rw [HE.out];rfl,Below.refl _ w⟩
def badZD:ZD:=⟨0,none,0,0,none,0,0,none,0,0,none,0,0,true,[],[],fun _=>(none,0,0),[],[]⟩
def tkZ (z:ZD):ZD:=if checkB z then z else badZD
def zRow (z:ZD):Array Value:=#[.int .i64 z.N,.slice z.co z.cn z.cc,.slice z.io z.dn z.dc,.slice z.go z.gn z.gc,.slice z.ro z.rn z.rc,.bool z.bad]
theorem badZD_ZR (w:World):ZR w badZD:=⟨⟨rfl,Nat.zero_le _,fun u hu=>(by cases hu),.inl rfl⟩,⟨rfl,Nat.zero_le _,.inl rfl⟩,⟨rfl,Nat.zero_le _,.inl rfl,fun j hj=>absurd hj (Nat.not_lt_zero _)⟩,⟨rfl,Nat.zero_le _,fun u hu=>(by cases hu),.inl rfl⟩⟩
theorem tkZ_ZR {w:World} {z:ZD} (h:ZR w z):ZR w (tkZ z):=by
 unfold tkZ
 split
 ·exact h
 ·exact badZD_ZR w
theorem takenZ_any (z:ZD) (w:World) (hz:ZR w z):Calls Tryz.prog 16 #[.agg (zRow z)] w fun e w'=>e = .returned (.agg (zRow (tkZ z))) /\ Below w.heap.size w w':=by
 unfold tkZ
 cases hc:checkB z with
 | true=>exact taken_ok z w hz hc
 | false=>exact taken_no z w hz hc
theorem colsB_mem (z:ZD):∀ (ks:List (_root_.Fin z.dn)) (last:Int),colsB z last ks = true -> ∀ k ∈ ks,∃ l,colOk z l k = true
 | [],_,_,k,hk=>by cases hk
 | c :: ks,last,h,k,hk=>by
  unfold colsB at h
  rw [Bool.and_eq_true] at h
  rcases List.mem_cons.1 hk with rfl | hk
  ·exact ⟨_,h.1⟩
  ·exact colsB_mem z ks _ h.2 k hk
structure FinZ (z:ZD):Prop where
 c:∀ u ∈ z.cs,Fin u
 r:∀ u ∈ z.rs,Fin u
 g:∀ l ∈ z.gs,∀ u ∈ l,Fin u
theorem tkZ_fin {w:World} {z:ZD} (h:ZR w z):FinZ (tkZ z):=by
 unfold tkZ
 cases hc:checkB z with
 | false=>exact ⟨fun u hu=>(by cases hu),fun u hu=>(by cases hu),fun u hu=>(by cases hu)⟩
 | true=>
  simp only [if_true]
  unfold checkB at hc
  cases hb:z.bad with
  | true=>
   rw [hb] at hc
   simp only [if_true,bareB,Bool.and_eq_true,decide_eq_true_eq] at hc
   have e1:z.cs = []:=List.length_eq_zero_iff.1 (by rw [h.c.length];omega)
   have e2:z.rs = []:=List.length_eq_zero_iff.1 (by rw [h.r.length];omega)
   have e3:z.gs = []:=List.length_eq_zero_iff.1 (by rw [h.g.length];omega)
   exact ⟨fun u hu=>(by rw [e1] at hu;cases hu),fun u hu=>(by rw [e2] at hu;cases hu),fun u hu=>(by rw [e3] at hu;cases hu)⟩
  | false=>
   rw [hb] at hc
   simp only [Bool.false_eq_true,if_false,wholeB,Bool.and_eq_true,decide_eq_true_eq] at hc
   refine ⟨(numN_fin hc.1.1.1.1.2).2,(numN_fin hc.1.1.1.2).2,fun l hl=>?_⟩
   obtain ⟨j,hj,rfl⟩:=List.getElem_of_mem hl
   have hj2:j < z.dn:=by have:=h.g.length;omega
   obtain ⟨la,hok⟩:=colsB_mem z _ _ hc.2 ⟨j,hj2⟩ (List.mem_finRange _)
   unfold colOk at hok
   simp only [Bool.and_eq_true] at hok
   have:=(numN_fin hok.2).2
   rw [show z.gs[(⟨j,hj2⟩:_root_.Fin z.dn).val]? = some z.gs[j] from List.getElem?_eq_getElem hj] at this
   exact this
open Ieee
theorem fin_getD {us:List Nat} (h:∀ u ∈ us,Fin u) (j:Nat):Fin (us[j]?.getD 0):=by
 by_cases hj:j < us.length
 ·rw [List.getElem?_eq_getElem hj];exact h _ (List.getElem_mem hj)
 ·rw [List.getElem?_eq_none (by omega)];exact fin_zeroJ
theorem colsB_num {z:ZD}:∀ {ks:List (_root_.Fin z.dn)} {last:Int},colsB z last ks = true -> ∀ k ∈ ks,numN (z.gs[k.val]?.getD []) z.N = true
 | [],_,_,k,hk=>by cases hk
 | x :: ks,last,h,k,hk=>by
  have h':(colOk z last x && colsB z (idZ z x) ks) = true:=h
  rw [Bool.and_eq_true] at h'
  rcases List.mem_cons.1 hk with rfl | hk
  ·have:=h'.1
   unfold colOk at this
   simp only [Bool.and_eq_true] at this
   exact this.2
  ·exact colsB_num h'.2 k hk
structure WhF (z:ZD):Prop where
 n1:1 <= z.rn
 n2:z.rn <= 256
 N:z.N = (z.rn:Int)
 cn:z.cn = z.rn
 dg:z.dn = z.gn
 cl:z.cs.length = z.rn
 rl:z.rs.length = z.rn
 gl:∀ k,k < z.dn -> (z.gs[k]?.getD []).length = z.rn
 pos:∀ i:Nat,0 <= fval (z.rs[i]?.getD 0)
 fin:FnZ z
theorem WhF.of {w:World} {z:ZD} (hz:ZR w z) (hd:z.dn <= 1050000) (h:wholeB z = true):WhF z:=by
 unfold wholeB at h
 simp only [Bool.and_eq_true,decide_eq_true_eq] at h
 obtain ⟨⟨⟨⟨⟨⟨h1,h2⟩,h3⟩,h4⟩,h5⟩,h6⟩,h7⟩:=h
 obtain ⟨c1,c2⟩:=numN_fin h3
 obtain ⟨r1,r2⟩:=numN_fin h4
 have hl:=hz.r.length
 have hlc:=hz.c.length
 have hg:=fun (k:Nat) (hk:k < z.dn)=>numN_fin (colsB_num h7 ⟨k,hk⟩ (List.mem_finRange _))
 refine ⟨by omega,by omega,by omega,by omega,h5,by omega,hl,fun k hk=>by have:=(hg k hk).1;dsimp only at this;omega,fun i=>?_,⟨fin_getD c2,fin_getD r2,fun k j=>?_,hd⟩⟩
 ·by_cases hi:i < z.rs.length
  ·rw [List.getElem?_eq_getElem hi]
   have h8:=List.all_eq_true.1 h6 _ (List.getElem_mem hi)
   have h9:¬ srung z.rs[i] < 0:=of_decide_eq_true h8
   have h10:=srung_le 0 z.rs[i]
   rw [fval_zeroJ,show srung 0 = 0 by decide] at h10
   exact h10.1 (by omega)
  ·rw [List.getElem?_eq_none (by omega)];exact Int.le_of_eq fval_zeroJ.symm
 ·by_cases hk:k < z.dn
  ·exact fin_getD (hg k hk).2 j
  ·have e:z.gs[k]? = none:=List.getElem?_eq_none (by have:=hz.g.length;omega)
   rw [e]
   exact fin_zeroJ
theorem gt0_ord {u:Nat} (hu:Fin u):(FloatKind.f64.format.order u 0 == some Ordering.gt) = decide (0 < srung u):=by
 have ho:=order_rung (x:=u) (y:=0) (Nat.le_of_lt hu) (by decide)
 have hs:srung 0 = 0:=by decide
 rw [f64_fmtJ,ho,hs]
 by_cases h:0 < srung u
 ·rw [Int.compare_eq_gt.2 h,decide_eq_true h];rfl
 ·rw [decide_eq_false h]
  by_cases h2:srung u = 0
  ·rw [Int.compare_eq_eq.2 h2];rfl
  ·rw [Int.compare_eq_lt.2 (by omega)];rfl
def madeN (rs:List Nat):Nat:=rs.countP fun u=>decide (0 < srung u)
theorem madeN_take {rs:List Nat} {k:Nat} (h:k < rs.length):madeN (rs.take (k + 1)) = madeN (rs.take k) + (if 0 < srung (rs[k]?.getD 0) then 1 else 0):=by
 unfold madeN
 rw [List.take_add_one,List.getElem?_eq_getElem h,List.countP_append]
 simp [List.countP_cons,List.countP_nil]
def lastB (z:ZD) (next:Int):Bool:=decide (0 < z.dn) && decide (next <= z.ids[z.dn - 1]?.getD 0)
def mayB (z:ZD) (next:Int):Bool:=!(decide (next < 0) || lastB z next) && (decide (madeN z.rs = 0) || decide (next <= 1073741824 - (madeN z.rs:Int) + 1))
theorem mayNumber_any (z:ZD) (next:Int) (hnx:-9223372036854775808 <= next /\ next < 9223372036854775808) (w:World) (hz:ZR w z) (hf:∀ u ∈ z.rs,Fin u) (hrn:z.rn <= 1000000) (hdn:z.dn <= 1000000000) :
  Calls Tryz.prog 17 #[.agg #[.int .i64 z.N,.slice z.co z.cn z.cc,.slice z.io z.dn z.dc,.slice z.go z.gn z.gc,.slice z.ro z.rn z.rc,.bool z.bad],.int .i64 next] w fun e w'=>e = .returned (.bool (mayB z next)) /\ Below w.heap.size w w':=by
 have X0:Below w.heap.size w (w.alloc (.cells #[.int .i64 z.N,.slice z.co z.cn z.cc,.slice z.io z.dn z.dc,.slice z.go z.gn z.gc,.slice z.ro z.rn z.rc,.bool z.bad] 26)):=(Below.refl _ w).alloc (Nat.le_refl _) _
 have HZ:=hz.later X0
 have HE:Hid (mayB z next = (!(decide (next < 0) || lastB z next) && (decide (madeN z.rs = 0) || decide (next <= 1073741824 - (madeN z.rs:Int) + 1)))):=rfl
 obtain ⟨mb,hmb⟩:∃ mb,mayB z next = mb:=⟨_,rfl⟩
 rw [hmb] at HE ⊢
 have HL:Hid (lastB z next = (decide (0 < z.dn) && decide (next <= z.ids[z.dn - 1]?.getD 0))):=rfl
 obtain ⟨lb,hlb⟩:∃ lb,lastB z next = lb:=⟨_,rfl⟩
 rw [hlb] at HE HL
 have HRr:Hid _:=HZ.r
 have HRi:Hid _:=HZ.i
 have HXB:Hid _:=X0
 have HF:Hid _:=hf
 clear hz hmb hlb HZ hf X0
 obtain ⟨N,co,cn,cc,io,dn,dc,go,gn,gc,ro,rn,rc,bad,cs,ids,gv,gs,rs⟩:=z
 dsimp only at HE HL HRr HRi HXB HF hrn hdn ⊢
 by_cases q0:next < 0
 case pos=>
  have d0:decide (next < 0) = true:=decide_eq_true q0
  have HS:Hid (mb = false):=by unfold Hid;rw [HE.out];simp [q0]
  go_enter Tryz.func17,Tryz.ntmps17
  go_wp2_with fail
  go_ret
  exact ⟨by rw [HS.out];rfl,HXB.out⟩
 have d0:decide (next < 0) = false:=decide_eq_false q0
 by_cases q1:0 < dn
 case neg=>
  have d1:decide ((0:Int) < (dn:Int)) = false:=decide_eq_false (by omega)
  have d1':decide (0 < dn) = false:=decide_eq_false q1
  have HS:Hid (mb = (decide (madeN rs = 0) || decide (next <= 1073741824 - (madeN rs:Int) + 1))):=by unfold Hid;rw [HE.out,HL.out];simp [q0,q1]
  clear HE HL
  go_enter Tryz.func17,Tryz.ntmps17
  go_wp2_with fail
  go_loopg [5,31] rn (fun g mv iv wx=>∃ k m:Nat,iv = .int .i64 k /\ mv = .int .i64 m /\ k + g = rn /\ m <= k /\ Hid (wx = (w.alloc (.cells #[.int .i64 N,.slice co cn cc,.slice io dn dc,.slice go gn gc,.slice ro rn rc,.bool bad] 26))) /\ Hid (m = madeN (rs.take k)))
  case atStart=>exact ⟨0,0,rfl,rfl,by omega,Nat.le_refl _,rfl,rfl⟩
  case round=>
   obtain ⟨k,m,rfl,rfl,hk,hmk,HW,HM⟩:=hrel
   have hww:=HW.out
   by_cases hlt:k < rn
   ·have hd:decide ((k:Int) < (rn:Int)) = true:=decide_eq_true (by omega)
    obtain ⟨g,rfl⟩:∃ g,gk = g + 1:=⟨gk - 1,by omega⟩
    rw [<- hww] at HRr
    rcases HRr.out.cells with h0 | ⟨ab,aoff,rfl,hca⟩
    ·omega
    have ga:=hca k hlt
    have hkl:k < rs.length:=by rw [HRr.out.length];exact hlt
    have hox:=gt0_ord (HF.out _ (getD_mem (us:=rs) (j:=k) hkl))
    have HMs:Hid (_ = _):=madeN_take (rs:=rs) (k:=k) hkl
    obtain ⟨x,hx⟩:∃ x,rs[k]?.getD 0 = x:=⟨_,rfl⟩
    rw [hx] at ga hox HMs
    have HIG:Hid (k + (g + 1) = rn):=hk
    clear hca hx hk hww hkl
    by_cases hxp:0 < srung x
    ·rw [decide_eq_true hxp] at hox
     rw [if_pos hxp] at HMs
     clear hxp
     go_wp2_with fail
     go_roundg g
     case measure=>omega
     case rel=>exact ⟨k + 1,m + 1,by go_num,by go_num,by have:=HIG.out;omega,by omega,HW,by unfold Hid;rw [HMs.out,<- HM.out]⟩
    ·rw [decide_eq_false hxp] at hox
     rw [if_neg hxp] at HMs
     clear hxp
     go_wp2_with fail
     go_roundg g
     case measure=>omega
     case rel=>exact ⟨k + 1,m,by go_num,rfl,by have:=HIG.out;omega,by omega,HW,by unfold Hid;rw [HMs.out,<- HM.out];rfl⟩
   ·have hd:decide ((k:Int) < (rn:Int)) = false:=decide_eq_false (by omega)
    have hd':decide (k < rn) = false:=decide_eq_false (by omega)
    have HM2:Hid (m = madeN rs):=by
     have h1:=HM.out
     rw [List.take_of_length_le (by rw [HRr.out.length];omega)] at h1
     exact h1
    have HXB2:Hid (Below w.heap.size w wr):=by unfold Hid;rw [HW.out];exact HXB.out
    clear hww HW
    rw [<- HM2.out] at HS
    by_cases hm0:m = 0
    ·have HS2:Hid (mb = true):=by unfold Hid;rw [HS.out];simp [hm0]
     have dm:((m:Int) == 0) = true:=by simp [hm0]
     subst hm0
     go_wp2_with fail
     go_ret
     exact ⟨by rw [HS2.out];rfl,HXB2.out⟩
    ·have dm:((m:Int) == 0) = false:=by simpa using (show ¬ ((m:Nat):Int) = 0 by omega)
     have HS2:Hid (mb = decide (next <= 1073741824 - (m:Int) + 1)):=by unfold Hid;rw [HS.out];simp [hm0]
     go_wp2_with fail
     go_ret
     exact ⟨by rw [HS2.out];rfl,HXB2.out⟩
 obtain ⟨t,rfl⟩:∃ t,dn = t + 1:=⟨dn - 1,by omega⟩
 have d1:decide ((0:Int) < ((t + 1:Nat):Int)) = true:=decide_eq_true (by omega)
 rcases HRi.out.cells with h0 | ⟨ib,ioff,rfl,hci⟩
 ·omega
 have gi:=hci t (by omega)
 rw [Nat.add_sub_cancel] at HL
 obtain ⟨y,hy⟩:∃ y,ids[t]?.getD 0 = y:=⟨_,rfl⟩
 rw [hy] at gi HL
 clear hci hy
 by_cases q2:next <= y
 case pos=>
  have d2:decide (next <= y) = true:=decide_eq_true q2
  have HS:Hid (mb = false):=by unfold Hid;rw [HE.out,HL.out];simp [q2]
  go_enter Tryz.func17,Tryz.ntmps17
  go_wp2_with fail
  go_ret
  exact ⟨by rw [HS.out];rfl,HXB.out⟩
 have d2:decide (next <= y) = false:=decide_eq_false q2
 have HS:Hid (mb = (decide (madeN rs = 0) || decide (next <= 1073741824 - (madeN rs:Int) + 1))):=by unfold Hid;rw [HE.out,HL.out];simp [q0,q2]
 clear HE HL
 go_enter Tryz.func17,Tryz.ntmps17
 go_wp2_with fail
 go_loopg [5,31] rn (fun g mv iv wx=>∃ k m:Nat,iv = .int .i64 k /\ mv = .int .i64 m /\ k + g = rn /\ m <= k /\ Hid (wx = (w.alloc (.cells #[.int .i64 N,.slice co cn cc,.slice (some ⟨ib,ioff,none⟩) (t + 1) dc,.slice go gn gc,.slice ro rn rc,.bool bad] 26))) /\ Hid (m = madeN (rs.take k)))
 case atStart=>exact ⟨0,0,rfl,rfl,by omega,Nat.le_refl _,rfl,rfl⟩
 case round=>
  obtain ⟨k,m,rfl,rfl,hk,hmk,HW,HM⟩:=hrel
  have hww:=HW.out
  by_cases hlt:k < rn
  ·have hd:decide ((k:Int) < (rn:Int)) = true:=decide_eq_true (by omega)
   obtain ⟨g,rfl⟩:∃ g,gk = g + 1:=⟨gk - 1,by omega⟩
   rw [<- hww] at HRr
   rcases HRr.out.cells with h0 | ⟨ab,aoff,rfl,hca⟩
   ·omega
   have ga:=hca k hlt
   have hkl:k < rs.length:=by rw [HRr.out.length];exact hlt
   have hox:=gt0_ord (HF.out _ (getD_mem (us:=rs) (j:=k) hkl))
   have HMs:Hid (_ = _):=madeN_take (rs:=rs) (k:=k) hkl
   obtain ⟨x,hx⟩:∃ x,rs[k]?.getD 0 = x:=⟨_,rfl⟩
   rw [hx] at ga hox HMs
   have HIG:Hid (k + (g + 1) = rn):=hk
   clear hca hx hk hww hkl
   by_cases hxp:0 < srung x
   ·rw [decide_eq_true hxp] at hox
    rw [if_pos hxp] at HMs
    clear hxp
    go_wp2_with fail
    go_roundg g
    case measure=>omega
    case rel=>exact ⟨k + 1,m + 1,by go_num,by go_num,by have:=HIG.out;omega,by omega,HW,by unfold Hid;rw [HMs.out,<- HM.out]⟩
   ·rw [decide_eq_false hxp] at hox
    rw [if_neg hxp] at HMs
    clear hxp
    go_wp2_with fail
    go_roundg g
    case measure=>omega
    case rel=>exact ⟨k + 1,m,by go_num,rfl,by have:=HIG.out;omega,by omega,HW,by unfold Hid;rw [HMs.out,<- HM.out];rfl⟩
  ·have hd:decide ((k:Int) < (rn:Int)) = false:=decide_eq_false (by omega)
   have hd':decide (k < rn) = false:=decide_eq_false (by omega)
   have HM2:Hid (m = madeN rs):=by
    have h1:=HM.out
    rw [List.take_of_length_le (by rw [HRr.out.length];omega)] at h1
    exact h1
   have HXB2:Hid (Below w.heap.size w wr):=by unfold Hid;rw [HW.out];exact HXB.out
   clear hww HW
   rw [<- HM2.out] at HS
   by_cases hm0:m = 0
   ·have HS2:Hid (mb = true):=by unfold Hid;rw [HS.out];simp [hm0]
    have dm:((m:Int) == 0) = true:=by simp [hm0]
    subst hm0
    go_wp2_with fail
    go_ret
    exact ⟨by rw [HS2.out];rfl,HXB2.out⟩
   ·have dm:((m:Int) == 0) = false:=by simpa using (show ¬ ((m:Nat):Int) = 0 by omega)
    have HS2:Hid (mb = decide (next <= 1073741824 - (m:Int) + 1)):=by unfold Hid;rw [HS.out];simp [hm0]
    go_wp2_with fail
    go_ret
    exact ⟨by rw [HS2.out];rfl,HXB2.out⟩
theorem res_ctJ (f:Func) (i j:Nat) (ty:TypeId) (hf:f.results = #[ResultVar.cell i ty,ResultVar.tmp j]) (tmps:Array Value) (W:World) (B:Nat) (c:Array Value) (v:Value) (hp:tmps[i]? = some (.pointer (some ⟨B,0,none⟩))) (hv:tmps[j]? = some v)
  (u:TypeDesc) (hu:Tryz.prog.underlying ty = some u) (hd:u.isRow = true) (n:Nat) (hi:(Tryz.prog.info? ty).map (·.size) = some n)
  (hc:c.size = n) (h:W.heap[B]? = some (.cells c ty)):(results f tmps).run Tryz.prog W = .ok (.tuple #[.agg c,v]) W:=by
 have hr:W.rangeAt B 0 c.toList:=by
  have:=World.rangeAt_of_block h 0 c.size
  simpa using this
 have hl:=run_loadVar_mid (P:=Tryz.prog) W B 0 ty c.toList _ hr hu hd (by rw [hi];simp [hc])
 have hl2:(loadVar ty ⟨B,0,none⟩).run Tryz.prog W = .ok (.agg c) W:=by simpa using hl
 simp [results,hf,hp,hv,hl2,asAddr]
theorem wpList_load_rowG {P:Program} {ops:Array Oper} {rest:List Oper} {op:Oper} {a:Act} {w:World} {Q:Exit -> Act -> World -> Prop} (hgd:Region.wanted op (yielded ops a.tmps) = true) (ty:TypeId) (x:Operand) (ho:op.op = .load ty x)
  (B:Nat) (c:Array Value) (hx:a.eval x = .pointer (some ⟨B,0,none⟩)) (hB:w.heap[B]? = some (.cells c ty)) (d:TypeDesc) (hu:P.underlying ty = some d) (hd:d.isRow = true)
  (n:Nat) (hi:(P.info? ty).map (·.size) = some n) (hn:c.size = n)
  (h:wpList P ops Q rest (a.put op.dst (.agg c)) w):wpList P ops Q (op :: rest) a w:=by
 have hr:w.rangeAt B 0 c.toList:=by
  have:=World.rangeAt_of_block hB 0 c.size
  simpa using this
 refine wpList_step fun K hK=>?_
 rw [if_pos hgd]
 refine wp_load_mid ty x ho B 0 hx c.toList d hr hu hd (by simpa [hn] using hi) ?_
 refine hK _ _ ?_
 simpa using h
theorem sevenJ (w:World) (o0 o1 o2 o3 o4 o5 o6:Obj):(((((((w.alloc o0).alloc o1).alloc o2).alloc o3).alloc o4).alloc o5).alloc o6).heap[w.heap.size + 1]? = some o1 /\ (((((((w.alloc o0).alloc o1).alloc o2).alloc o3).alloc o4).alloc o5).alloc o6).heap[w.heap.size + 1 + 1]? = some o2 /\ (((((((w.alloc o0).alloc o1).alloc o2).alloc o3).alloc o4).alloc o5).alloc o6).heap[w.heap.size + 1 + 1 + 1]? = some o3 /\ (((((((w.alloc o0).alloc o1).alloc o2).alloc o3).alloc o4).alloc o5).alloc o6).heap[w.heap.size + 1 + 1 + 1 + 1]? = some o4 /\ (((((((w.alloc o0).alloc o1).alloc o2).alloc o3).alloc o4).alloc o5).alloc o6).heap[w.heap.size + 1 + 1 + 1 + 1 + 1]? = some o5 /\ (((((((w.alloc o0).alloc o1).alloc o2).alloc o3).alloc o4).alloc o5).alloc o6).heap[w.heap.size + 1 + 1 + 1 + 1 + 1 + 1]? = some o6 /\ Below w.heap.size w (((((((w.alloc o0).alloc o1).alloc o2).alloc o3).alloc o4).alloc o5).alloc o6):=
 ⟨alloc_kept (alloc_kept (alloc_kept (alloc_kept (alloc_kept (heap_at (w.alloc o0) o1 (w.heap.size + 1) (by simp only [alloc_size])) _) _) _) _) _,alloc_kept (alloc_kept (alloc_kept (alloc_kept (heap_at ((w.alloc o0).alloc o1) o2 (w.heap.size + 1 + 1) (by simp only [alloc_size])) _) _) _) _,alloc_kept (alloc_kept (alloc_kept (heap_at (((w.alloc o0).alloc o1).alloc o2) o3 (w.heap.size + 1 + 1 + 1) (by simp only [alloc_size])) _) _) _,alloc_kept (alloc_kept (heap_at ((((w.alloc o0).alloc o1).alloc o2).alloc o3) o4 (w.heap.size + 1 + 1 + 1 + 1) (by simp only [alloc_size])) _) _,alloc_kept (heap_at (((((w.alloc o0).alloc o1).alloc o2).alloc o3).alloc o4) o5 (w.heap.size + 1 + 1 + 1 + 1 + 1) (by simp only [alloc_size])) _,heap_at ((((((w.alloc o0).alloc o1).alloc o2).alloc o3).alloc o4).alloc o5) o6 (w.heap.size + 1 + 1 + 1 + 1 + 1 + 1) (by simp only [alloc_size]),((((((((Below.refl _ w).alloc (Nat.le_refl _) _).alloc (by simp only [alloc_size];omega) _).alloc (by simp only [alloc_size];omega) _).alloc (by simp only [alloc_size];omega) _).alloc (by simp only [alloc_size];omega) _).alloc (by simp only [alloc_size];omega) _).alloc (by simp only [alloc_size];omega) _)⟩
theorem rdF2 {W:World} {B x y:Nat} {t:TypeId} (h:W.heap[B]? = some (.cells #[.float .f64 x,.float .f64 y] t)) (hx:x < 18446744073709551616) (hy:y < 18446744073709551616):RdF W (some ⟨B,0,none⟩) 2 2 [x,y]:=by
 refine ⟨rfl,by decide,fun u hu=>?_,.inr ⟨B,0,rfl,fun j hj=>?_⟩⟩
 ·simp only [List.mem_cons,List.not_mem_nil,or_false] at hu
  rcases hu with rfl | rfl <;> assumption
 ·match j,hj with
  | 0,_=>exact cellAtJ h 0 _ rfl
  | 1,_=>exact cellAtJ h 1 _ rfl
theorem rdI2 {W:World} {B:Nat} {x y:Int} {t:TypeId} (h:W.heap[B]? = some (.cells #[.int .i64 x,.int .i64 y] t)):RdIs W (some ⟨B,0,none⟩) 2 2 [x,y]:=by
 refine ⟨rfl,by decide,.inr ⟨B,0,rfl,fun j hj=>?_⟩⟩
 match j,hj with
 | 0,_=>exact cellAtJ h 0 _ rfl
 | 1,_=>exact cellAtJ h 1 _ rfl
theorem rdG2 {W:World} {B:Nat} {p q:Option Addr × Nat × Nat} {us vs:List Nat} {t:TypeId} (h:W.heap[B]? = some (.cells #[.slice p.1 p.2.1 p.2.2,.slice q.1 q.2.1 q.2.2] t)) (hp:RdF W p.1 p.2.1 p.2.2 us) (hq:RdF W q.1 q.2.1 q.2.2 vs):RdGs W (some ⟨B,0,none⟩) 2 2 (fun j=>if j = 0 then p else q) [us,vs]:=by
 refine ⟨rfl,by decide,.inr ⟨B,0,rfl,fun j hj=>?_⟩,fun j hj=>?_⟩
 ·match j,hj with
  | 0,_=>exact cellAtJ h 0 _ rfl
  | 1,_=>exact cellAtJ h 1 _ rfl
 ·match j,hj with
  | 0,_=>exact hp
  | 1,_=>exact hq
theorem first_any (w:World) :
  Calls Tryz.prog 26 #[] w fun e w'=>∃ z:ZD,e = .returned (.agg (zRow z)) /\ ZR w' z /\ z.N = 2 /\ z.bad = false /\ z.cn = 2 /\ z.dn = 2 /\ z.gn = 2 /\ z.rn = 2 /\ z.cs = [4607182418800017408,4611686018427387904] /\ z.ids = [0,3] /\ z.gs = [[4607182418800017408,0],[4607182418800017408,13830554455654793216]] /\ z.rs = [0,4602678819172646912] /\ Below w.heap.size w w':=by
 go_enter Tryz.func26,Tryz.ntmps26
 go_wp2_with fail
 refine bodyPost_ret (res_oneJ _ 0 26 (by kernel_rfl) _ _ w.heap.size _ (by rfl) _ Tryz.underlying26 rfl 6 Tryz.infoZ rfl (alloc_kept (alloc_kept (alloc_kept (alloc_kept (alloc_kept (alloc_kept (heap_alloc_new w _) _) _) _) _) _) _)) rfl ?_
 obtain ⟨h1,h2,h3,h4,h5,h6,hb⟩:=sevenJ w _ _ _ _ _ _ _
 refine ⟨⟨2,some ⟨w.heap.size + 1,0,none⟩,2,2,some ⟨w.heap.size + 1 + 1,0,none⟩,2,2,some ⟨w.heap.size + 1 + 1 + 1 + 1 + 1,0,none⟩,2,2,some ⟨w.heap.size + 1 + 1 + 1 + 1 + 1 + 1,0,none⟩,2,2,false,[4607182418800017408,4611686018427387904],[0,3],fun j=>if j = 0 then (some ⟨w.heap.size + 1 + 1 + 1,0,none⟩,2,2) else (some ⟨w.heap.size + 1 + 1 + 1 + 1,0,none⟩,2,2),[[4607182418800017408,0],[4607182418800017408,13830554455654793216]],[0,4602678819172646912]⟩,rfl,⟨rdF2 h1 (by decide) (by decide),rdI2 h2,rdG2 (p:=(some ⟨w.heap.size + 1 + 1 + 1,0,none⟩,2,2)) (q:=(some ⟨w.heap.size + 1 + 1 + 1 + 1,0,none⟩,2,2)) h5 (rdF2 h3 (by decide) (by decide)) (rdF2 h4 (by decide) (by decide)),rdF2 h6 (by decide) (by decide)⟩,rfl,rfl,rfl,rfl,rfl,rfl,rfl,rfl,rfl,rfl,hb⟩
theorem num_any10 (x:Int) (hx:-9223372036854775808 <= x /\ x < 9223372036854775808) (w:World):Calls Tryz.prog 28 #[.int .i64 x] w fun e w'=>e = .returned (.int .i64 x) /\ w' = w:=by
 go_enter Tryz.func28,Tryz.ntmps28
 go_wp2_with fail
 go_ret
 exact ⟨rfl,rfl⟩
def plainW (u:Nat):Nat:=if u = 9223372036854775808 then 0 else u
structure RdUs (w:World) (ao:Option Addr) (len cap:Nat) (us:List Nat):Prop where
 length:us.length = len
 max:len <= maxLen
 cells:len = 0 \/ ∃ b off,ao = some ⟨b,off,none⟩ /\ ∀ j,j < len -> w.cell? ⟨b,off + j,none⟩ = some (.int .u64 ((us[j]?.getD 0:Nat):Int))
theorem RdUs.later {w w':World} {ao:Option Addr} {len cap:Nat} {us:List Nat} (h:RdUs w ao len cap us) (hb:Below w.heap.size w w'):RdUs w' ao len cap us:=by
 refine ⟨h.length,h.max,?_⟩
 rcases h.cells with h0 | ⟨b,off,ha,hc⟩
 ·exact .inl h0
 ·refine .inr ⟨b,off,ha,fun j hj=>?_⟩
  rw [hb.cell (p:=⟨b,off + j,none⟩) (World.block_lt_of_cell? w _ (hc j hj))]
  exact hc j hj
theorem apiBits_any (u:Nat) (w:World):Calls Tryz.prog 31 #[.float .f64 u] w fun e w'=>e = .returned (.int .u64 u) /\ w' = w:=by
 have hcb:=call_bits u
 go_enter Tryz.func31,Tryz.ntmps31
 go_wp2_with fail
 go_ret
 exact ⟨rfl,rfl⟩
theorem drop_eqU {us vs:List Nat} {k:Nat} (h1:k < us.length) (h2:k < vs.length):decide (us.drop k = vs.drop k) = (decide (us[k]?.getD 0 = vs[k]?.getD 0) && decide (us.drop (k + 1) = vs.drop (k + 1))):=by
 rw [List.drop_eq_getElem_cons h1,List.drop_eq_getElem_cons h2,List.getElem?_eq_getElem h1,List.getElem?_eq_getElem h2]
 simp only [List.cons.injEq,Option.getD_some,Bool.decide_and]
theorem refSame_any (ao bo:Option Addr) (al ac bl bc:Nat) (us vs:List Nat) (w:World) (h:RdF w ao al ac us) (h':RdUs w bo bl bc vs) :
  Calls Tryz.prog 25 #[.slice ao al ac,.slice bo bl bc] w fun e w'=>e = .returned (.bool (decide (us = vs))) /\ Below w.heap.size w w':=by
 have HR:Hid _:=h
 have HR':Hid _:=h'
 have HLN:Hid (us.length = al /\ vs.length = bl /\ al <= 9223372036854775807):=⟨h.length,h'.length,Nat.le_trans h.max maxLen_le⟩
 have hmx:al <= 9223372036854775807:=Nat.le_trans h.max maxLen_le
 clear h h'
 by_cases hn:al = bl
 ·subst hn
  go_enter Tryz.func25,Tryz.ntmps25
  go_wp2_with fail
  go_loopg [5] al (fun g iv wx=>∃ k:Nat,iv = .int .i64 k /\ k + g = al /\ Hid (Below w.heap.size w wx) /\ Hid (decide (us.drop k = vs.drop k) = decide (us = vs)))
  case atStart=>exact ⟨0,rfl,by omega,Below.refl _ w,rfl⟩
  case round=>
   obtain ⟨k,rfl,hk,HB,HD⟩:=hrel
   by_cases hlt:k < al
   ·have hd:decide ((k:Int) < (al:Int)) = true:=decide_eq_true (by omega)
    obtain ⟨g,rfl⟩:∃ g,gk = g + 1:=⟨gk - 1,by omega⟩
    rcases (HR.out.later HB.out).cells with h0 | ⟨ab,aoff,rfl,hca⟩
    ·omega
    rcases (HR'.out.later HB.out).cells with h0 | ⟨bb,boff,rfl,hcb⟩
    ·omega
    have ga:=hca k hlt
    have gb:=hcb k hlt
    have HDs:Hid (_ = _):=drop_eqU (us:=us) (vs:=vs) (k:=k) (by rw [HLN.out.1];exact hlt) (by rw [HLN.out.2.1];exact hlt)
    obtain ⟨x,hx⟩:∃ x,us[k]?.getD 0 = x:=⟨_,rfl⟩
    obtain ⟨y,hy⟩:∃ y,vs[k]?.getD 0 = y:=⟨_,rfl⟩
    rw [hx,hy] at HDs
    rw [hx] at ga
    rw [hy] at gb
    have HIG:Hid (k + (g + 1) = al):=hk
    clear hca hcb hx hy hk
    have HB1:Hid (Below w.heap.size w wr.drew):=HB.out.drew
    go_upto_region 6 with fail
    have hS:(fun w'=>w'.cell? ⟨ab,aoff + k,none⟩ = some (.float .f64 x) /\ w'.cell? ⟨bb,boff + k,none⟩ = some (.int .u64 (y:Int))) wr.drew:=⟨ga,gb⟩
    refine wp_region_noPanic ?_
    refine wp_region_held_drew (S:=(fun w'=>w'.cell? ⟨ab,aoff + k,none⟩ = some (.float .f64 x) /\ w'.cell? ⟨bb,boff + k,none⟩ = some (.int .u64 (y:Int)))) (by kernel_rfl) hS (fun _=>?_)
    refine tzI 17 0 ?_ ?_ (by assumption) ?_
    rotate_left
    ·intro w' hSw;(try dsimp only at hSw);go_simp;try with_reducible rfl
    try simp only [pA,pE,pB,pC,pD]
    refine tzI 18 1 ?_ ?_ (by assumption) ?_
    rotate_left
    ·intro w' hSw;(try dsimp only at hSw);go_simp;try with_reducible rfl
    try simp only [pA,pE,pB,pC,pD]
    refine tzI 19 2 ?_ ?_ (by assumption) ?_
    rotate_left
    ·intro w' hSw;(try dsimp only at hSw);go_simp;try with_reducible rfl
    try simp only [pA,pE,pB,pC,pD]
    refine tzI 20 3 ?_ ?_ (by assumption) ?_
    rotate_left
    ·intro w' hSw;(try dsimp only at hSw);go_simp;try with_reducible rfl
    try simp only [pA,pE,pB,pC,pD]
    refine tzI 22 5 ?_ ?_ (by assumption) ?_
    rotate_left
    ·intro w' hSw;(try dsimp only at hSw);go_simp;try with_reducible rfl
    try simp only [pA,pE,pB,pC,pD]
    refine tzI 23 6 ?_ ?_ (by assumption) ?_
    rotate_left
    ·intro w' hSw;(try dsimp only at hSw);go_simp;try with_reducible rfl
    try simp only [pA,pE,pB,pC,pD]
    refine tzI 24 7 ?_ ?_ (by assumption) ?_
    rotate_left
    ·intro w' hSw;(try dsimp only at hSw);go_simp;try with_reducible rfl
    try simp only [pA,pE,pB,pC,pD]
    refine tzI 25 8 ?_ ?_ (by assumption) ?_
    rotate_left
    ·intro w' hSw;(try dsimp only at hSw);go_simp;try with_reducible rfl
    try simp only [pA,pE,pB,pC,pD]
    refine rzH [4] ?_
    refine consH _ rfl (hzC 21 (Calls.mono (apiBits_any x _) ?_)) AllReadyH.nil
    rintro e m ⟨rfl,hm⟩
    subst hm
    refine ⟨_,rfl,hS,?_⟩
    try simp only [pA,pE,pB,pC,pD]
    refine tzI 26 9 ?_ ?_ (by assumption) ?_
    rotate_left
    ·intro w' hSw;(try dsimp only at hSw);go_simp;try with_reducible rfl
    try simp only [pA,pE,pB,pC,pD]
    refine wpAnyH_done (by kernel_rfl) ?_ _
    refine NoPanic.normal ?_
    try simp only [pA,pE,pB,pC,pD]
    clear hS
    by_cases hxy:x = y
    ·have HDt:Hid (decide (us.drop (k + 1) = vs.drop (k + 1)) = decide (us = vs)):=by
      have h1:=HDs.out
      rw [decide_eq_true hxy,Bool.true_and] at h1
      unfold Hid;rw [<- h1];exact HD.out
     have hne:((x:Int) != (y:Int)) = false:=by simp [hxy]
     clear hxy HDs
     go_wp2_with fail
     go_roundg g
     case measure=>omega
     case rel=>exact ⟨k + 1,by go_num,by have:=HIG.out;omega,HB1,HDt⟩
    ·have hne:((x:Int) != (y:Int)) = true:=by simpa using (show ¬ (x:Int) = (y:Int) by omega)
     have HE:Hid (decide (us = vs) = false):=by
      have h1:=HDs.out
      rw [decide_eq_false hxy,Bool.false_and] at h1
      unfold Hid;rw [<- HD.out];exact h1
     go_wp2_with fail
     go_ret
     exact ⟨by rw [HE.out];rfl,HB1.out⟩
   ·have hd:decide ((k:Int) < (al:Int)) = false:=decide_eq_false (by omega)
    have hd':decide (k < al) = false:=decide_eq_false (by omega)
    have HE:Hid (decide (us = vs) = true):=by
     have h1:=HD.out
     rw [List.drop_eq_nil_of_le (by rw [HLN.out.1];omega),List.drop_eq_nil_of_le (by rw [HLN.out.2.1];omega),decide_eq_true rfl] at h1
     exact h1.symm
    go_wp2_with fail
    go_ret
    exact ⟨by rw [HE.out];rfl,HB.out⟩
 ·have hd:((al:Int) != (bl:Int)) = true:=by simpa using (show ¬ ((al:Int) = (bl:Int)) by omega)
  have HE:Hid (decide (us = vs) = false):=by
   unfold Hid
   refine decide_eq_false fun c=>hn ?_
   rw [<- HLN.out.1,<- HLN.out.2.1,c]
  go_enter Tryz.func25,Tryz.ntmps25
  go_wp2_with fail
  go_ret
  exact ⟨by rw [HE.out];rfl,Below.refl _ w⟩
structure RdGu (w:World) (ao:Option Addr) (len cap:Nat) (gv:Nat -> Option Addr × Nat × Nat) (gs:List (List Nat)):Prop where
 length:gs.length = len
 max:len <= maxLen
 cells:len = 0 \/ ∃ b off,ao = some ⟨b,off,none⟩ /\ ∀ j,j < len -> w.cell? ⟨b,off + j,none⟩ = some (.slice (gv j).1 (gv j).2.1 (gv j).2.2)
 each:∀ j,j < len -> RdUs w (gv j).1 (gv j).2.1 (gv j).2.2 (gs[j]?.getD [])
theorem RdGu.later {w w':World} {ao:Option Addr} {len cap:Nat} {gv:Nat -> Option Addr × Nat × Nat} {gs:List (List Nat)} (h:RdGu w ao len cap gv gs) (hb:Below w.heap.size w w'):RdGu w' ao len cap gv gs:=by
 refine ⟨h.length,h.max,?_,fun j hj=>(h.each j hj).later hb⟩
 rcases h.cells with h0 | ⟨b,off,ha,hc⟩
 ·exact .inl h0
 ·refine .inr ⟨b,off,ha,fun j hj=>?_⟩
  rw [hb.cell (p:=⟨b,off + j,none⟩) (World.block_lt_of_cell? w _ (hc j hj))]
  exact hc j hj
structure ZU (w:World) (z:ZD):Prop where
 c:RdUs w z.co z.cn z.cc z.cs
 i:RdIs w z.io z.dn z.dc z.ids
 g:RdGu w z.go z.gn z.gc z.gv z.gs
 r:RdUs w z.ro z.rn z.rc z.rs
theorem ZU.later {w w':World} {z:ZD} (h:ZU w z) (hb:Below w.heap.size w w'):ZU w' z:=⟨h.c.later hb,h.i.later hb,h.g.later hb,h.r.later hb⟩
theorem drop_eqGG {us vs:List (List Nat)} {k:Nat} (h1:k < us.length) (h2:k < vs.length):decide (us.drop k = vs.drop k) = (decide (us[k]?.getD [] = vs[k]?.getD []) && decide (us.drop (k + 1) = vs.drop (k + 1))):=by
 rw [List.drop_eq_getElem_cons h1,List.drop_eq_getElem_cons h2,List.getElem?_eq_getElem h1,List.getElem?_eq_getElem h2]
 simp only [List.cons.injEq,Option.getD_some,Bool.decide_and]
def bitsB (a b:ZD):Bool:=decide (a.N = b.N) && decide (a.bad = b.bad) && decide (a.cs = b.cs) && decide (a.rs = b.rs) && decide (a.ids = b.ids) && decide (a.gs = b.gs)
theorem refSameZ_any (a b:ZD) (w:World) (ha:ZR w a) (hb:ZU w b) :
  Calls Tryz.prog 13 #[.agg (zRow a),.agg (zRow b)] w fun e w'=>e = .returned (.bool (bitsB a b)) /\ Below w.heap.size w w':=by
 unfold zRow
 have HC:Hid (∀ W',Below w.heap.size w W' -> Calls Tryz.prog 25 #[.slice a.co a.cn a.cc,.slice b.co b.cn b.cc] W' fun e w'=>e = .returned (.bool (decide (a.cs = b.cs))) /\ Below W'.heap.size W' w'):=fun W' h=>refSame_any _ _ _ _ _ _ _ _ W' (ha.later h).c (hb.later h).c
 have HR:Hid (∀ W',Below w.heap.size w W' -> Calls Tryz.prog 25 #[.slice a.ro a.rn a.rc,.slice b.ro b.rn b.rc] W' fun e w'=>e = .returned (.bool (decide (a.rs = b.rs))) /\ Below W'.heap.size W' w'):=fun W' h=>refSame_any _ _ _ _ _ _ _ _ W' (ha.later h).r (hb.later h).r
 have HIa:Hid (∀ W',Below w.heap.size w W' -> RdIs W' a.io a.dn a.dc a.ids):=fun W' h=>(ha.later h).i
 have HIb:Hid (∀ W',Below w.heap.size w W' -> RdIs W' b.io b.dn b.dc b.ids):=fun W' h=>(hb.later h).i
 have HGa:Hid (∀ W',Below w.heap.size w W' -> RdGs W' a.go a.gn a.gc a.gv a.gs):=fun W' h=>(ha.later h).g
 have HGb:Hid (∀ W',Below w.heap.size w W' -> RdGu W' b.go b.gn b.gc b.gv b.gs):=fun W' h=>(hb.later h).g
 have HLN:Hid (a.ids.length = a.dn /\ b.ids.length = b.dn /\ a.gs.length = a.gn /\ b.gs.length = b.gn):=⟨ha.i.length,hb.i.length,ha.g.length,hb.g.length⟩
 have hmi:a.dn <= 9223372036854775807:=Nat.le_trans ha.i.max maxLen_le
 have hmg:a.gn <= 9223372036854775807:=Nat.le_trans ha.g.max maxLen_le
 have HE:Hid (bitsB a b = (decide (a.N = b.N) && decide (a.bad = b.bad) && decide (a.cs = b.cs) && decide (a.rs = b.rs) && decide (a.ids = b.ids) && decide (a.gs = b.gs))):=rfl
 obtain ⟨sz,hsz⟩:∃ sz,bitsB a b = sz:=⟨_,rfl⟩
 rw [hsz] at HE ⊢
 obtain ⟨c0,hc0⟩:∃ c0,decide (a.cs = b.cs) = c0:=⟨_,rfl⟩
 obtain ⟨r0,hr0⟩:∃ r0,decide (a.rs = b.rs) = r0:=⟨_,rfl⟩
 rw [hc0] at HC HE
 rw [hr0] at HR HE
 clear hsz hc0 hr0 ha hb
 obtain ⟨N1,co1,cn1,cc1,io1,dn1,dc1,go1,gn1,gc1,ro1,rn1,rc1,bad1,cs1,ids1,gv1,gs1,rs1⟩:=a
 obtain ⟨N2,co2,cn2,cc2,io2,dn2,dc2,go2,gn2,gc2,ro2,rn2,rc2,bad2,cs2,ids2,gv2,gs2,rs2⟩:=b
 dsimp only at HC HR HIa HIb HGa HGb HLN hmi hmg HE ⊢
 have bW:Below w.heap.size w ((w.alloc (.cells #[.int .i64 N1,.slice co1 cn1 cc1,.slice io1 dn1 dc1,.slice go1 gn1 gc1,.slice ro1 rn1 rc1,.bool bad1] 26)).alloc (.cells #[.int .i64 N2,.slice co2 cn2 cc2,.slice io2 dn2 dc2,.slice go2 gn2 gc2,.slice ro2 rn2 rc2,.bool bad2] 30)):=((Below.refl _ w).alloc (Nat.le_refl _) _).alloc (by simp only [alloc_size];omega) _
 have eAW:((w.alloc (.cells #[.int .i64 N1,.slice co1 cn1 cc1,.slice io1 dn1 dc1,.slice go1 gn1 gc1,.slice ro1 rn1 rc1,.bool bad1] 26)).alloc (.cells #[.int .i64 N2,.slice co2 cn2 cc2,.slice io2 dn2 dc2,.slice go2 gn2 gc2,.slice ro2 rn2 rc2,.bool bad2] 30)).heap[w.heap.size]? = some (.cells #[.int .i64 N1,.slice co1 cn1 cc1,.slice io1 dn1 dc1,.slice go1 gn1 gc1,.slice ro1 rn1 rc1,.bool bad1] 26):=alloc_kept (heap_alloc_new w _) _
 have eBW:((w.alloc (.cells #[.int .i64 N1,.slice co1 cn1 cc1,.slice io1 dn1 dc1,.slice go1 gn1 gc1,.slice ro1 rn1 rc1,.bool bad1] 26)).alloc (.cells #[.int .i64 N2,.slice co2 cn2 cc2,.slice io2 dn2 dc2,.slice go2 gn2 gc2,.slice ro2 rn2 rc2,.bool bad2] 30)).heap[w.heap.size + 1]? = some (.cells #[.int .i64 N2,.slice co2 cn2 cc2,.slice io2 dn2 dc2,.slice go2 gn2 gc2,.slice ro2 rn2 rc2,.bool bad2] 30):=heap_at _ _ (w.heap.size + 1) (by simp only [alloc_size])
 have HK0:Hid _:=And.intro bW (And.intro eAW eBW)
 clear bW eAW eBW
 by_cases q0:N1 = N2
 case neg=>
  have d0:(N1 != N2) = true:=by simpa using q0
  have HS:Hid (sz = false):=by unfold Hid;rw [HE.out];simp [q0]
  go_enter Tryz.func13,Tryz.ntmps13
  go_wp2_with fail
  go_ret
  exact ⟨by rw [HS.out];rfl,HK0.out.1⟩
 subst q0
 by_cases q1:bad1 = bad2
 case neg=>
  have d1:(bad1 != bad2) = true:=by simpa using q1
  have HS:Hid (sz = false):=by unfold Hid;rw [HE.out];simp [q1]
  go_enter Tryz.func13,Tryz.ntmps13
  go_wp2_with fail
  go_ret
  exact ⟨by rw [HS.out];rfl,HK0.out.1⟩
 subst q1
 by_cases q2:dn1 = dn2
 case neg=>
  have d2:((dn1:Int) != (dn2:Int)) = true:=by simpa using (show ¬ (dn1:Int) = (dn2:Int) by omega)
  have HS:Hid (sz = false):=by unfold Hid;rw [HE.out];have hq:¬ ids1 = ids2:=fun c=>q2 (by rw [<- HLN.out.1,<- HLN.out.2.1,c]);simp [hq]
  go_enter Tryz.func13,Tryz.ntmps13
  go_wp2_with fail
  go_ret
  exact ⟨by rw [HS.out];rfl,HK0.out.1⟩
 subst q2
 by_cases q3:gn1 = gn2
 case neg=>
  have d3:((gn1:Int) != (gn2:Int)) = true:=by simpa using (show ¬ (gn1:Int) = (gn2:Int) by omega)
  have HS:Hid (sz = false):=by unfold Hid;rw [HE.out];have hq:¬ gs1 = gs2:=fun c=>q3 (by rw [<- HLN.out.2.2.1,<- HLN.out.2.2.2,c]);simp [hq]
  go_enter Tryz.func13,Tryz.ntmps13
  go_wp2_with fail
  go_ret
  exact ⟨by rw [HS.out];rfl,HK0.out.1⟩
 subst q3
 have HS0:Hid (sz = (c0 && r0 && decide (ids1 = ids2) && decide (gs1 = gs2))):=by unfold Hid;rw [HE.out];simp
 cases c0
 case false=>
  have HS:Hid (sz = false):=by unfold Hid;rw [HS0.out];simp
  go_enter Tryz.func13,Tryz.ntmps13
  go_wp2_with (go_at_call_of 25 (Value.slice co1 cn1 cc1);refine Calls.mono (HC.out _ HK0.out.1) ?_;rintro e W1 ⟨rfl,hb1⟩;have HK1:Hid _:=And.intro (to_call HK0.out.1 hb1) (And.intro (kept hb1 HK0.out.2.1) (kept hb1 HK0.out.2.2));obtain ⟨a01,a11,a21,a31,a41,a51⟩:=cells6 HK1.out.2.1;obtain ⟨b01,b11,b21,b31,b41,b51⟩:=cells6 HK1.out.2.2)
  go_ret
  exact ⟨by rw [HS.out];rfl,HK1.out.1⟩
 cases r0
 case false=>
  have HS:Hid (sz = false):=by unfold Hid;rw [HS0.out];simp
  go_enter Tryz.func13,Tryz.ntmps13
  go_wp2_with (first | (go_at_call_of 25 (Value.slice co1 cn1 cc1);refine Calls.mono (HC.out _ HK0.out.1) ?_;rintro e W1 ⟨rfl,hb1⟩;have HK1:Hid _:=And.intro (to_call HK0.out.1 hb1) (And.intro (kept hb1 HK0.out.2.1) (kept hb1 HK0.out.2.2));obtain ⟨a01,a11,a21,a31,a41,a51⟩:=cells6 HK1.out.2.1;obtain ⟨b01,b11,b21,b31,b41,b51⟩:=cells6 HK1.out.2.2) | (go_at_call_of 25 (Value.slice ro1 rn1 rc1);refine Calls.mono (HR.out _ HK1.out.1) ?_;rintro e W2 ⟨rfl,hb2⟩;have HK2:Hid _:=And.intro (to_call HK1.out.1 hb2) (And.intro (kept hb2 HK1.out.2.1) (kept hb2 HK1.out.2.2));obtain ⟨a02,a12,a22,a32,a42,a52⟩:=cells6 HK2.out.2.1;obtain ⟨b02,b12,b22,b32,b42,b52⟩:=cells6 HK2.out.2.2))
  go_ret
  exact ⟨by rw [HS.out];rfl,HK2.out.1⟩
 have HS1:Hid (sz = (decide (ids1 = ids2) && decide (gs1 = gs2))):=by unfold Hid;rw [HS0.out];simp
 clear HE HS0
 go_enter Tryz.func13,Tryz.ntmps13
 go_wp2_with (first | (go_at_call_of 25 (Value.slice co1 cn1 cc1);refine Calls.mono (HC.out _ HK0.out.1) ?_;rintro e W1 ⟨rfl,hb1⟩;have HK1:Hid _:=And.intro (to_call HK0.out.1 hb1) (And.intro (kept hb1 HK0.out.2.1) (kept hb1 HK0.out.2.2));obtain ⟨a01,a11,a21,a31,a41,a51⟩:=cells6 HK1.out.2.1;obtain ⟨b01,b11,b21,b31,b41,b51⟩:=cells6 HK1.out.2.2) | (go_at_call_of 25 (Value.slice ro1 rn1 rc1);refine Calls.mono (HR.out _ HK1.out.1) ?_;rintro e W2 ⟨rfl,hb2⟩;have HK2:Hid _:=And.intro (to_call HK1.out.1 hb2) (And.intro (kept hb2 HK1.out.2.1) (kept hb2 HK1.out.2.2));obtain ⟨a02,a12,a22,a32,a42,a52⟩:=cells6 HK2.out.2.1;obtain ⟨b02,b12,b22,b32,b42,b52⟩:=cells6 HK2.out.2.2))
 go_loopg [5] dn1 (fun g iv wx=>∃ k:Nat,iv = .int .i64 k /\ k + g = dn1 /\ Hid (Below w.heap.size w wx /\ wx.heap[w.heap.size]? = some (.cells #[.int .i64 N1,.slice co1 cn1 cc1,.slice io1 dn1 dc1,.slice go1 gn1 gc1,.slice ro1 rn1 rc1,.bool bad1] 26) /\ wx.heap[w.heap.size + 1]? = some (.cells #[.int .i64 N1,.slice co2 cn2 cc2,.slice io2 dn1 dc2,.slice go2 gn1 gc2,.slice ro2 rn2 rc2,.bool bad1] 30)) /\ Hid (decide (ids1.drop k = ids2.drop k) = decide (ids1 = ids2)))
 case atStart=>exact ⟨0,rfl,by omega,HK2.out,rfl⟩
 case round=>
  obtain ⟨k,rfl,hk,HK,HD⟩:=hrel
  obtain ⟨a0,a1,a2,a3,a4,a5⟩:=cells6 HK.out.2.1
  obtain ⟨b0,b1,b2,b3,b4,b5⟩:=cells6 HK.out.2.2
  by_cases hlt:k < dn1
  ·have hd:decide ((k:Int) < (dn1:Int)) = true:=decide_eq_true (by omega)
   obtain ⟨g,rfl⟩:∃ g,gk = g + 1:=⟨gk - 1,by omega⟩
   rcases (HIa.out _ HK.out.1).cells with h0 | ⟨p1,f1,rfl,hca⟩
   ·omega
   rcases (HIb.out _ HK.out.1).cells with h0 | ⟨p2,f2,rfl,hcb⟩
   ·omega
   have ga:=hca k hlt
   have gb:=hcb k hlt
   have HDs:Hid (_ = _):=drop_eqI (is:=ids1) (js:=ids2) (k:=k) (by rw [HLN.out.1];exact hlt) (by rw [HLN.out.2.1];exact hlt)
   obtain ⟨x,hx⟩:∃ x,ids1[k]?.getD 0 = x:=⟨_,rfl⟩
   obtain ⟨y,hy⟩:∃ y,ids2[k]?.getD 0 = y:=⟨_,rfl⟩
   rw [hx,hy] at HDs
   rw [hx] at ga
   rw [hy] at gb
   have HIG:Hid (k + (g + 1) = dn1):=hk
   clear hca hcb hx hy hk
   have HKd:Hid _:=And.intro (HK.out.1.drew) (And.intro HK.out.2.1 HK.out.2.2)
   go_upto_region 6 with fail
   have hS:(fun w'=>w'.cell? ⟨w.heap.size,2,none⟩ = some (.slice (some ⟨p1,f1,none⟩) dn1 dc1) /\ w'.cell? ⟨w.heap.size + 1,2,none⟩ = some (.slice (some ⟨p2,f2,none⟩) dn1 dc2) /\ w'.cell? ⟨p1,f1 + k,none⟩ = some (.int .i64 x) /\ w'.cell? ⟨p2,f2 + k,none⟩ = some (.int .i64 y)) wr.drew:=⟨a2,b2,ga,gb⟩
   refine wp_region_noPanic ?_
   refine wp_region_held_drew (S:=(fun w'=>w'.cell? ⟨w.heap.size,2,none⟩ = some (.slice (some ⟨p1,f1,none⟩) dn1 dc1) /\ w'.cell? ⟨w.heap.size + 1,2,none⟩ = some (.slice (some ⟨p2,f2,none⟩) dn1 dc2) /\ w'.cell? ⟨p1,f1 + k,none⟩ = some (.int .i64 x) /\ w'.cell? ⟨p2,f2 + k,none⟩ = some (.int .i64 y))) (by kernel_rfl) hS (fun _=>?_)
   refine tzI 60 0 ?_ ?_ (by assumption) ?_
   rotate_left
   ·intro w' hSw;(try dsimp only at hSw);go_simp;try with_reducible rfl
   try simp only [pA,pE,pB,pC,pD]
   refine tzI 61 1 ?_ ?_ (by assumption) ?_
   rotate_left
   ·intro w' hSw;(try dsimp only at hSw);go_simp;try with_reducible rfl
   try simp only [pA,pE,pB,pC,pD]
   refine tzI 62 2 ?_ ?_ (by assumption) ?_
   rotate_left
   ·intro w' hSw;(try dsimp only at hSw);go_simp;try with_reducible rfl
   try simp only [pA,pE,pB,pC,pD]
   refine tzI 63 3 ?_ ?_ (by assumption) ?_
   rotate_left
   ·intro w' hSw;(try dsimp only at hSw);go_simp;try with_reducible rfl
   try simp only [pA,pE,pB,pC,pD]
   refine tzI 64 4 ?_ ?_ (by assumption) ?_
   rotate_left
   ·intro w' hSw;(try dsimp only at hSw);go_simp;try with_reducible rfl
   try simp only [pA,pE,pB,pC,pD]
   refine tzI 65 5 ?_ ?_ (by assumption) ?_
   rotate_left
   ·intro w' hSw;(try dsimp only at hSw);go_simp;try with_reducible rfl
   try simp only [pA,pE,pB,pC,pD]
   refine tzI 66 6 ?_ ?_ (by assumption) ?_
   rotate_left
   ·intro w' hSw;(try dsimp only at hSw);go_simp;try with_reducible rfl
   try simp only [pA,pE,pB,pC,pD]
   refine tzI 67 7 ?_ ?_ (by assumption) ?_
   rotate_left
   ·intro w' hSw;(try dsimp only at hSw);go_simp;try with_reducible rfl
   try simp only [pA,pE,pB,pC,pD]
   refine tzI 68 8 ?_ ?_ (by assumption) ?_
   rotate_left
   ·intro w' hSw;(try dsimp only at hSw);go_simp;try with_reducible rfl
   try simp only [pA,pE,pB,pC,pD]
   refine tzI 69 9 ?_ ?_ (by assumption) ?_
   rotate_left
   ·intro w' hSw;(try dsimp only at hSw);go_simp;try with_reducible rfl
   try simp only [pA,pE,pB,pC,pD]
   refine tzI 70 10 ?_ ?_ (by assumption) ?_
   rotate_left
   ·intro w' hSw;(try dsimp only at hSw);go_simp;try with_reducible rfl
   try simp only [pA,pE,pB,pC,pD]
   refine wpAnyH_done (by kernel_rfl) ?_ _
   refine NoPanic.normal ?_
   try simp only [pA,pE,pB,pC,pD]
   clear hS
   by_cases hxy:x = y
   ·have HDt:Hid (decide (ids1.drop (k + 1) = ids2.drop (k + 1)) = decide (ids1 = ids2)):=by
     have h1:=HDs.out
     rw [decide_eq_true hxy,Bool.true_and] at h1
     unfold Hid;rw [<- h1];exact HD.out
    have hne:(x != y) = false:=by simp [hxy]
    clear hxy HDs
    go_wp2_with fail
    go_roundg g
    case measure=>omega
    case rel=>exact ⟨k + 1,by go_num,by have:=HIG.out;omega,HKd,HDt⟩
   ·have hne:(x != y) = true:=by simpa using hxy
    have HS:Hid (sz = false):=by
     have h1:=HDs.out
     rw [decide_eq_false hxy,Bool.false_and] at h1
     unfold Hid;rw [HS1.out,<- HD.out,h1];rfl
    go_wp2_with fail
    go_ret
    exact ⟨by rw [HS.out];rfl,HKd.out.1⟩
  ·have hd:decide ((k:Int) < (dn1:Int)) = false:=decide_eq_false (by omega)
   have hd':decide (k < dn1) = false:=decide_eq_false (by omega)
   have HS2:Hid (sz = decide (gs1 = gs2)):=by
    have h1:=HD.out
    rw [List.drop_eq_nil_of_le (by rw [HLN.out.1];omega),List.drop_eq_nil_of_le (by rw [HLN.out.2.1];omega),decide_eq_true rfl] at h1
    unfold Hid;rw [HS1.out,<- h1,Bool.true_and]
   clear HS1 HD
   go_wp2_with fail
   go_loopg [6] gn1 (fun g iv wx=>∃ k:Nat,iv = .int .i64 k /\ k + g = gn1 /\ Hid (Below w.heap.size w wx /\ wx.heap[w.heap.size]? = some (.cells #[.int .i64 N1,.slice co1 cn1 cc1,.slice io1 dn1 dc1,.slice go1 gn1 gc1,.slice ro1 rn1 rc1,.bool bad1] 26) /\ wx.heap[w.heap.size + 1]? = some (.cells #[.int .i64 N1,.slice co2 cn2 cc2,.slice io2 dn1 dc2,.slice go2 gn1 gc2,.slice ro2 rn2 rc2,.bool bad1] 30)) /\ Hid (decide (gs1.drop k = gs2.drop k) = decide (gs1 = gs2)))
   case atStart=>exact ⟨0,rfl,by omega,HK.out,rfl⟩
   case round=>
    clear hlt hd hd' a0 a1 a2 a3 a4 a5 b0 b1 b2 b3 b4 b5 HK
    obtain ⟨k,rfl,hk,HK,HD⟩:=hrel
    obtain ⟨a0,a1,a2,a3,a4,a5⟩:=cells6 HK.out.2.1
    obtain ⟨b0,b1,b2,b3,b4,b5⟩:=cells6 HK.out.2.2
    by_cases hlt:k < gn1
    ·have hd:decide ((k:Int) < (gn1:Int)) = true:=decide_eq_true (by omega)
     obtain ⟨g,rfl⟩:∃ g,gk = g + 1:=⟨gk - 1,by omega⟩
     rcases (HGa.out _ HK.out.1).cells with h0 | ⟨p1,f1,rfl,hca⟩
     ·omega
     rcases (HGb.out _ HK.out.1).cells with h0 | ⟨p2,f2,rfl,hcb⟩
     ·omega
     have ga:=hca k hlt
     have gb:=hcb k hlt
     have HDs:Hid (_ = _):=drop_eqGG (us:=gs1) (vs:=gs2) (k:=k) (by rw [HLN.out.2.2.1];exact hlt) (by rw [HLN.out.2.2.2];exact hlt)
     have HKd:Hid _:=And.intro (HK.out.1.drew) (And.intro HK.out.2.1 HK.out.2.2)
     have HCk:Hid (Calls Tryz.prog 25 #[.slice (gv1 k).1 (gv1 k).2.1 (gv1 k).2.2,.slice (gv2 k).1 (gv2 k).2.1 (gv2 k).2.2] wr.drew fun e w'=>e = .returned (.bool (decide (gs1[k]?.getD [] = gs2[k]?.getD []))) /\ Below wr.drew.heap.size wr.drew w'):=refSame_any _ _ _ _ _ _ _ _ _ ((HGa.out _ HKd.out.1).each k hlt) ((HGb.out _ HKd.out.1).each k hlt)
     obtain ⟨x,hx⟩:∃ x,decide (gs1[k]?.getD [] = gs2[k]?.getD []) = x:=⟨_,rfl⟩
     rw [hx] at HDs HCk
     have HIG:Hid (k + (g + 1) = gn1):=hk
     clear hca hcb hx hk
     go_upto_region 11 with fail
     have hS:(fun w'=>w'.cell? ⟨w.heap.size,3,none⟩ = some (.slice (some ⟨p1,f1,none⟩) gn1 gc1) /\ w'.cell? ⟨w.heap.size + 1,3,none⟩ = some (.slice (some ⟨p2,f2,none⟩) gn1 gc2) /\ w'.cell? ⟨p1,f1 + k,none⟩ = some (.slice (gv1 k).1 (gv1 k).2.1 (gv1 k).2.2) /\ w'.cell? ⟨p2,f2 + k,none⟩ = some (.slice (gv2 k).1 (gv2 k).2.1 (gv2 k).2.2)) wr.drew:=⟨a3,b3,ga,gb⟩
     refine wp_region_noPanic ?_
     refine wp_region_held_drew (S:=(fun w'=>w'.cell? ⟨w.heap.size,3,none⟩ = some (.slice (some ⟨p1,f1,none⟩) gn1 gc1) /\ w'.cell? ⟨w.heap.size + 1,3,none⟩ = some (.slice (some ⟨p2,f2,none⟩) gn1 gc2) /\ w'.cell? ⟨p1,f1 + k,none⟩ = some (.slice (gv1 k).1 (gv1 k).2.1 (gv1 k).2.2) /\ w'.cell? ⟨p2,f2 + k,none⟩ = some (.slice (gv2 k).1 (gv2 k).2.1 (gv2 k).2.2))) (by kernel_rfl) hS (fun _=>?_)
     refine tzI 78 0 ?_ ?_ (by assumption) ?_
     rotate_left
     ·intro w' hSw;(try dsimp only at hSw);go_simp;try with_reducible rfl
     try simp only [pA,pE,pB,pC,pD]
     refine tzI 79 1 ?_ ?_ (by assumption) ?_
     rotate_left
     ·intro w' hSw;(try dsimp only at hSw);go_simp;try with_reducible rfl
     try simp only [pA,pE,pB,pC,pD]
     refine tzI 80 2 ?_ ?_ (by assumption) ?_
     rotate_left
     ·intro w' hSw;(try dsimp only at hSw);go_simp;try with_reducible rfl
     try simp only [pA,pE,pB,pC,pD]
     refine tzI 81 3 ?_ ?_ (by assumption) ?_
     rotate_left
     ·intro w' hSw;(try dsimp only at hSw);go_simp;try with_reducible rfl
     try simp only [pA,pE,pB,pC,pD]
     refine tzI 82 4 ?_ ?_ (by assumption) ?_
     rotate_left
     ·intro w' hSw;(try dsimp only at hSw);go_simp;try with_reducible rfl
     try simp only [pA,pE,pB,pC,pD]
     refine tzI 83 5 ?_ ?_ (by assumption) ?_
     rotate_left
     ·intro w' hSw;(try dsimp only at hSw);go_simp;try with_reducible rfl
     try simp only [pA,pE,pB,pC,pD]
     refine tzI 84 6 ?_ ?_ (by assumption) ?_
     rotate_left
     ·intro w' hSw;(try dsimp only at hSw);go_simp;try with_reducible rfl
     try simp only [pA,pE,pB,pC,pD]
     refine tzI 85 7 ?_ ?_ (by assumption) ?_
     rotate_left
     ·intro w' hSw;(try dsimp only at hSw);go_simp;try with_reducible rfl
     try simp only [pA,pE,pB,pC,pD]
     refine tzI 86 8 ?_ ?_ (by assumption) ?_
     rotate_left
     ·intro w' hSw;(try dsimp only at hSw);go_simp;try with_reducible rfl
     try simp only [pA,pE,pB,pC,pD]
     refine tzI 87 9 ?_ ?_ (by assumption) ?_
     rotate_left
     ·intro w' hSw;(try dsimp only at hSw);go_simp;try with_reducible rfl
     try simp only [pA,pE,pB,pC,pD]
     refine rzH [10] ?_
     refine consH _ rfl (hzC 88 (Calls.mono HCk.out ?_)) AllReadyH.nil
     rintro e w5 ⟨rfl,hb5⟩
     have HK5:Hid _:=And.intro (to_call HKd.out.1 hb5) (And.intro (kept hb5 HKd.out.2.1) (kept hb5 HKd.out.2.2))
     have hS5:(fun w'=>w'.cell? ⟨w.heap.size,3,none⟩ = some (.slice (some ⟨p1,f1,none⟩) gn1 gc1) /\ w'.cell? ⟨w.heap.size + 1,3,none⟩ = some (.slice (some ⟨p2,f2,none⟩) gn1 gc2) /\ w'.cell? ⟨p1,f1 + k,none⟩ = some (.slice (gv1 k).1 (gv1 k).2.1 (gv1 k).2.2) /\ w'.cell? ⟨p2,f2 + k,none⟩ = some (.slice (gv2 k).1 (gv2 k).2.1 (gv2 k).2.2)) w5:=⟨(hb5.cell (World.block_lt_of_cell? _ _ hS.1)).trans hS.1,(hb5.cell (World.block_lt_of_cell? _ _ hS.2.1)).trans hS.2.1,(hb5.cell (World.block_lt_of_cell? _ _ hS.2.2.1)).trans hS.2.2.1,(hb5.cell (World.block_lt_of_cell? _ _ hS.2.2.2)).trans hS.2.2.2⟩
     refine ⟨_,rfl,hS5,?_⟩
     try simp only [pA,pE,pB,pC,pD]
     refine tzI 89 11 ?_ ?_ (by assumption) ?_
     rotate_left
     ·intro w' hSw;(try dsimp only at hSw);go_simp;try with_reducible rfl
     try simp only [pA,pE,pB,pC,pD]
     refine wpAnyH_done (by kernel_rfl) ?_ _
     refine NoPanic.normal ?_
     try simp only [pA,pE,pB,pC,pD]
     clear hS hS5
     cases x
     case true=>
      have HDt:Hid (decide (gs1.drop (k + 1) = gs2.drop (k + 1)) = decide (gs1 = gs2)):=by
       have h1:=HDs.out
       rw [Bool.true_and] at h1
       unfold Hid;rw [<- h1];exact HD.out
      go_wp2_with fail
      go_roundg g
      case measure=>omega
      case rel=>exact ⟨k + 1,by go_num,by have:=HIG.out;omega,HK5,HDt⟩
     case false=>
      have HS:Hid (sz = false):=by
       have h1:=HDs.out
       rw [Bool.false_and] at h1
       unfold Hid;rw [HS2.out,<- HD.out];exact h1
      go_wp2_with fail
      go_ret
      exact ⟨by rw [HS.out];rfl,HK5.out.1⟩
    ·have hd:decide ((k:Int) < (gn1:Int)) = false:=decide_eq_false (by omega)
     have hd':decide (k < gn1) = false:=decide_eq_false (by omega)
     have HS:Hid (sz = true):=by
      have h1:=HD.out
      rw [List.drop_eq_nil_of_le (by rw [HLN.out.2.2.1];omega),List.drop_eq_nil_of_le (by rw [HLN.out.2.2.2];omega),decide_eq_true rfl] at h1
      unfold Hid;rw [HS2.out];exact h1.symm
     go_wp2_with fail
     go_ret
     exact ⟨by rw [HS.out];rfl,HK.out.1⟩
end Go.Proofs.YtmdjoaipkbnelaaGreat
namespace Go.Proofs.YtmdjoaipkbnelaaGreat
open Go.RowKit
theorem plainT_any (ao:Option Addr) (len cap:Nat) (us:List Nat) (hl:len <= 100000) (hf:numsB us = true) (w:World) (h:RdF w ao len cap us) :
  Calls Tryz.prog 22 #[.slice ao len cap] w fun e w'=>e = .returned (.slice (some ⟨w.heap.size,0,none⟩) len len) /\ RdF w' (some ⟨w.heap.size,0,none⟩) len len (us.map plainM) /\ (∃ cur,w'.heap[w.heap.size]? = some (.cells cur 45)) /\ Below w.heap.size w w' /\ w.heap.size < w'.heap.size:=by
 have HR:Hid _:=h
 have HLN:Hid _:=h.length
 have HF:Hid (∀ u ∈ us,Fin u):=by
  unfold numsB at hf
  intro u hu
  have:=List.all_eq_true.1 hf u hu
  simpa using this
 clear h hf
 have hmk:=makeFJ len (by omega)
 go_enter Tryz.func22,Tryz.ntmps22
 go_wp2_with fail
 clear hmk
 go_loopg [11] len (fun g iv wx=>∃ k:Nat,iv = .int .i64 k /\ k + g = len /\ Hid (∀ j,j < k -> wx.cell? ⟨w.heap.size,j,none⟩ = some (.float .f64 (plainM (us[j]?.getD 0)))) /\ Hid ((∀ j,j < len -> ∃ v,wx.cell? ⟨w.heap.size,j,none⟩ = some (.float .f64 v)) /\ (∀ j,wx.frozen? ⟨w.heap.size,j,none⟩ = false)) /\ Hid (Below w.heap.size w wx) /\ Hid (w.heap.size < wx.heap.size /\ ∃ cur,wx.heap[w.heap.size]? = some (.cells cur 45)))
 case atStart=>
  refine ⟨0,rfl,by omega,fun j hj=>by omega,⟨fun j hj=>⟨0,cellAtJ (heap_alloc_new w _) j _ (flN_at len j hj)⟩,fun j=>frozen_of_row _ _ j _ _ (heap_alloc_new w _)⟩,(Below.refl _ w).alloc (Nat.le_refl _) _,?_,_,heap_alloc_new w _⟩
  show w.heap.size < (w.alloc _).heap.size
  simp
 case round=>
  obtain ⟨k,rfl,hk,HP,HC,HB,HS⟩:=hrel
  by_cases hlt:k < len
  ·have hd:decide ((k:Int) < (len:Int)) = true:=decide_eq_true (by omega)
   obtain ⟨g,rfl⟩:∃ g,gk = g + 1:=⟨gk - 1,by omega⟩
   rcases (HR.out.later HB.out).cells with h0 | ⟨ab,aoff,rfl,hca⟩
   ·omega
   have ga:=hca k hlt
   have hmem:=getD_mem (us:=us) (j:=k) (by rw [HLN.out];exact hlt)
   have hax:=HR.out.lt _ hmem
   have HFx:Hid (Fin (us[k]?.getD 0)):=HF.out _ hmem
   obtain ⟨x,hx⟩:∃ x,us[k]?.getD 0 = x:=⟨_,rfl⟩
   have HX:Hid (us[k]?.getD 0 = x):=hx
   rw [hx] at ga hax HFx
   have HIG:Hid (k + (g + 1) = len):=hk
   clear hca hx hk hmem
   obtain ⟨pv,hpv⟩:=HC.out.1 k hlt
   have hfr:=HC.out.2 k
   have hsf:=run_store_f
   go_wp2_with (go_at_call 36;refine (next_plain hax HFx.out _).mono ?_;rintro e w1 ⟨rfl,hw1⟩;rw [hw1];clear hw1 w1)
   have hcs:(wr.cell? ⟨w.heap.size,k,none⟩).isSome = true:=by rw [hpv];rfl
   have hrow:∀ j,(wr.setCell ⟨w.heap.size,k,none⟩ (.float .f64 (plainM x))).cell? ⟨w.heap.size,j,none⟩ = if j = k then some (.float .f64 (plainM x)) else wr.cell? ⟨w.heap.size,j,none⟩:=by
    intro j
    by_cases e:j = k
    ·subst e;rw [if_pos rfl];exact World.cell?_setCell_same' _ _ _ hcs
    ·rw [if_neg e,World.cell?_setCell_other _ _ _ _ (by intro c;cases c;exact e rfl)]
   have HP3:Hid (∀ j,j < k + 1 -> (wr.setCell ⟨w.heap.size,k,none⟩ (.float .f64 (plainM x))).cell? ⟨w.heap.size,j,none⟩ = some (.float .f64 (plainM (us[j]?.getD 0)))):=by
    intro j hj
    rw [hrow j]
    by_cases e:j = k
    ·rw [if_pos e,e,HX.out]
    ·rw [if_neg e];exact HP.out j (by omega)
   have HC3:Hid ((∀ j,j < len -> ∃ v,(wr.setCell ⟨w.heap.size,k,none⟩ (.float .f64 (plainM x))).cell? ⟨w.heap.size,j,none⟩ = some (.float .f64 v)) /\ (∀ j,(wr.setCell ⟨w.heap.size,k,none⟩ (.float .f64 (plainM x))).frozen? ⟨w.heap.size,j,none⟩ = false)):=by
    refine ⟨fun j hj=>?_,fun j=>by rw [World.frozen?_setCell];exact HC.out.2 j⟩
    rw [hrow j]
    by_cases e:j = k
    ·exact ⟨_,if_pos e⟩
    ·rw [if_neg e];exact HC.out.1 j hj
   have HB3:Hid (Below w.heap.size w (wr.setCell ⟨w.heap.size,k,none⟩ (.float .f64 (plainM x)))):=HB.out.trans ((Below.refl w.heap.size wr).setCell (p:=⟨w.heap.size,k,none⟩) (Nat.le_refl _) _)
   have HS3:Hid (w.heap.size < (wr.setCell ⟨w.heap.size,k,none⟩ (.float .f64 (plainM x))).heap.size /\ ∃ cur,(wr.setCell ⟨w.heap.size,k,none⟩ (.float .f64 (plainM x))).heap[w.heap.size]? = some (.cells cur 45)):=by
    have h1:(wr.setCell ⟨w.heap.size,k,none⟩ (.float .f64 (plainM x))).heap.size = wr.heap.size:=by simp
    obtain ⟨h2,cur,h3⟩:=HS.out
    exact ⟨by rw [h1];exact h2,_,heap_setCell_same wr w.heap.size k _ _ _ h3⟩
   clear hsf hrow hcs hpv hfr ga hax HP HC
   go_roundg g
   case measure=>omega
   case rel=>exact ⟨k + 1,by go_num,by have:=HIG.out;omega,HP3,HC3,HB3,HS3⟩
  ·have hd:decide ((k:Int) < (len:Int)) = false:=decide_eq_false (by omega)
   have hd':decide (k < len) = false:=decide_eq_false (by omega)
   have hkl:k = len:=by omega
   have HP2:Hid (∀ j,j < len -> wr.cell? ⟨w.heap.size,j,none⟩ = some (.float .f64 (plainM (us[j]?.getD 0)))):=hkl ▸ HP.out
   clear hkl
   go_wp2_with fail
   go_ret
   refine ⟨rfl,⟨by rw [List.length_map];exact HLN.out,HR.out.max,fun u hu=>?_,.inr ⟨_,_,rfl,fun j hj=>?_⟩⟩,HS.out.2,HB.out,HS.out.1⟩
   ·obtain ⟨v,hv,rfl⟩:=List.mem_map.1 hu
    exact plainM_ltJ (HR.out.lt v hv)
   ·rw [Nat.zero_add,HP2.out j hj,List.getElem?_map,List.getElem?_eq_getElem (by rw [HLN.out];exact hj)];rfl
theorem owns_keep {w w':World} {E:TypeId} {base size:Nat} {v:Value} {n:Nat} {xs:List Value} (h:w.ownsRow base E size v n xs) (hb:∀ k,v.ownBlock = some k -> w'.heap[k]? = w.heap[k]?):w'.ownsRow base E size v n xs:=by
 refine ⟨h.1,?_⟩
 rcases h.2 with h2 | ⟨g,cap,cur,hv,hg,hh,r⟩
 ·exact .inl h2
 ·exact .inr ⟨g,cap,cur,hv,hg,by rw [hb g (by rw [hv];rfl)];exact hh,r⟩
theorem owns_type {w:World} {E:TypeId} {base size:Nat} {v:Value} {n:Nat} {xs:List Value} (h:w.ownsRow base E size v n xs) {k:Nat} (hk:v.ownBlock = some k):∃ cur,w.heap[k]? = some (.cells cur E):=by
 rcases h.2 with ⟨rfl,_⟩ | ⟨g,cap,cur,rfl,hg,hh,r⟩
 ·simp [Value.ownBlock] at hk
 ·simp only [Value.ownBlock,Option.some.injEq] at hk
  subst hk
  exact ⟨cur,hh⟩
structure Grw (w w':World) (r r':Option Nat):Prop where
 by':w.grownBy w' r
 new:r' = r \/ ∀ k,r' = some k -> w.heap.size <= k
theorem info3' {P:Program} {t:TypeId} {z:Value} {s b:Nat} (h:(P.info? t).map (fun i=>(i.zero,i.size,i.bytes)) = some (some z,s,b)):∃ i,P.info? t = some i /\ i.zero = some z /\ i.size = s /\ i.bytes = b:=by
 cases hi:P.info? t with
 | none=>simp [hi] at h
 | some i=>
  simp [hi] at h
  exact ⟨i,rfl,h.1,h.2.1,h.2.2⟩
theorem Grw.refl (w:World) (r:Option Nat):Grw w w r r:=⟨⟨rfl,rfl,rfl,Nat.le_refl _,fun _ _ _=>rfl⟩,.inl rfl⟩
theorem Grw.trans {w w1 w2:World} {r r1 r2:Option Nat} (h:Grw w w1 r r1) (k:Grw w1 w2 r1 r2):Grw w w2 r r2:=by
 have hs:=h.by'.size
 refine ⟨⟨k.by'.os.trans h.by'.os,k.by'.tape.trans h.by'.tape,k.by'.output.trans h.by'.output,Nat.le_trans hs k.by'.size,fun j hj hne=>?_⟩,?_⟩
 ·rw [k.by'.block j (by omega) ?_,h.by'.block j hj hne]
  intro c
  rcases h.new with h1 | h1
  ·exact hne (by rw [c,h1])
  ·have:=h1 j c.symm
   omega
 ·rcases k.new with k1 | k1
  ·rw [k1];exact h.new
  ·exact .inr fun j hj=>Nat.le_trans hs (k1 j hj)
theorem Grw.below {w w':World} {r r':Option Nat} {base:Nat} (h:Grw w w' r r') (hb:∀ k,r = some k -> base <= k) (hw:base <= w.heap.size):Below base w w':=
 ⟨h.by'.os,h.by'.tape,h.by'.output,h.by'.size,fun k hk=>h.by'.block k (by omega) (fun c=>by have:=hb k c.symm;omega)⟩
end Go.Proofs.YtmdjoaipkbnelaaGreat
