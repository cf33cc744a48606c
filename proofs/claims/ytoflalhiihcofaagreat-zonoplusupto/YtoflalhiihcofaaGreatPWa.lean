import Derived.Test.YtoflalhiihcofaaGreatPWb
set_option maxRecDepth 100000
set_option maxHeartbeats 20000000
set_option linter.unusedVariables false
set_option linter.unusedSimpArgs false
namespace Go.Proofs.YtoflalhiihcofaaGreat
open Go.RowKit Go.Shelf
open Ieee
def turnV (a m:Int):Int:=(a.tmod m + m).tmod m
def partV (E:Nat) (is:List Int) (n:Int) (k:Nat):Int:=if k < is.length then (turnV (is[k]?.getD 0) (2 * 2 ^ (turnV n 17).toNat + 1) - 2 ^ (turnV n 17).toNat) * 2 ^ (E - (turnV n 17).toNat) else 2 ^ E
theorem partV_le {E:Nat} (hE:E = 1074) (is:List Int) (n:Int) (k:Nat):(partV E is n k).natAbs <= 2 ^ E:=by
 unfold partV
 obtain ⟨N,hN,eN⟩:=turnJ_mod n (m:=17) (by decide)
 have hN2:(turnV n 17).toNat = N:=by unfold turnV;rw [eN];simp
 rw [hN2]
 split
 ·have hP:(1:Nat) <= 2 ^ N:=Nat.two_pow_pos N
  obtain ⟨P,hPP⟩:∃ P:Nat,2 ^ N = P:=⟨_,rfl⟩
  have hp2:(2:Int) ^ N = (P:Int):=by rw [<- hPP];simp
  rw [hPP] at hP
  rw [hp2]
  obtain ⟨I,hI,eI⟩:=turnJ_mod (is[k]?.getD 0) (m:=2 * (P:Int) + 1) (by omega)
  have hI2:turnV (is[k]?.getD 0) (2 * (P:Int) + 1) = (I:Int):=eI
  rw [hI2]
  have h3:((I:Int) - (P:Int)).natAbs <= P:=by omega
  rw [Int.natAbs_mul,show ((2:Int) ^ (E - N)).natAbs = 2 ^ (E - N) by rw [Int.natAbs_pow];rfl]
  have h4:=Nat.mul_le_mul_right (2 ^ (E - N)) h3
  rw [<- hPP,<- Nat.pow_add,show N + (E - N) = E by omega] at h4
  rw [hPP] at h4
  exact h4
 ·rw [show ((2:Int) ^ E).natAbs = 2 ^ E by rw [Int.natAbs_pow];rfl]
  exact Nat.le_refl _
theorem partC2 {w:World} {v:Value} {i:Int} {n E:Nat} (hE:E = 1074) (hn:n <= 16) (hi:i.natAbs <= 2 ^ n) (h:NumV w v (decide (i < 0)) i.natAbs (if i.natAbs = 0 then 0 else 0 + -(n:Int))):NumC w v E 1024 (i * ((2 ^ (E - n):Nat):Int)):=by
 have h17:2 ^ n <= 65536:=Nat.pow_le_pow_right (by omega:0 < 2) hn
 refine ⟨_,_,_,h,by split <;> omega,?_,?_,fun c=>by rw [if_pos c]⟩
 ·have:=bl_le_of_lt (m:=i.natAbs) (k:=17) (by omega)
  split <;> omega
 ·unfold zv sv
  by_cases h0:i.natAbs = 0
  ·have h1:i = 0:=by omega
   subst h1
   simp
  ·rw [if_neg h0,show ((0:Int) + -(n:Int) + (E:Int)).toNat = E - n by omega]
   generalize 2 ^ (E - n) = X
   by_cases h2:i < 0
   ·rw [decide_eq_true h2,if_pos rfl]
    congr 1
    omega
   ·rw [decide_eq_false h2,if_neg Bool.false_ne_true]
    congr 1
    omega
theorem part2_any (lo:Option Addr) (ll lc:Nat) (is:List Int) (k:Nat) (n:Int) (E:Nat) (hE:E = 1074) (w:World) (h:RdIs w lo ll lc is) (hll:ll <= 1050000) (hk:k <= 4000000) (hn:-9223372036854775808 <= n /\ n < 9223372036854775808) :
  Calls Tryz.prog 32 #[.slice lo ll lc,.int .i64 (k:Int),.int .i64 n] w fun e w'=>∃ v,e = .returned v /\ NumC w' v E 1024 (partV E is n k) /\ Below w.heap.size w w':=by
 have HE:Hid (E = 1074):=hE
 clear hE
 have HIL:Hid (is.length = ll):=h.length
 have HPV:Hid (partV E is n k = if k < is.length then (turnV (is[k]?.getD 0) (2 * 2 ^ (turnV n 17).toNat + 1) - 2 ^ (turnV n 17).toNat) * 2 ^ (E - (turnV n 17).toNat) else 2 ^ E):=rfl
 obtain ⟨pv,hpv⟩:∃ z,partV E is n k = z:=⟨_,rfl⟩
 rw [hpv] at HPV ⊢
 clear hpv
 obtain ⟨N,hN,eN⟩:=turnJ_mod n (m:=17) (by decide)
 obtain ⟨P,hP⟩:∃ P:Nat,2 ^ N = P:=⟨_,rfl⟩
 have hPb:1 <= P /\ P <= 65536:=by
  rw [<- hP];exact ⟨Nat.two_pow_pos N,by have:=Nat.pow_le_pow_right (show 0 < 2 by decide) (show N <= 16 by omega);exact this⟩
 have HPP:Hid (2 ^ N = P):=hP
 clear hP
 have A0:Below w.heap.size w (w.alloc (.cells #[.bool false,.slice none 0 0,.int .i64 0] 46)):=(Below.refl _ w).alloc (Nat.le_refl _) _
 have Y0:(w.alloc (.cells #[.bool false,.slice none 0 0,.int .i64 0] 46)).heap[w.heap.size]? = some (.cells #[.bool false,.slice none 0 0,.int .i64 0] 46):=heap_alloc_new w _
 have HRI:Hid (RdIs (w.alloc (.cells #[.bool false,.slice none 0 0,.int .i64 0] 46)) lo ll lc is):=h.later A0
 clear h
 have bm:=tmodJ_pos (a:=n) (m:=17) (by decide)
 have vm1:IntKind.i64.wrap (n.tmod 17) = n.tmod 17:=by rw [IntKind.wrap_i64];omega
 have vm2:IntKind.i64.wrap (n.tmod 17 + 17) = n.tmod 17 + 17:=by rw [IntKind.wrap_i64];omega
 go_enter Tryz.func32,Tryz.ntmps32
 go_upto_region 1 with fail
 obtain ⟨X,hX⟩:∃ X,w.alloc (.cells #[.bool false,.slice none 0 0,.int .i64 0] 46) = X:=⟨_,rfl⟩
 rw [hX] at A0 Y0 HRI ⊢
 have HX:Hid (Below w.heap.size w X /\ X.heap[w.heap.size]? = some (.cells #[.bool false,.slice none 0 0,.int .i64 0] 46)):=⟨A0,Y0⟩
 clear hX A0 Y0
 go_cut [2] (fun s2 wx=>s2 = .int .i64 (N:Int) /\ wx = X)
 case first=>
  go_wp2_with fail
  go_meet
  exact ⟨by go_num,rfl⟩
 case rest=>
 obtain ⟨rfl,hwc⟩:=hcut
 replace hwc:=hwc.symm
 subst hwc
 have HEN:Hid ((turnV n 17).toNat = N):=by unfold Hid turnV;rw [eN];simp
 clear vm1 vm2 bm eN hn
 by_cases hkl:k < ll
 ·have dk:decide ((ll:Int) <= (k:Int)) = false:=decide_eq_false (by omega)
  have hki:(k:Int) < (ll:Int):=by omega
  have hle:¬ ll <= k:=by omega
  obtain ⟨ab,aoff,hlo,hc⟩:∃ ab aoff,lo = some ⟨ab,aoff,none⟩ /\ X.cell? ⟨ab,aoff + k,none⟩ = some (.int .i64 (is[k]?.getD 0)):=by
   rcases HRI.out.cells with h0 | ⟨b,off,e,hc⟩
   ·omega
   ·exact ⟨b,off,e,hc k hkl⟩
  subst hlo
  obtain ⟨x,hx⟩:∃ x,is[k]?.getD 0 = x:=⟨_,rfl⟩
  rw [hx] at hc
  have HXV:Hid _:=hx
  clear hx HRI
  have hp2:(2:Int) ^ N = (P:Int):=by rw [<- HPP.out];simp
  have hN64:N < 64:=by omega
  obtain ⟨M,hM⟩:∃ M:Nat,2 * P + 1 = M:=⟨_,rfl⟩
  have hMb:3 <= M /\ M <= 131073:=by omega
  obtain ⟨I,hI,eI⟩:=turnJ_mod x (m:=(M:Int)) (by omega)
  have um0:IntKind.i64.wrap (2 * (P:Int)) = 2 * (P:Int):=by rw [IntKind.wrap_i64];omega
  have um1:IntKind.i64.wrap (2 * (P:Int) + 1) = (M:Int):=by rw [IntKind.wrap_i64];omega
  have bi:=tmodJ_pos (a:=x) (m:=(M:Int)) (by omega)
  have um2:IntKind.i64.wrap (x.tmod (M:Int)) = x.tmod (M:Int):=by rw [IntKind.wrap_i64];omega
  have um3:IntKind.i64.wrap (x.tmod (M:Int) + (M:Int)) = x.tmod (M:Int) + (M:Int):=by rw [IntKind.wrap_i64];omega
  have um6:IntKind.i64.wrap (I:Int) = (I:Int):=by rw [IntKind.wrap_i64];omega
  have nz:¬ ((M:Int) = 0):=by omega
  have nn:¬ ((N:Int) < 0):=by omega
  go_upto_region 5 with fail
  go_upto_region 6 with fail
  have HEI:Hid (turnV x (2 * 2 ^ N + 1) = (I:Int)):=by
   unfold Hid turnV
   rw [hp2,show (2 * (P:Int) + 1) = (M:Int) by omega]
   exact eI
  clear um0 um1 um2 um3 um6 nz bi eI hc hle dk hki
  have um7:IntKind.i64.wrap (P:Int) = (P:Int):=by rw [IntKind.wrap_i64];omega
  have um8:IntKind.i64.wrap ((I:Int) - (P:Int)) = (I:Int) - (P:Int):=by rw [IntKind.wrap_i64];omega
  have um9:IntKind.i64.wrap (-(N:Int)) = -(N:Int):=by rw [IntKind.wrap_i64];omega
  obtain ⟨t,ht⟩:∃ t:Int,(I:Int) - (P:Int) = t:=⟨_,rfl⟩
  have htb:t.natAbs <= P:=by omega
  rw [ht] at um8
  have HT:Hid (t.natAbs <= P):=htb
  have HPW:Hid (pv = t * ((2 ^ (E - N):Nat):Int)):=by
   rw [HPV.out,if_pos (by rw [HIL.out];exact hkl),HEN.out,HXV.out,HEI.out,hp2,ht,Int.natCast_pow]
   rfl
  have HW1:Hid (∀ W',_):=fun W'=>wholeI_any t (by omega) W'
  have HN16:Hid (N <= 16):=by unfold Hid;omega
  go_wp2_with (first
   | (go_at_call 64;refine Calls.mono (HW1.out _) ?_;rintro e V1 ⟨v1,rfl,hz1,b1⟩;obtain ⟨o1,l1,c1,xs1,hv1,-⟩:=id hz1;subst hv1;have Q1:=to_call HX.out.1 b1;have HB1:=kept b1 HX.out.2;have HZ1:Hid (NumV V1 _ (decide (t < 0)) t.natAbs 0):=hz1;clear b1 hz1)
   | (go_at_call 65;refine Calls.mono (moved_any _ _ _ 0 (-(N:Int)) (by omega) (by have:=HN16.out;omega) _ HZ1.out) ?_;rintro e V2 ⟨v2,rfl,hz2,b2⟩;have Q2:=to_call Q1 b2;have HB2:=kept b2 HB1;have hz3:=partC2 HE.out HN16.out (by rw [HPP.out];exact HT.out) hz2;rw [<- HPW.out] at hz3;obtain ⟨n2,o2,l2,c2,x2,hv2⟩:=hz3.form;subst hv2;have HZ2:Hid (NumC V2 _ E 1024 pv):=hz3;clear b2 hz2 hz3)
   | (refine wpList_store_row (by rfl) 46 _ _ (by rfl) w w.heap.size w.heap.size _ _ (by rfl) (by rfl) HB2 Q2 (Nat.le_refl _) 3 Tryz.infoN3 (by rfl) (by rfl) (oneN _ _ _ _ _) ?_;intro W9 e9 b9 s9 o9))
  refine bodyPost_ret (v:=.agg #[.bool n2,.slice o2 l2 c2,.int .i64 x2]) (res_num _ 6 (by kernel_rfl) _ _ w.heap.size _ _ _ (by rfl) e9) rfl ⟨_,rfl,(show NumC _ _ _ _ _ from HZ2.out).cl (num_cl HB2) (fun b hb _=>o9 b hb),b9⟩
 ·have dk:decide ((ll:Int) <= (k:Int)) = true:=decide_eq_true (by omega)
  have HW1:Hid (∀ W',_):=fun W'=>wholeI_any 1 (by decide) W'
  have hle:ll <= k:=by omega
  have HPW2:Hid (pv = ((2 ^ E:Nat):Int)):=by
   rw [HPV.out,if_neg (by rw [HIL.out];exact hkl),Int.natCast_pow]
   rfl
  clear hkl
  go_wp2_with (first
   | (go_at_call 64;refine Calls.mono (HW1.out _) ?_;rintro e V1 ⟨v1,rfl,hz1,b1⟩;obtain ⟨o1,l1,c1,xs1,hv1,-⟩:=id hz1;subst hv1;have Q1:=to_call HX.out.1 b1;have HB1:=kept b1 HX.out.2;have HZ1:Hid (NumC V1 _ E 1024 ((2 ^ E:Nat):Int)):=oneC HE.out hz1;clear b1 hz1)
   | (refine wpList_store_row (by rfl) 46 _ _ (by rfl) w w.heap.size w.heap.size _ _ (by rfl) (by rfl) HB1 Q1 (Nat.le_refl _) 3 Tryz.infoN3 (by rfl) (by rfl) (oneN _ _ _ _ _) ?_;intro W9 e9 b9 s9 o9))
  refine bodyPost_ret (v:=.agg #[.bool (decide ((1:Int) < 0)),.slice o1 l1 c1,.int .i64 0]) (res_num _ 6 (by kernel_rfl) _ _ w.heap.size _ _ _ (by rfl) e9) rfl ⟨_,rfl,by rw [HPW2.out];exact (show NumC _ _ _ _ _ from HZ1.out).cl (num_cl HB1) (fun b hb _=>o9 b hb),b9⟩
theorem tmod97 (m:Nat) (hm:m <= 1073741824):IntKind.i64.wrap ((m:Int).tmod 97) = ((m % 97:Nat):Int):=by
 have h1:(m:Int).tmod 97 = ((m % 97:Nat):Int):=rfl
 rw [IntKind.wrap_i64,h1]
 omega
theorem values_any (io:Option Addr) (il ic:Nat) (L:List Int) (lo:Option Addr) (ll lc:Nat) (is:List Int) (b:Int) (E:Nat) (hE:E = 1074) (w:World) (hi:RdIs w io il ic L) (h:RdIs w lo ll lc is) (hil:il <= 2200000) (hll:ll <= 1050000) (hid:∀ x ∈ L,0 <= x /\ x <= 1073741824) (hb:-9223372036854775808 <= b /\ b < 9223372036854775808) :
  Calls Tryz.prog 10 #[.slice io il ic,.slice lo ll lc,.int .i64 b] w fun e w'=>∃ v,e = .returned v /\ RowZ w' w.heap.size v E 1024 (L.map fun id=>partV E is b (id.toNat % 97)) /\ Below w.heap.size w w':=by
 have HPT:Hid (∀ W' (k:Nat),Below w.heap.size w W' -> k <= 4000000 -> _):=fun W' k hb' hk=>part2_any lo ll lc is k b E hE W' (h.later hb') hll hk hb
 have HI:Hid (∀ W',Below w.heap.size w W' -> RdIs W' io il ic L):=fun W' hb'=>hi.later hb'
 have HID:Hid (L.length = il /\ ∀ x ∈ L,0 <= x /\ x <= 1073741824):=⟨hi.length,hid⟩
 clear h hi hid hE
 obtain ⟨f,hf⟩:∃ f:Int -> Int,(fun id=>partV E is b (id.toNat % 97)) = f:=⟨_,rfl⟩
 have HF:Hid (∀ m:Nat,partV E is b (m % 97) = f (m:Int)):=fun m=>by rw [<- hf];simp
 rw [hf]
 clear hf
 go_enter Tryz.func10,Tryz.ntmps10
 go_wp2_with fail
 go_loopg [7,8] il (fun g v iv wx=>∃ (k:Nat) (vs:Value),vs = v /\ iv = .int .i64 k /\ k + g = il /\ Hid (RowZ wx w.heap.size vs E 1024 ((L.take k).map f)) /\ Hid (Below w.heap.size w wx))
 case atStart=>exact ⟨0,_,rfl,rfl,by omega,by rw [List.take_zero];exact RowZ.nil _ _ _ _,Below.refl _ _⟩
 case round=>
  obtain ⟨k,vs,rfl,rfl,hk,HO,HB⟩:=hrel
  have hsr:=HB.out.size
  by_cases hlt:k < il
  ·have hd:decide ((k:Int) < (il:Int)) = true:=decide_eq_true (by omega)
   have hlt':(k:Int) < (il:Int):=by omega
   obtain ⟨g,rfl⟩:∃ g,gk = g + 1:=⟨gk - 1,by omega⟩
   have HIG:Hid _:=hk
   have hkl:k < L.length:=by rw [HID.out.1];exact hlt
   obtain ⟨m,hm⟩:∃ m:Nat,L[k] = (m:Int):=⟨(L[k]).toNat,by have:=(HID.out.2 _ (List.getElem_mem hkl)).1;omega⟩
   have hmb:m <= 1073741824:=by have:=(HID.out.2 _ (List.getElem_mem hkl)).2;omega
   have HLK:Hid (L[k] = (m:Int)):=hm
   rcases (HI.out wr HB.out).cells with h0 | ⟨ab,aoff,hao,hc⟩
   ·omega
   subst hao
   have hck:=hc k hlt
   rw [List.getElem?_eq_getElem hkl,Option.getD_some,hm] at hck
   have HZL:Hid (((L.take k).map f).length = k):=by unfold Hid;rw [List.length_map,List.length_take];omega
   have HP2:Hid _:=HPT.out wr (m % 97) HB.out (by omega)
   have um:=tmod97 m hmb
   have nz:¬ ((97:Int) = 0):=by decide
   clear hk hc hm hmb
   go_wp2_with (first
    | (go_at_call 32;refine Calls.mono HP2.out ?_;rintro e w1 ⟨v1,rfl,hz1,b1⟩;obtain ⟨n1,o1,l1,c1,e1,hv1⟩:=hz1.form;subst hv1;have N1:Hid (NumC w1 _ E 1024 _):=hz1;have B1:Hid (Below wr.heap.size wr w1):=b1;have s1:=b1.size;clear hz1 b1;obtain ⟨xs,hxo,hxj⟩:=(HO.out.later B1.out).own;have HXJ:Hid _:=hxj;rw [HZL.out] at hxo;have HX2:Hid _:=hxo;clear hxo hxj;have HC2:Hid (∀ g,vs.ownBlock = some g -> Cl noU (w1.alloc (.cells #[.bool n1,.slice o1 l1 c1,.int .i64 e1] 46)) g):=fun g hg=>((HO.out.cl g hg).later B1.out).later ((Below.refl _ w1).alloc (Nat.le_refl _) _))
    | (at_builtin;refine append_clJ noU Tryz.underlying27 Tryz.infoNumJ rfl (by decide) (by decide) zero_noU _ (by rfl) _ _ (by rfl) w.heap.size _ k xs (by rfl) (World.ownsRow.alloc HX2.out _) HC2.out ⟨w1.heap.size,0,none⟩ 1 1 [.bool n1,.slice o1 l1 c1,.int .i64 e1] (by rfl) (by decide) rfl (news_threeJ (heap_alloc_new w1 _)) (three_one n1 o1 l1 c1 e1) (three_noU n1 o1 l1 c1 e1) (by omega) (by simp only [alloc_size];omega) ?_;intro v5 w5 o5 g5 cl5))
   have A1:Below w1.heap.size w1 (w1.alloc (.cells #[.bool n1,.slice o1 l1 c1,.int .i64 e1] 46)):=(Below.refl _ w1).alloc (Nat.le_refl _) _
   have R5:Hid (RowZ w5 w.heap.size v5 E 1024 ((L.take (k + 1)).map f)):=by
    unfold Hid
    rw [List.take_succ_eq_append_getElem (by rw [HID.out.1];exact hlt),List.map_append,List.map_cons,List.map_nil,HLK.out,<- HF.out]
    refine RowZ.push (xs:=xs) (by rw [HZL.out];exact World.ownsRow.alloc HX2.out _) (fun j hj=>?_) HC2.out (NumC.later (show NumC _ _ _ _ _ from N1.out) A1) (by rw [HZL.out];exact o5) g5 cl5
    obtain ⟨n2,o2,l2,c2,e2,a1,a2,a3,a4⟩:=HXJ.out j hj
    exact ⟨n2,o2,l2,c2,e2,a1,a2,a3,a4.later A1⟩
   have B5:Hid (Below w.heap.size w w5):=(to_call (to_call HB.out B1.out) A1).trans (g5.below (fun k hk=>(World.ownsRow.lt HX2.out k hk).1) (by simp only [alloc_size];omega))
   clear o5 g5 cl5 A1 HC2 HX2 HXJ
   go_wp2_with fail
   go_roundg g
   case measure=>omega
   case rel=>exact ⟨k + 1,v5,rfl,by go_num,by have:=HIG.out;omega,R5,B5⟩
  ·have hd:decide ((k:Int) < (il:Int)) = false:=decide_eq_false (by omega)
   have HT:Hid (L.take k = L):=List.take_of_length_le (by rw [HID.out.1];omega)
   clear hk
   go_wp2_with fail
   go_ret
   refine ⟨_,rfl,?_,HB.out⟩
   have h3:=HO.out
   rw [HT.out] at h3
   exact h3
end Go.Proofs.YtoflalhiihcofaaGreat
