import Derived.Test.YtoflalhiihcofaaGreatPPb8
set_option maxRecDepth 100000
set_option maxHeartbeats 3000000
set_option linter.unusedVariables false
set_option linter.unusedSimpArgs false
namespace Go.Proofs.YtoflalhiihcofaaGreat
open Go.RowKit Go.Shelf
theorem tmodJ_pos {a m:Int} (hm:0 < m):-m < a.tmod m /\ a.tmod m < m:=⟨Int.lt_tmod_of_pos a hm,Int.tmod_lt_of_pos a hm⟩
theorem turnJ_mod (a:Int) {m:Int} (hm:0 < m):∃ k:Nat,(k:Int) < m /\ (a.tmod m + m).tmod m = (k:Int):=by
 have h:=tmodJ_pos (a:=a) hm
 have h2:=tmodJ_pos (a:=a.tmod m + m) hm
 have h3:0 <= (a.tmod m + m).tmod m:=Int.tmod_nonneg _ (by omega)
 exact ⟨((a.tmod m + m).tmod m).toNat,by omega,by omega⟩
theorem wholeI_any (i:Int) (hi:i.natAbs <= 1048576) (w:World) :
  Calls Tryz.prog 64 #[.int .i64 i] w fun e' w'=>∃ v,e' = .returned v /\ NumV w' v (decide (i < 0)) i.natAbs 0 /\ Below w.heap.size w w':=by
 obtain ⟨k,hk⟩:∃ k:Nat,i.natAbs = k:=⟨_,rfl⟩
 rw [hk] at hi ⊢
 have v2:IntKind.u32.wrap (k:Int) = (k:Int):=by rw [IntKind.wrap_u32];omega
 have v3:(k:Int) / 4294967296 = 0:=by omega
 by_cases h0:i = 0
 ·subst h0
  obtain rfl:k = 0:=by omega
  go_enter Tryz.func64,Tryz.ntmps64
  go_wp2_with fail
  refine bodyPost_ret (v:=.agg #[.bool false,.slice none 0 0,.int .i64 0]) (res_num _ 2 (by kernel_rfl) _ _ w.heap.size _ _ _ (by rfl) (heap_alloc_new w _)) rfl ⟨_,rfl,⟨none,0,0,[],rfl,rd4_none _,by exact Or.inl rfl,rfl⟩,(Below.refl _ w).alloc (Nat.le_refl _) _⟩
 ·have n3:(i == 0) = false:=by simpa using h0
  have hrd:Rd4 ((w.alloc (Obj.cells #[Value.bool false,Value.slice none 0 0,Value.int IntKind.i64 0] 46)).alloc (Obj.cells #[Value.int IntKind.u32 (k:Int),Value.int IntKind.u32 0] 118)) (some ⟨w.heap.size + 1,0,none⟩) 2 2 [k,0]:=by
   have h:=rd4_fresh2 (w.alloc (Obj.cells #[Value.bool false,Value.slice none 0 0,Value.int IntKind.i64 0] 46)) k 0 (by intro x hx;simp only [List.mem_cons,List.mem_nil_iff,or_false] at hx;omega)
   rw [show (w.alloc (Obj.cells #[Value.bool false,Value.slice none 0 0,Value.int IntKind.i64 0] 46)).heap.size = w.heap.size + 1 by simp] at h
   exact h
  have HRD:Hid _:=hrd
  have hb0:∀ o1 o2,Below w.heap.size w ((w.alloc o1).alloc o2):=fun o1 o2=>((Below.refl _ _).alloc (Nat.le_refl _) _).alloc (by simp) _
  have HB0:Hid _:=hb0
  clear hrd hb0
  obtain ⟨U,hU⟩:∃ U,IntKind.u64.wrap i = U:=⟨_,rfl⟩
  by_cases hneg:i < 0
  ·have hd:decide (i < 0) = true:=decide_eq_true hneg
   have v1:IntKind.u64.wrap (-U) = (k:Int):=by rw [<- hU,IntKind.wrap_u64,IntKind.wrap_u64];omega
   rw [hd]
   clear h0 hk
   go_enter Tryz.func64,Tryz.ntmps64
   go_wp2_with fail
   refine Calls.mono (trim_any _ 2 2 [k,0] _ HRD.out) ?_
   rintro ee ww ⟨ao',n,rfl,hw,hr',hn',hnm,hdg⟩
   rw [hw];clear hw
   have HR':Hid _:=hr'
   clear hr'
   go_wp2_with fail
   refine bodyPost_ret (v:=.agg #[.bool true,.slice ao' n 2,.int .i64 0]) (res_num _ 2 (by kernel_rfl) _ _ w.heap.size _ _ _ (by rfl) (alloc2_first w _ _)) rfl ⟨_,rfl,⟨ao',n,2,_,rfl,rd4_other ⟨_,_,_,_,_,alloc2_first w _ _⟩ (fun b hb=>alloc2_other w _ _ _ b hb) HR'.out,hnm,by rw [hdg];rfl⟩,HB0.out _ _⟩
  ·have hd:decide (i < 0) = false:=decide_eq_false hneg
   have v1:IntKind.u64.wrap i = (k:Int):=by rw [IntKind.wrap_u64];omega
   rw [hd]
   clear h0 hk hU
   go_enter Tryz.func64,Tryz.ntmps64
   go_wp2_with fail
   refine Calls.mono (trim_any _ 2 2 [k,0] _ HRD.out) ?_
   rintro ee ww ⟨ao',n,rfl,hw,hr',hn',hnm,hdg⟩
   rw [hw];clear hw
   have HR':Hid _:=hr'
   clear hr'
   go_wp2_with fail
   refine bodyPost_ret (v:=.agg #[.bool false,.slice ao' n 2,.int .i64 0]) (res_num _ 2 (by kernel_rfl) _ _ w.heap.size _ _ _ (by rfl) (alloc2_first w _ _)) rfl ⟨_,rfl,⟨ao',n,2,_,rfl,rd4_other ⟨_,_,_,_,_,alloc2_first w _ _⟩ (fun b hb=>alloc2_other w _ _ _ b hb) HR'.out,hnm,by rw [hdg];rfl⟩,HB0.out _ _⟩
theorem partC {w:World} {v:Value} {i:Int} {n E:Nat} (hE:E = 1074) (hn:n <= 16) (hi:i.natAbs <= 2 ^ n) (h:NumV w v (decide (i < 0)) i.natAbs (if i.natAbs = 0 then 0 else 0 + -(n:Int))):∃ z,NumC w v E 1024 z /\ z.natAbs <= 2 ^ E:=by
 have h17:2 ^ n <= 65536:=Nat.pow_le_pow_right (by omega:0 < 2) hn
 refine ⟨_,⟨_,_,_,h,by split <;> omega,?_,rfl,fun c=>by rw [if_pos c]⟩,?_⟩
 ·have:=bl_le_of_lt (m:=i.natAbs) (k:=17) (by omega)
  split <;> omega
 ·rw [zv_abs]
  by_cases h0:i.natAbs = 0
  ·rw [h0,Nat.zero_mul];exact Nat.zero_le _
  ·rw [if_neg h0,show ((0:Int) + -(n:Int) + (E:Int)).toNat = E - n by omega]
   have:=Nat.mul_le_mul_right (2 ^ (E - n)) hi
   rw [<- Nat.pow_add,show n + (E - n) = E by omega] at this
   exact this
theorem oneC {w:World} {v:Value} {E:Nat} (hE:E = 1074) (h:NumV w v (decide ((1:Int) < 0)) (1:Int).natAbs 0):NumC w v E 1024 ((2 ^ E:Nat):Int):=by
 refine ⟨_,_,_,h,by omega,?_,?_,fun c=>by cases c⟩
 ·have:=bl_le_of_lt (m:=(1:Int).natAbs) (k:=1) (by decide)
  omega
 ·unfold zv sv
  simp
theorem cell_later {w w':World} {a:Addr} {v:Value} (h:w.cell? a = some v) (hb:Below w.heap.size w w'):w'.cell? a = some v:=(hb.cell (World.block_lt_of_cell? _ _ h)).trans h
theorem part_any (lo:Option Addr) (ll lc:Nat) (is:List Int) (k:Nat) (n:Int) (E:Nat) (hE:E = 1074) (w:World) (h:RdIs w lo ll lc is) (hll:ll <= 1050000) (hk:k <= 4000000) (hn:-9223372036854775808 <= n /\ n < 9223372036854775808) :
  Calls Tryz.prog 32 #[.slice lo ll lc,.int .i64 (k:Int),.int .i64 n] w fun e w'=>∃ v z,e = .returned v /\ NumC w' v E 1024 z /\ z.natAbs <= 2 ^ E /\ Below w.heap.size w w':=by
 have HE:Hid (E = 1074):=hE
 clear hE
 obtain ⟨N,hN,eN⟩:=turnJ_mod n (m:=17) (by decide)
 obtain ⟨P,hP⟩:∃ P:Nat,2 ^ N = P:=⟨_,rfl⟩
 have hPb:1 <= P /\ P <= 65536:=by
  rw [<- hP];exact ⟨Nat.two_pow_pos N,by have:=Nat.pow_le_pow_right (show 0 < 2 by decide) (show N <= 16 by omega);exact this⟩
 have HPP:Hid (2 ^ N = P):=hP
 clear hP
 have A0:Below w.heap.size w (w.alloc (.cells #[.bool false,.slice none 0 0,.int .i64 0] 46)):=(Below.refl _ w).alloc (Nat.le_refl _) _
 have Y0:(w.alloc (.cells #[.bool false,.slice none 0 0,.int .i64 0] 46)).heap[w.heap.size]? = some (.cells #[.bool false,.slice none 0 0,.int .i64 0] 46):=heap_alloc_new w _
 have HRI:Hid (RdIs (w.alloc (.cells #[.bool false,.slice none 0 0,.int .i64 0] 46)) lo ll lc is):=h.later A0
 clear h
 have bm:=tmodJ_pos (a:=n) (m:=17) (by decide)
 have vm1:IntKind.i64.wrap (n.tmod 17) = n.tmod 17:=by rw [IntKind.wrap_i64];omega
 have vm2:IntKind.i64.wrap (n.tmod 17 + 17) = n.tmod 17 + 17:=by rw [IntKind.wrap_i64];omega
 go_enter Tryz.func32,Tryz.ntmps32
 go_upto_region 1 with fail
 obtain ⟨X,hX⟩:∃ X,w.alloc (.cells #[.bool false,.slice none 0 0,.int .i64 0] 46) = X:=⟨_,rfl⟩
 rw [hX] at A0 Y0 HRI ⊢
 have HX:Hid (Below w.heap.size w X /\ X.heap[w.heap.size]? = some (.cells #[.bool false,.slice none 0 0,.int .i64 0] 46)):=⟨A0,Y0⟩
 clear hX A0 Y0
 go_cut [2] (fun s2 wx=>s2 = .int .i64 (N:Int) /\ wx = X)
 case first=>
  go_wp2_with fail
  go_meet
  exact ⟨by go_num,rfl⟩
 case rest=>
 obtain ⟨rfl,hwc⟩:=hcut
 replace hwc:=hwc.symm
 subst hwc
 clear vm1 vm2 bm eN hn
 by_cases hkl:k < ll
 ·have dk:decide ((ll:Int) <= (k:Int)) = false:=decide_eq_false (by omega)
  have hki:(k:Int) < (ll:Int):=by omega
  have hle:¬ ll <= k:=by omega
  obtain ⟨ab,aoff,hlo,hc⟩:∃ ab aoff,lo = some ⟨ab,aoff,none⟩ /\ X.cell? ⟨ab,aoff + k,none⟩ = some (.int .i64 (is[k]?.getD 0)):=by
   rcases HRI.out.cells with h0 | ⟨b,off,e,hc⟩
   ·omega
   ·exact ⟨b,off,e,hc k hkl⟩
  subst hlo
  obtain ⟨x,hx⟩:∃ x,is[k]?.getD 0 = x:=⟨_,rfl⟩
  rw [hx] at hc
  clear hx HRI
  have hp2:(2:Int) ^ N = (P:Int):=by rw [<- HPP.out];simp
  have hN64:N < 64:=by omega
  obtain ⟨M,hM⟩:∃ M:Nat,2 * P + 1 = M:=⟨_,rfl⟩
  have hMb:3 <= M /\ M <= 131073:=by omega
  obtain ⟨I,hI,eI⟩:=turnJ_mod x (m:=(M:Int)) (by omega)
  have um0:IntKind.i64.wrap (2 * (P:Int)) = 2 * (P:Int):=by rw [IntKind.wrap_i64];omega
  have um1:IntKind.i64.wrap (2 * (P:Int) + 1) = (M:Int):=by rw [IntKind.wrap_i64];omega
  have bi:=tmodJ_pos (a:=x) (m:=(M:Int)) (by omega)
  have um2:IntKind.i64.wrap (x.tmod (M:Int)) = x.tmod (M:Int):=by rw [IntKind.wrap_i64];omega
  have um3:IntKind.i64.wrap (x.tmod (M:Int) + (M:Int)) = x.tmod (M:Int) + (M:Int):=by rw [IntKind.wrap_i64];omega
  have um6:IntKind.i64.wrap (I:Int) = (I:Int):=by rw [IntKind.wrap_i64];omega
  have nz:¬ ((M:Int) = 0):=by omega
  have nn:¬ ((N:Int) < 0):=by omega
  go_upto_region 5 with fail
  go_upto_region 6 with fail
  clear um0 um1 um2 um3 um6 nz bi eI hc hle dk hki
  have um7:IntKind.i64.wrap (P:Int) = (P:Int):=by rw [IntKind.wrap_i64];omega
  have um8:IntKind.i64.wrap ((I:Int) - (P:Int)) = (I:Int) - (P:Int):=by rw [IntKind.wrap_i64];omega
  have um9:IntKind.i64.wrap (-(N:Int)) = -(N:Int):=by rw [IntKind.wrap_i64];omega
  obtain ⟨t,ht⟩:∃ t:Int,(I:Int) - (P:Int) = t:=⟨_,rfl⟩
  have htb:t.natAbs <= P:=by omega
  rw [ht] at um8
  have HT:Hid (t.natAbs <= P):=htb
  have HW1:Hid (∀ W',_):=fun W'=>wholeI_any t (by omega) W'
  have HN16:Hid (N <= 16):=by unfold Hid;omega
  go_wp2_with (first
   | (go_at_call 64;refine Calls.mono (HW1.out _) ?_;rintro e V1 ⟨v1,rfl,hz1,b1⟩;obtain ⟨o1,l1,c1,xs1,hv1,-⟩:=id hz1;subst hv1;have Q1:=to_call HX.out.1 b1;have HB1:=kept b1 HX.out.2;have HZ1:Hid (NumV V1 _ (decide (t < 0)) t.natAbs 0):=hz1;clear b1 hz1)
   | (go_at_call 65;refine Calls.mono (moved_any _ _ _ 0 (-(N:Int)) (by omega) (by have:=HN16.out;omega) _ HZ1.out) ?_;rintro e V2 ⟨v2,rfl,hz2,b2⟩;have Q2:=to_call Q1 b2;have HB2:=kept b2 HB1;obtain ⟨z2,hz3,hz4⟩:=partC HE.out HN16.out (by rw [HPP.out];exact HT.out) hz2;obtain ⟨n2,o2,l2,c2,x2,hv2⟩:=hz3.form;subst hv2;have HZ2:Hid (NumC V2 _ E 1024 z2):=hz3;have HZ3:Hid (z2.natAbs <= 2 ^ E):=hz4;clear b2 hz2 hz3 hz4)
   | (refine wpList_store_row (by rfl) 46 _ _ (by rfl) w w.heap.size w.heap.size _ _ (by rfl) (by rfl) HB2 Q2 (Nat.le_refl _) 3 Tryz.infoN3 (by rfl) (by rfl) (oneN _ _ _ _ _) ?_;intro W9 e9 b9 s9 o9))
  refine bodyPost_ret (v:=.agg #[.bool n2,.slice o2 l2 c2,.int .i64 x2]) (res_num _ 6 (by kernel_rfl) _ _ w.heap.size _ _ _ (by rfl) e9) rfl ⟨_,z2,rfl,(show NumC _ _ _ _ _ from HZ2.out).cl (num_cl HB2) (fun b hb _=>o9 b hb),HZ3.out,b9⟩
 ·have dk:decide ((ll:Int) <= (k:Int)) = true:=decide_eq_true (by omega)
  have HW1:Hid (∀ W',_):=fun W'=>wholeI_any 1 (by decide) W'
  have hle:ll <= k:=by omega
  clear hkl
  go_wp2_with (first
   | (go_at_call 64;refine Calls.mono (HW1.out _) ?_;rintro e V1 ⟨v1,rfl,hz1,b1⟩;obtain ⟨o1,l1,c1,xs1,hv1,-⟩:=id hz1;subst hv1;have Q1:=to_call HX.out.1 b1;have HB1:=kept b1 HX.out.2;have HZ1:Hid (NumC V1 _ E 1024 ((2 ^ E:Nat):Int)):=oneC HE.out hz1;clear b1 hz1)
   | (refine wpList_store_row (by rfl) 46 _ _ (by rfl) w w.heap.size w.heap.size _ _ (by rfl) (by rfl) HB1 Q1 (Nat.le_refl _) 3 Tryz.infoN3 (by rfl) (by rfl) (oneN _ _ _ _ _) ?_;intro W9 e9 b9 s9 o9))
  refine bodyPost_ret (v:=.agg #[.bool (decide ((1:Int) < 0)),.slice o1 l1 c1,.int .i64 0]) (res_num _ 6 (by kernel_rfl) _ _ w.heap.size _ _ _ (by rfl) e9) rfl ⟨_,_,rfl,(show NumC _ _ _ _ _ from HZ1.out).cl (num_cl HB1) (fun b hb _=>o9 b hb),by rw [Int.natAbs_natCast];exact Nat.le_refl _,b9⟩
structure RowZ (w:World) (base:Nat) (v:Value) (s:Nat) (T:Int) (zs:List Int):Prop where
 own:∃ xs,w.ownsRow base 46 3 v zs.length xs /\ ∀ j,j < zs.length -> ∃ n o l c e,xs[j * 3]? = some (.bool n) /\ xs[j * 3 + 1]? = some (.slice o l c) /\ xs[j * 3 + 2]? = some (.int .i64 e) /\ NumC w (.agg #[.bool n,.slice o l c,.int .i64 e]) s T (zs[j]?.getD 0)
 cl:∀ g,v.ownBlock = some g -> Cl noU w g
theorem RowZ.nil (w:World) (base s:Nat) (T:Int):RowZ w base (.slice none 0 0) s T []:=⟨⟨[],World.ownsRow_nil _ _ _ _,fun j hj=>absurd hj (Nat.not_lt_zero _)⟩,fun g hg=>by cases hg⟩
theorem RowZ.later {w w':World} {base s:Nat} {T:Int} {v:Value} {zs:List Int} (h:RowZ w base v s T zs) (hb:Below w.heap.size w w'):RowZ w' base v s T zs:=by
 obtain ⟨xs,h1,h2⟩:=h.own
 exact ⟨⟨xs,owns_keep h1 fun k hk=>hb.block k (World.ownsRow.lt h1 k hk).2,fun j hj=>by obtain ⟨n,o,l,c,e,a1,a2,a3,a4⟩:=h2 j hj;exact ⟨n,o,l,c,e,a1,a2,a3,a4.later hb⟩⟩,fun g hg=>(h.cl g hg).later hb⟩
theorem RowZ.push {w w':World} {base s:Nat} {T z:Int} {v v':Value} {zs:List Int} {n:Bool} {o:Option Addr} {l c:Nat} {e:Int} {xs:List Value} (hx:w.ownsRow base 46 3 v zs.length xs) (h2:∀ j,j < zs.length -> ∃ n o l c e,xs[j * 3]? = some (.bool n) /\ xs[j * 3 + 1]? = some (.slice o l c) /\ xs[j * 3 + 2]? = some (.int .i64 e) /\ NumC w (.agg #[.bool n,.slice o l c,.int .i64 e]) s T (zs[j]?.getD 0))
  (hcl:∀ g,v.ownBlock = some g -> Cl noU w g) (hn:NumC w (.agg #[.bool n,.slice o l c,.int .i64 e]) s T z) (ho:w'.ownsRow base 46 3 v' (zs.length + 1) (xs ++ [.bool n,.slice o l c,.int .i64 e])) (hg:Grw w w' v.ownBlock v'.ownBlock) (hcl':∀ g,v'.ownBlock = some g -> Cl noU w' g):RowZ w' base v' s T (zs ++ [z]):=by
 have keep:∀ (y:Value) (z:Int),NumC w y s T z -> NumC w' y s T z:=fun y z hy=>hy.grw hg hcl
 have hl:xs.length = zs.length * 3:=hx.1
 refine ⟨⟨_,by simpa using ho,fun j hj=>?_⟩,hcl'⟩
 by_cases ej:j < zs.length
 ·obtain ⟨n1,o1,l1,c1,e1,a1,a2,a3,a4⟩:=h2 j ej
  refine ⟨n1,o1,l1,c1,e1,?_,?_,?_,?_⟩
  ·rw [List.getElem?_append_left (by omega)];exact a1
  ·rw [List.getElem?_append_left (by omega)];exact a2
  ·rw [List.getElem?_append_left (by omega)];exact a3
  ·rw [List.getElem?_append_left ej];exact keep _ _ a4
 ·have e2:j = zs.length:=by simp at hj;omega
  subst e2
  refine ⟨n,o,l,c,e,?_,?_,?_,?_⟩
  ·rw [List.getElem?_append_right (by omega),hl,Nat.sub_self];rfl
  ·rw [List.getElem?_append_right (by omega),hl,show zs.length * 3 + 1 - zs.length * 3 = 1 by omega];rfl
  ·rw [List.getElem?_append_right (by omega),hl,show zs.length * 3 + 2 - zs.length * 3 = 2 by omega];rfl
  ·rw [List.getElem?_append_right (Nat.le_refl _),Nat.sub_self];exact keep _ _ hn
theorem RowZ.range {w:World} {base s:Nat} {T:Int} {v:Value} {zs:List Int} (h:RowZ w base v s T zs) {k:Nat} (hk:k < zs.length):∃ b cap n o l c e,v = .slice (some ⟨b,0,none⟩) zs.length cap /\ w.rangeAt b (k * 3) [.bool n,.slice o l c,.int .i64 e] /\ NumC w (.agg #[.bool n,.slice o l c,.int .i64 e]) s T (zs[k]?.getD 0):=by
 obtain ⟨xs,h1,h2⟩:=h.own
 obtain ⟨n,o,l,c,e,a1,a2,a3,a4⟩:=h2 k hk
 have h1':=h1
 rcases h1.2 with ⟨_,h0⟩ | ⟨g,cap,cur,rfl,_⟩
 ·omega
 ·refine ⟨g,cap,n,o,l,c,e,rfl,range3 ?_ ?_ ?_,a4⟩
  ·rw [World.ownsRow.cellAt h1' (k * 3) (by omega)];exact a1
  ·rw [World.ownsRow.cellAt h1' (k * 3 + 1) (by omega)];exact a2
  ·rw [World.ownsRow.cellAt h1' (k * 3 + 2) (by omega)];exact a3
theorem RowZ.form {w:World} {base s:Nat} {T:Int} {v:Value} {zs:List Int} (h:RowZ w base v s T zs):∃ ao cap,v = .slice ao zs.length cap:=by
 obtain ⟨xs,h1,h2⟩:=h.own
 rcases h1.2 with ⟨rfl,h0⟩ | ⟨g,cap,cur,rfl,_⟩
 ·exact ⟨none,0,by rw [h0]⟩
 ·exact ⟨_,cap,rfl⟩
theorem NumC.moreJ {w:World} {v:Value} {s:Nat} {T z:Int} (h:NumC w v s T z) (k:Nat):NumC w v (s + k) T (z * ((2 ^ k:Nat):Int)):=by
 obtain ⟨neg,m,e,h1,h2,h3,h4,h5⟩:=h
 exact ⟨neg,m,e,h1,by omega,h3,by rw [zv_more k neg m h2,h4],h5⟩
theorem partsJ_any (lo:Option Addr) (ll lc:Nat) (is:List Int) (f n:Nat) (b:Int) (E:Nat) (hE:E = 1074) (w:World) (h:RdIs w lo ll lc is) (hll:ll <= 1050000) (hf:f <= 1050000) (hn:n <= 1050000) (hb:-9223372036854775808 <= b /\ b < 9223372036854775808) :
  Calls Tryz.prog 11 #[.slice lo ll lc,.int .i64 (f:Int),.int .i64 (n:Int),.int .i64 b] w fun e w'=>∃ v zs,e = .returned v /\ RowZ w' w.heap.size v E 1024 zs /\ zs.length = n /\ (∀ z ∈ zs,z.natAbs <= 2 ^ E) /\ Below w.heap.size w w':=by
 have HPT:Hid (∀ W' (k:Nat),Below w.heap.size w W' -> k <= 4000000 -> _):=fun W' k hb' hk=>part_any lo ll lc is k b E hE W' (h.later hb') hll hk hb
 clear h hE
 go_enter Tryz.func11,Tryz.ntmps11
 go_wp2_with fail
 go_loopg [9,10] n (fun g v iv wx=>∃ (k:Nat) (zs:List Int),iv = .int .i64 k /\ k + g = n /\ zs.length = k /\ Hid (RowZ wx w.heap.size v E 1024 zs) /\ Hid (∀ z ∈ zs,z.natAbs <= 2 ^ E) /\ Hid (Below w.heap.size w wx))
 case atStart=>exact ⟨0,[],rfl,by omega,rfl,RowZ.nil _ _ _ _,(fun z hz=>by cases hz),Below.refl _ _⟩
 case round=>
  obtain ⟨k,zs,rfl,hk,hzl,HO,HA,HB⟩:=hrel
  have hsr:=HB.out.size
  by_cases hlt:k < n
  ·have hd:decide ((k:Int) < (n:Int)) = true:=decide_eq_true (by omega)
   obtain ⟨g,rfl⟩:∃ g,gk = g + 1:=⟨gk - 1,by omega⟩
   have HIG:Hid _:=hk
   have HZL:Hid _:=hzl
   clear hk hzl
   have HP2:Hid _:=HPT.out wr (f + k) HB.out (by omega)
   have hfk:((f + k:Nat):Int) = (f:Int) + (k:Int):=Int.natCast_add f k
   rw [hfk] at HP2
   clear hfk
   go_upto_region 5 with fail
   go_wp2_with (first
    | (go_at_call 32;refine Calls.mono HP2.out ?_;rintro e w1 ⟨v1,z1,rfl,hz1,ha1,b1⟩;obtain ⟨n1,o1,l1,c1,e1,hv1⟩:=hz1.form;subst hv1;have N1:Hid (NumC w1 _ E 1024 z1):=hz1;have HA1:Hid _:=ha1;have B1:Hid (Below wr.heap.size wr w1):=b1;have s1:=b1.size;clear hz1 ha1 b1;obtain ⟨xs,hxo,hxj⟩:=(HO.out.later B1.out).own;have HXJ:Hid _:=hxj;rw [HZL.out] at hxo;have HX2:Hid _:=hxo;clear hxo hxj;have HC2:Hid (∀ g,u9.ownBlock = some g -> Cl noU (w1.alloc (.cells #[.bool n1,.slice o1 l1 c1,.int .i64 e1] 46)) g):=fun g hg=>((HO.out.cl g hg).later B1.out).later ((Below.refl _ w1).alloc (Nat.le_refl _) _))
    | (at_builtin;refine append_clJ noU Tryz.underlying27 Tryz.infoNumJ rfl (by decide) (by decide) zero_noU _ (by rfl) _ _ (by rfl) w.heap.size _ k xs (by rfl) (World.ownsRow.alloc HX2.out _) HC2.out ⟨w1.heap.size,0,none⟩ 1 1 [.bool n1,.slice o1 l1 c1,.int .i64 e1] (by rfl) (by decide) rfl (news_threeJ (heap_alloc_new w1 _)) (three_one n1 o1 l1 c1 e1) (three_noU n1 o1 l1 c1 e1) (by omega) (by simp only [alloc_size];omega) ?_;intro v5 w5 o5 g5 cl5))
   have A1:Below w1.heap.size w1 (w1.alloc (.cells #[.bool n1,.slice o1 l1 c1,.int .i64 e1] 46)):=(Below.refl _ w1).alloc (Nat.le_refl _) _
   have R5:Hid (RowZ w5 w.heap.size v5 E 1024 (zs ++ [z1])):=by
    refine RowZ.push (xs:=xs) (by rw [HZL.out];exact World.ownsRow.alloc HX2.out _) (fun j hj=>?_) HC2.out (NumC.later (show NumC _ _ _ _ _ from N1.out) A1) (by rw [HZL.out];exact o5) g5 cl5
    obtain ⟨n2,o2,l2,c2,e2,a1,a2,a3,a4⟩:=HXJ.out j hj
    exact ⟨n2,o2,l2,c2,e2,a1,a2,a3,a4.later A1⟩
   have B5:Hid (Below w.heap.size w w5):=(to_call (to_call HB.out B1.out) A1).trans (g5.below (fun k hk=>(World.ownsRow.lt HX2.out k hk).1) (by simp only [alloc_size];omega))
   have HA5:Hid (∀ z ∈ zs ++ [z1],z.natAbs <= 2 ^ E):=by
    intro z hz
    rcases List.mem_append.1 hz with h | h
    ·exact HA.out z h
    ·rw [List.mem_singleton.1 h];exact HA1.out
   clear o5 g5 cl5 A1 HC2 HX2 HXJ
   go_wp2_with fail
   go_roundg g
   case measure=>omega
   case rel=>exact ⟨k + 1,zs ++ [z1],by go_num,by have:=HIG.out;omega,by rw [List.length_append,HZL.out];rfl,R5,HA5,B5⟩
  ·have hd:decide ((k:Int) < (n:Int)) = false:=decide_eq_false (by omega)
   have hkn:k = n:=by omega
   have HZN:Hid (zs.length = n):=by rw [<- hkn];exact hzl
   clear hk hzl hkn
   go_wp2_with fail
   go_ret
   exact ⟨_,zs,rfl,HO.out,HZN.out,HA.out,HB.out⟩
def mg:List Int -> List Int -> List Int
 | [],ys=>ys
 | x :: xs,[]=>x :: xs
 | x :: xs,y :: ys=>if x < y then x :: mg xs (y :: ys) else if y < x then y :: mg (x :: xs) ys else x :: mg xs ys
 termination_by xs ys=>xs.length + ys.length
theorem mg_nil (xs:List Int):mg xs [] = xs:=by cases xs <;> simp [mg]
theorem mg_len:∀ (xs ys:List Int),(mg xs ys).length <= xs.length + ys.length
 | [],ys=>by simp [mg]
 | x :: xs,[]=>by simp [mg]
 | x :: xs,y :: ys=>by
  have h1:=mg_len xs (y :: ys)
  have h2:=mg_len (x :: xs) ys
  have h3:=mg_len xs ys
  rw [mg]
  split
  ·simp only [List.length_cons] at *;omega
  ·split <;> (simp only [List.length_cons] at *;omega)
 termination_by xs ys=>xs.length + ys.length
theorem made3 (n j:Nat) (h:j < n) (a b c:Value):(madeCells #[a,b,c] (n * 3)).toList[j * 3]? = some a /\ (madeCells #[a,b,c] (n * 3)).toList[j * 3 + 1]? = some b /\ (madeCells #[a,b,c] (n * 3)).toList[j * 3 + 2]? = some c:=by
 unfold madeCells
 have h0:j * 3 < n * 3:=by omega
 have h1:j * 3 + 1 < n * 3:=by omega
 have h2:j * 3 + 2 < n * 3:=by omega
 have e0:j * 3 % 3 = 0:=by omega
 have e1:(j * 3 + 1) % 3 = 1:=by omega
 have e2:(j * 3 + 2) % 3 = 2:=by omega
 refine ⟨?_,?_,?_⟩
 ·simp [h0,e0]
 ·simp [h1,e1]
 ·simp [h2,e2]
theorem makeNJ (n:Nat) (hn:n <= 1000000) (s:Nat) (T:Int) (hT:0 <= T) (w:World) :
  ∃ w',(Instr.makeSlice 27 (.int .i64 (n:Int)) (.int .i64 (n:Int))).run Tryz.prog w = .ok (.slice (some ⟨w.heap.size,0,none⟩) n n) w' /\ RowZ w' w.heap.size (.slice (some ⟨w.heap.size,0,none⟩) n n) s T (List.replicate n 0) /\ Below w.heap.size w w':=by
 obtain ⟨i0,hi,hz0,hz1,hz2⟩:=info3' Tryz.infoNumJ
 have h:=run_makeSlice (P:=Tryz.prog) w 27 46 i0 (.agg #[.bool false,.slice none 0 0,.int .i64 0]) Tryz.underlying27 hi hz0 .i64 .i64 (n:Int) (n:Int) (by omega) (by omega) (by rw [hz1,Int.toNat_natCast];omega) (by rw [hz2];omega) (by omega)
 rw [Int.toNat_natCast,hz1] at h
 have hc:(Value.agg #[.bool false,.slice none 0 0,.int .i64 0]).cells = #[.bool false,.slice none 0 0,.int .i64 0]:=rfl
 rw [hc] at h
 have hmx:n <= maxLen:=by simp only [maxLen];omega
 refine ⟨_,h,⟨⟨(madeCells #[.bool false,.slice none 0 0,.int .i64 0] (n * 3)).toList,?_,fun j hj=>?_⟩,fun g hg=>?_⟩,(Below.refl _ w).alloc (Nat.le_refl _) _⟩
 ·rw [List.length_replicate]
  exact World.ownsRow_lit w _ n (Nat.le_refl _) hmx (size_madeCells _ _)
 ·rw [List.length_replicate] at hj
  obtain ⟨m1,m2,m3⟩:=made3 n j hj (.bool false) (.slice none 0 0) (.int .i64 0)
  exact ⟨false,none,0,0,0,m1,m2,m3,by rw [List.getElem?_replicate,if_pos hj,Option.getD_some];exact NumC.zeroJ _ _ _ hT⟩
 ·cases hg
  refine ⟨_,_,heap_alloc_new w _,fun i v hv=>?_⟩
  have hv':=Array.mem_of_getElem? hv
  unfold madeCells at hv'
  simp at hv'
  obtain ⟨k,_,rfl⟩:=hv'
  have hk:k % 3 = 0 \/ k % 3 = 1 \/ k % 3 = 2:=by omega
  rcases hk with e | e | e <;> simp [e] <;> rfl
def colZ (n:Nat) (id:Int):List Int -> List (List Nat) -> List Int
 | i :: is,g :: gs=>if i = id then g.map fval else colZ n id is gs
 | _,_=>List.replicate n 0
theorem set3_eq {α:Type} (l:List α) (i:Nat) (a b c:α) (h:i + 3 <= l.length):l.take i ++ [a,b,c] ++ l.drop (i + 3) = ((l.set i a).set (i + 1) b).set (i + 2) c:=by
 apply List.ext_getElem?
 intro j
 have hl:(l.take i).length = i:=by rw [List.length_take];omega
 have hl2:(l.take i ++ [a,b,c]).length = i + 3:=by rw [List.length_append,hl];rfl
 by_cases h1:j < i
 ·rw [List.getElem?_append_left (by omega),List.getElem?_append_left (by omega),List.getElem?_take_of_lt h1,List.getElem?_set_ne (by omega),List.getElem?_set_ne (by omega),List.getElem?_set_ne (by omega)]
 by_cases h2:j < i + 3
 ·rw [List.getElem?_append_left (by omega),List.getElem?_append_right (by omega),hl]
  have hj:j = i \/ j = i + 1 \/ j = i + 2:=by omega
  rcases hj with rfl | rfl | rfl
  ·rw [Nat.sub_self,List.getElem?_set_ne (by omega),List.getElem?_set_ne (by omega),List.getElem?_set_self (by omega)];rfl
  ·rw [show i + 1 - i = 1 by omega,List.getElem?_set_ne (by omega),List.getElem?_set_self (by rw [List.length_set];omega)];rfl
  ·rw [show i + 2 - i = 2 by omega,List.getElem?_set_self (by rw [List.length_set,List.length_set];omega)];rfl
 ·rw [List.getElem?_append_right (by omega),hl2,List.getElem?_drop,List.getElem?_set_ne (by omega),List.getElem?_set_ne (by omega),List.getElem?_set_ne (by omega)]
  congr 1
  omega
theorem RowZ.stored {w W:World} {base g cap s:Nat} {T z:Int} {zs:List Int} {n:Bool} {o:Option Addr} {l c:Nat} {e:Int} {k:Nat} {cur:Array Value} (h:RowZ w base (.slice (some ⟨g,0,none⟩) zs.length cap) s T zs) (hk:k < zs.length) (hz:NumC w (.agg #[.bool n,.slice o l c,.int .i64 e]) s T z) (hg:w.heap[g]? = some (.cells cur 46))
  (hW:W.heap[g]? = some (.cells (cur.toList.take (k * 3) ++ [Value.bool n,Value.slice o l c,Value.int .i64 e] ++ cur.toList.drop (k * 3 + 3)).toArray 46)) (ho:∀ b,b ≠ g -> W.heap[b]? = w.heap[b]?):RowZ W base (.slice (some ⟨g,0,none⟩) zs.length cap) s T (zs.set k z):=by
 obtain ⟨xs,h1,h2⟩:=h.own
 have hcl:=h.cl g rfl
 rcases h1.2 with ⟨h',_⟩ | ⟨g',cap',cur',h',hb,hg',hnc,hcm,hcs,htake⟩
 ·cases h'
 simp only [Value.slice.injEq,Option.some.injEq,Addr.mk.injEq,and_true,true_and] at h'
 obtain ⟨rfl,rfl⟩:=h'
 rw [hg] at hg'
 obtain rfl:cur = cur':=by injection hg' with q;injection q
 have hlen:k * 3 + 3 <= cur.toList.length:=by
  have q:cur.size = cap * 3:=hcs
  rw [Array.length_toList,q]
  have:(k + 1) * 3 <= cap * 3:=Nat.mul_le_mul_right _ (by omega)
  omega
 rw [set3_eq _ _ _ _ _ hlen] at hW
 have hxl:xs.length = zs.length * 3:=h1.1
 have keep:∀ (y:Value) (x:Int),NumC w y s T x -> NumC W y s T x:=fun y x hy=>hy.cl hcl fun b hb _=>ho b hb
 refine ⟨⟨((xs.set (k * 3) (Value.bool n)).set (k * 3 + 1) (Value.slice o l c)).set (k * 3 + 2) (Value.int .i64 e),?_,fun j hj=>?_⟩,fun g2 hg2=>?_⟩
 ·rw [List.length_set]
  refine ⟨by simp only [List.length_set];exact h1.1,.inr ⟨g,cap,_,rfl,hb,hW,hnc,hcm,by simpa using hcs,?_⟩⟩
  rw [<- htake,List.take_set,List.take_set,List.take_set]
 ·rw [List.length_set] at hj
  by_cases ej:j = k
  ·subst ej
   refine ⟨n,o,l,c,e,?_,?_,?_,?_⟩
   ·rw [List.getElem?_set_ne (by omega),List.getElem?_set_ne (by omega),List.getElem?_set_self (by omega)]
   ·rw [List.getElem?_set_ne (by omega),List.getElem?_set_self (by rw [List.length_set];omega)]
   ·rw [List.getElem?_set_self (by rw [List.length_set,List.length_set];omega)]
   ·rw [List.getElem?_set_self hj,Option.getD_some];exact keep _ _ hz
  ·obtain ⟨n1,o1,l1,c1,e1,a1,a2,a3,a4⟩:=h2 j hj
   refine ⟨n1,o1,l1,c1,e1,?_,?_,?_,?_⟩
   ·rw [List.getElem?_set_ne (by omega),List.getElem?_set_ne (by omega),List.getElem?_set_ne (by omega)];exact a1
   ·rw [List.getElem?_set_ne (by omega),List.getElem?_set_ne (by omega),List.getElem?_set_ne (by omega)];exact a2
   ·rw [List.getElem?_set_ne (by omega),List.getElem?_set_ne (by omega),List.getElem?_set_ne (by omega)];exact a3
   ·rw [List.getElem?_set_ne (fun q=>ej q.symm)];exact keep _ _ a4
 ·cases hg2
  obtain ⟨cur2,t2,q1,q2⟩:=hcl
  rw [hg] at q1
  obtain ⟨rfl,rfl⟩:cur = cur2 /\ 46 = t2:=by injection q1 with q;injection q with qa qb;exact ⟨qa,qb⟩
  refine ⟨_,_,hW,fun i v hv=>?_⟩
  rw [List.getElem?_toArray] at hv
  by_cases e1:k * 3 + 2 = i
  ·subst e1
   rw [List.getElem?_set_self (by rw [List.length_set,List.length_set];omega)] at hv
   cases hv;rfl
  rw [List.getElem?_set_ne e1] at hv
  by_cases e2:k * 3 + 1 = i
  ·subst e2
   rw [List.getElem?_set_self (by rw [List.length_set];omega)] at hv
   cases hv;rfl
  rw [List.getElem?_set_ne e2] at hv
  by_cases e3:k * 3 = i
  ·subst e3
   rw [List.getElem?_set_self (by omega)] at hv
   cases hv;rfl
  rw [List.getElem?_set_ne e3,Array.getElem?_toList] at hv
  exact q2 i v hv
end Go.Proofs.YtoflalhiihcofaaGreat
namespace Go.Proofs.YtoflalhiihcofaaGreat
open Go.ChangeShapes Go.WideShapes Go.ChangeAt Go.RowKit Go.Joins Go.Deep
section
variable {H:Type} {enc:TypeId × Value -> H} {P:Program} {w:World} {base:Nat} {spare:Nat -> Bool} {held:Bool}
theorem trodJ_float {t:TypeId} {k:FloatKind} {fuel:Nat} {cs:List Value} {x:DataW H × List MemPlace} (ht:P.underlying t = some (.float k)) (h:DataW.trod enc P w base spare held fuel t cs = some x):∃ n,cs = [.float k n] /\ (Lit.float k n).wf = true:=by
 cases fuel with
 | zero=>simp [DataW.trod] at h
 | succ n=>
  unfold DataW.trod at h
  rw [ht] at h
  split at h <;> simp_all
theorem trodJ_bool {t:TypeId} {fuel:Nat} {cs:List Value} {x:DataW H × List MemPlace} (ht:P.underlying t = some .bool) (h:DataW.trod enc P w base spare held fuel t cs = some x):∃ b,cs = [.bool b]:=by
 cases fuel with
 | zero=>simp [DataW.trod] at h
 | succ n=>
  unfold DataW.trod at h
  rw [ht] at h
  split at h <;> simp_all
end
theorem bulkJ_one {H:Type} (d:DataW H):1 <= Rows.uptoBulk d:=by
 cases d with
 | lit l=>cases l <;> simp [Rows.uptoBulk]
 | nil=>simp [Rows.uptoBulk]
 | ptr d=>simp [Rows.uptoBulk]
 | slice elems spare=>simp [Rows.uptoBulk]
 | agg parts=>simp [Rows.uptoBulk]
 | iface t d=>simp [Rows.uptoBulk]
 | map entries=>simp [Rows.uptoBulk]
 | held h=>simp [Rows.uptoBulk]
theorem bulkJ_len {H:Type} (l:List (DataW H)):l.length <= Rows.uptoBulkAll l:=by
 induction l with
 | nil=>simp [Rows.uptoBulkAll]
 | cons x r ih=>have:=bulkJ_one x;simp only [Rows.uptoBulkAll,List.length_cons];omega
theorem bulkJ_mem {H:Type} (l:List (DataW H)) {d:DataW H} (h:d ∈ l):Rows.uptoBulk d <= Rows.uptoBulkAll l:=by
 induction l with
 | nil=>cases h
 | cons x r ih=>
  simp only [Rows.uptoBulkAll]
  rcases List.mem_cons.1 h with rfl | h
  ·omega
  ·have:=ih h;omega
theorem bulkJ_slice {H:Type} (l s:List (DataW H)):l.length <= Rows.uptoBulk (.slice l s) /\ ∀ d ∈ l,Rows.uptoBulk d <= Rows.uptoBulk (.slice l s):=by
 rw [Rows.uptoBulk]
 refine ⟨by have:=bulkJ_len l;omega,fun d hd=>by have:=bulkJ_mem l hd;omega⟩
theorem bulkJ_agg {H:Type} (l:List (DataW H)):∀ d ∈ l,Rows.uptoBulk d <= Rows.uptoBulk (.agg l):=by
 rw [Rows.uptoBulk]
 exact fun d hd=>by have:=bulkJ_mem l hd;omega
def flOfJ:Value -> Nat
 | .float _ u=>u
 | _=>0
def inOfJ:Value -> Int
 | .int _ u=>u
 | _=>0
theorem floatsJ_open {P:Program} {H:Type} {enc:TypeId × Value -> H} {W:World} {T E:TypeId} {fuel:Nat} {cs:List Value} {x:DataW H × List MemPlace}
  (hT:P.underlying T = some (.slice E)) (hE:P.underlying E = some (.float .f64)) (hc:P.cellsOf E = 1) (h:DataW.trod enc P W 0 (fun _=>true) true fuel T cs = some x) :
  ∃ ao len cap us,cs = [.slice ao len cap] /\ RdF W ao len cap us /\ (ao = none -> len = 0 /\ cap = 0) /\ len <= Rows.uptoBulk x.1:=by
 rcases open_slice1 hT hc h with ⟨hcs,_⟩ | ⟨a,len,cap,m,n,V,D,Pl,hcs,_,hl,hm,hmm,hxx,hx⟩
 ·exact ⟨none,0,0,[],hcs,⟨rfl,Nat.zero_le _,(fun _ h=>by cases h),.inl rfl⟩,fun _=>⟨rfl,rfl⟩,Nat.zero_le _⟩
 ·simp only [if_true] at hmm
  subst hmm
  have hv:∀ i,i < m -> ∃ u,V i = .float .f64 u /\ u < 18446744073709551616:=by
   intro i hi
   obtain ⟨u,hu,hw⟩:=trodJ_float hE (hx i hi).2
   simp only [List.cons.injEq,and_true] at hu
   exact ⟨u,hu,by simpa [Lit.wf] using hw⟩
  have hbk:len <= Rows.uptoBulk x.1:=by
   rw [hxx]
   have:=(bulkJ_slice ((List.range len).map D) ((List.range (m - len)).map fun j=>D (len + j))).1
   rw [List.length_map,List.length_range] at this
   exact this
  refine ⟨some a,len,m,(List.range len).map fun i=>flOfJ (V i),hcs,⟨by simp,Nat.le_trans hl hm,?_,?_⟩,(fun h=>by cases h),hbk⟩
  ·intro u hu
   simp only [List.mem_map,List.mem_range] at hu
   obtain ⟨i,hi,rfl⟩:=hu
   obtain ⟨y,hy,hlt⟩:=hv i (by omega)
   rw [hy];exact hlt
  ·by_cases h0:len = 0
   ·exact .inl h0
   ·right
    obtain ⟨b,off,spot⟩:=a
    have hspot:spot = none:=by simpa [Addr.add] using World.cell?_spot (hx 0 (by omega)).1
    subst hspot
    refine ⟨b,off,rfl,fun j hj=>?_⟩
    have g:=(hx j (by omega)).1
    obtain ⟨y,hy,_⟩:=hv j (by omega)
    rw [Addr.add_lit,hy] at g
    rw [g]
    simp [hj,hy,flOfJ]
theorem intsJ_open {P:Program} {H:Type} {enc:TypeId × Value -> H} {W:World} {T E:TypeId} {fuel:Nat} {cs:List Value} {x:DataW H × List MemPlace}
  (hT:P.underlying T = some (.slice E)) (hE:P.underlying E = some (.int .i64)) (hc:P.cellsOf E = 1) (h:DataW.trod enc P W 0 (fun _=>true) true fuel T cs = some x) :
  ∃ ao len cap is,cs = [.slice ao len cap] /\ RdIs W ao len cap is /\ (ao = none -> len = 0 /\ cap = 0) /\ len <= Rows.uptoBulk x.1:=by
 rcases open_slice1 hT hc h with ⟨hcs,_⟩ | ⟨a,len,cap,m,n,V,D,Pl,hcs,_,hl,hm,hmm,hxx,hx⟩
 ·exact ⟨none,0,0,[],hcs,⟨rfl,Nat.zero_le _,.inl rfl⟩,fun _=>⟨rfl,rfl⟩,Nat.zero_le _⟩
 ·simp only [if_true] at hmm
  subst hmm
  have hv:∀ i,i < m -> ∃ u,V i = .int .i64 u:=by
   intro i hi
   obtain ⟨u,hu,_,_⟩:=DataW.trod_int hE (hx i hi).2
   simp only [List.cons.injEq,and_true] at hu
   exact ⟨u,hu⟩
  have hbk:len <= Rows.uptoBulk x.1:=by
   rw [hxx]
   have:=(bulkJ_slice ((List.range len).map D) ((List.range (m - len)).map fun j=>D (len + j))).1
   rw [List.length_map,List.length_range] at this
   exact this
  refine ⟨some a,len,m,(List.range len).map fun i=>inOfJ (V i),hcs,⟨by simp,Nat.le_trans hl hm,?_⟩,(fun h=>by cases h),hbk⟩
  by_cases h0:len = 0
  ·exact .inl h0
  ·right
   obtain ⟨b,off,spot⟩:=a
   have hspot:spot = none:=by simpa [Addr.add] using World.cell?_spot (hx 0 (by omega)).1
   subst hspot
   refine ⟨b,off,rfl,fun j hj=>?_⟩
   have g:=(hx j (by omega)).1
   obtain ⟨y,hy⟩:=hv j (by omega)
   rw [Addr.add_lit,hy] at g
   rw [g]
   simp [hj,hy,inOfJ]
theorem rowsJ_open {P:Program} {H:Type} {enc:TypeId × Value -> H} {W:World} {T E Q:TypeId} {fuel:Nat} {cs:List Value} {x:DataW H × List MemPlace}
  (hT:P.underlying T = some (.slice E)) (hE:P.underlying E = some (.slice Q)) (hQ:P.underlying Q = some (.float .f64)) (hc:P.cellsOf E = 1) (hq:P.cellsOf Q = 1) (h:DataW.trod enc P W 0 (fun _=>true) true fuel T cs = some x) :
  ∃ ao len cap gv gs,cs = [.slice ao len cap] /\ RdGs W ao len cap gv gs /\ len <= Rows.uptoBulk x.1 /\ (∀ k,k < len -> ((gv k).1 = none -> (gv k).2.1 = 0 /\ (gv k).2.2 = 0) /\ (gv k).2.1 <= Rows.uptoBulk x.1):=by
 rcases open_slice1 hT hc h with ⟨hcs,_⟩ | ⟨a,len,cap,m,n,V,D,Pl,hcs,_,hl,hm,hmm,hxx,hx⟩
 ·exact ⟨none,0,0,fun _=>(none,0,0),[],hcs,⟨rfl,Nat.zero_le _,.inl rfl,fun j hj=>absurd hj (Nat.not_lt_zero _)⟩,Nat.zero_le _,fun k hk=>absurd hk (Nat.not_lt_zero _)⟩
 ·simp only [if_true] at hmm
  subst hmm
  have hv:∀ i:Nat,∃ q:(Option Addr × Nat × Nat) × List Nat,i < m -> V i = .slice q.1.1 q.1.2.1 q.1.2.2 /\ RdF W q.1.1 q.1.2.1 q.1.2.2 q.2 /\ (q.1.1 = none -> q.1.2.1 = 0 /\ q.1.2.2 = 0) /\ q.1.2.1 <= Rows.uptoBulk (D i):=by
   intro i
   by_cases hi:i < m
   ·obtain ⟨ao,l,c,us,hu,r1,r2,r3⟩:=floatsJ_open hE hQ hq (hx i hi).2
    simp only [List.cons.injEq,and_true] at hu
    exact ⟨((ao,l,c),us),fun _=>⟨hu,r1,r2,r3⟩⟩
   ·exact ⟨((none,0,0),[]),fun h=>absurd h hi⟩
  obtain ⟨F,hF⟩:=Classical.axiomOfChoice hv
  have hb:=bulkJ_slice ((List.range len).map D) ((List.range (m - len)).map fun j=>D (len + j))
  have hbk:len <= Rows.uptoBulk x.1:=by
   rw [hxx]
   have:=hb.1
   rw [List.length_map,List.length_range] at this
   exact this
  refine ⟨some a,len,m,fun i=>(F i).1,(List.range len).map fun i=>(F i).2,hcs,⟨by simp,Nat.le_trans hl hm,?_,fun j hj=>?_⟩,hbk,fun k hk=>?_⟩
  ·by_cases h0:len = 0
   ·exact .inl h0
   ·right
    obtain ⟨b,off,spot⟩:=a
    have hspot:spot = none:=by simpa [Addr.add] using World.cell?_spot (hx 0 (by omega)).1
    subst hspot
    refine ⟨b,off,rfl,fun j hj=>?_⟩
    have g:=(hx j (by omega)).1
    rw [Addr.add_lit,(hF j (by omega)).1] at g
    exact g
  ·have e:((List.range len).map fun i=>(F i).2)[j]?.getD [] = (F j).2:=by simp [hj]
   rw [e]
   exact (hF j (by omega)).2.1
  ·obtain ⟨_,_,h3,h4⟩:=hF k (by omega)
   refine ⟨h3,Nat.le_trans h4 ?_⟩
   rw [hxx]
   exact hb.2 _ (List.mem_map.2 ⟨k,List.mem_range.2 hk,rfl⟩)
theorem array6 {α:Type} {cs:Array α} (h:cs.size = 6):∃ c0 c1 c2 c3 c4 c5,cs = #[c0,c1,c2,c3,c4,c5]:=by
 obtain ⟨l⟩:=cs
 match l,h with
 | [c0,c1,c2,c3,c4,c5],_=>exact ⟨c0,c1,c2,c3,c4,c5,rfl⟩
theorem agg6 {P:Program} {H:Type} {enc:TypeId × Value -> H} {W:World} {base b0:Nat} {r:Reach} {spare:Nat -> Bool} {held:Bool} {t:TypeId} {f0 f1 f2 f3 f4 f5:Field} {v:Value} {d:DataW H} {p:List MemPlace}
  (hs:P.underlying t = some (.struct #[f0,f1,f2,f3,f4,f5])) (hone:oneCellFields P #[f0,f1,f2,f3,f4,f5] = true) (hC:P.cellsOf t = 6) (hv:Value.okWide P W r b0 t v) (h:DataW.Trod enc P W base spare held t v d p) :
  ∃ (v0 v1 v2 v3 v4 v5:Value) (y0 y1 y2 y3 y4 y5:DataW H × List MemPlace) (n:Nat),v = .agg #[v0,v1,v2,v3,v4,v5] /\ (∀ y ∈ [y0,y1,y2,y3,y4,y5],Rows.uptoBulk y.1 <= Rows.uptoBulk d) ∧
   DataW.trod enc P W base spare held n f0.type [v0] = some y0 /\ DataW.trod enc P W base spare held n f1.type [v1] = some y1 /\ DataW.trod enc P W base spare held n f2.type [v2] = some y2 /\ DataW.trod enc P W base spare held n f3.type [v3] = some y3 /\ DataW.trod enc P W base spare held n f4.type [v4] = some y4 /\ DataW.trod enc P W base spare held n f5.type [v5] = some y5:=by
 obtain ⟨cs,rfl,hsz⟩:=okWide_struct hs hv
 obtain ⟨c0,c1,c2,c3,c4,c5,rfl⟩:=array6 (hsz.trans hC)
 obtain ⟨fuel,hf⟩:=h
 obtain ⟨xs,n,_,hx,hl,hlen,hff⟩:=DataW.trod_struct hs hf
 simp only [Prod.mk.injEq] at hx
 obtain ⟨o0,k0⟩:=hone_of hone 0 f0 rfl
 obtain ⟨o1,k1⟩:=hone_of hone 1 f1 rfl
 obtain ⟨o2,k2⟩:=hone_of hone 2 f2 rfl
 obtain ⟨o3,k3⟩:=hone_of hone 3 f3 rfl
 obtain ⟨o4,k4⟩:=hone_of hone 4 f4 rfl
 obtain ⟨o5,k5⟩:=hone_of hone 5 f5 rfl
 match xs,hlen with
 | [y0,y1,y2,y3,y4,y5],_=>
  exact ⟨c0,c1,c2,c3,c4,c5,y0,y1,y2,y3,y4,y5,n,rfl,fun y hy=>by rw [hx.1];exact bulkJ_agg _ _ (List.mem_map.2 ⟨y,hy,rfl⟩),by simpa [Value.cells,o0,k0] using hff 0 f0 rfl,by simpa [Value.cells,o1,k1] using hff 1 f1 rfl,by simpa [Value.cells,o2,k2] using hff 2 f2 rfl,by simpa [Value.cells,o3,k3] using hff 3 f3 rfl,by simpa [Value.cells,o4,k4] using hff 4 f4 rfl,by simpa [Value.cells,o5,k5] using hff 5 f5 rfl⟩
end Go.Proofs.YtoflalhiihcofaaGreat
