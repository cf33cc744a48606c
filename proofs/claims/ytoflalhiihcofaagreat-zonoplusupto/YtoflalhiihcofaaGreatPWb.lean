import Derived.Test.YtoflalhiihcofaaGreatPPr
set_option maxRecDepth 100000
set_option maxHeartbeats 8000000
set_option linter.unusedVariables false
set_option linter.unusedSimpArgs false
namespace Go.Proofs.YtoflalhiihcofaaGreat
open Go.RowKit Go.Shelf
open Ieee
theorem bl_mul (a b:Nat):bl (a * b) <= bl a + bl b:=by
 refine bl_le_of_lt ?_
 rw [Nat.pow_add]
 have h1:=lt_bl a
 have h2:=lt_bl b
 calc a * b <= a * 2 ^ bl b:=Nat.mul_le_mul_left _ (by omega)
  _ < 2 ^ bl a * 2 ^ bl b:=Nat.mul_lt_mul_of_pos_right h1 (Nat.two_pow_pos _)
theorem zv_mul {s:Nat} {ex ey:Int} (nx ny:Bool) (mx my:Nat) (hx:-(s:Int) <= ex) (hy:-(s:Int) <= ey):zv (s + s) (nx != ny) (mx * my) (ex + ey) = zv s nx mx ex * zv s ny my ey:=by
 have hs:sv (nx != ny) (mx * my) = sv nx mx * sv ny my:=by
  cases nx <;> cases ny <;> simp [sv,Int.natCast_mul,Int.neg_mul,Int.mul_neg]
 unfold zv
 rw [hs,show (ex + ey + ((s + s:Nat):Int)).toNat = (ex + s).toNat + (ey + s).toNat by omega,Nat.pow_add,Int.natCast_mul]
 rw [Int.mul_assoc,Int.mul_assoc,<- Int.mul_assoc (sv ny my),Int.mul_comm (sv ny my),Int.mul_assoc]
theorem times_step {Z Z' W c x y o S Yk I P:Nat} (hW:0 < W) (hS:S = c + x * y + o) (hset:Z' + W * o = Z + W * (S % 4294967296)) (h:Z + W * c = P + I * x * Yk) (wk:Nat) (hWk:W = I * wk) :
  Z' + 4294967296 * W * (S / 4294967296) = P + I * x * (Yk + wk * y):=by
 have e1:=Nat.div_add_mod S 4294967296
 have e2:4294967296 * W * (S / 4294967296) + W * (S % 4294967296) = W * S:=by
  rw [Nat.mul_comm 4294967296 W,Nat.mul_assoc,<- Nat.mul_add,e1]
 have e3:W * S = W * c + W * (x * y) + W * o:=by rw [hS,Nat.mul_add,Nat.mul_add]
 have e4:I * x * (Yk + wk * y) = I * x * Yk + W * (x * y):=by
  rw [Nat.mul_add,hWk];congr 1
  rw [Nat.mul_assoc,Nat.mul_assoc];congr 1
  rw [<- Nat.mul_assoc,<- Nat.mul_assoc,Nat.mul_comm x wk]
 omega
theorem times_any (ao:Option Addr) (len cap:Nat) (xs:List Nat) (bo:Option Addr) (blen bcap:Nat) (ys:List Nat) (w:World) (hx:Rd4 w ao len cap xs) (hy:Rd4 w bo blen bcap ys) (hl:len <= 10000) (hl2:blen <= 10000) :
  Calls Tryz.prog 63 #[.slice ao len cap,.slice bo blen bcap] w fun e w'=>∃ ao' k cap' zs,e = .returned (.slice ao' k cap') /\ Rd4 w' ao' k cap' zs /\ Nm zs /\ dig zs = dig xs * dig ys /\ Below w.heap.size w w' /\ k <= len + blen:=by
 have h1:=hx.le
 have h2:=hx.max
 have h3:=hy.le
 have h4:=hy.max
 obtain ⟨w1,hmk,hO,hB1⟩:=make4 w (len + blen) (by omega)
 have hmk':=hmk ((len:Int) + (blen:Int)) (by omega)
 have HX:Hid _:=hx
 have HY:Hid _:=hy
 have HO:Hid _:=hO
 have HB1:Hid _:=hB1
 clear hmk hx hy hO hB1
 go_enter Tryz.func63,Tryz.ntmps63
 go_wp2_with fail
 go_loopg [6] len (fun gg i wx=>∃ (k:Nat) (zs:List Nat),k <= len /\ i = .int .i64 k /\ Hid (Own4 wx w.heap.size w.heap.size (len + blen) zs) /\ Hid (Below w.heap.size w wx) /\ Hid (U4 zs) /\ Hid (dig zs = dig (xs.take k) * dig ys) /\ Hid (∀ j,k + blen <= j -> zs[j]?.getD 0 = 0) /\ len <= k + gg)
 case atStart=>
  refine ⟨0,List.replicate (len + blen) 0,by omega,rfl,HO,HB1,?_,?_,?_,by omega⟩
  ·intro x hx;rw [List.eq_of_mem_replicate hx];decide
  ·unfold Hid;rw [dig_zeros];simp [dig]
  ·intro j _;rw [List.getElem?_replicate];split <;> rfl
 case round=>
  obtain ⟨i,zs,hi,rfl,HOz,HBz,HUz,HDz,HZz,hfu⟩:=hrel
  by_cases hlt:i < len
  ·obtain ⟨fu,rfl⟩:∃ g,gk = g + 1:=⟨gk - 1,by omega⟩
   rcases HX.out.cells with hh | ⟨b,off,rfl,hc⟩
   ·omega
   have HCX:Hid (w.cell? ⟨b,off + i,none⟩ = some (.int .u32 ((xs[i]?.getD 0:Nat):Int))):=hc i hlt
   have hxb:=HX.out.lt.at i
   have HTX:Hid _:=dig_take_more (ys:=xs) (k:=i)
   clear hc
   generalize xs[i]?.getD 0 = x at *
   go_wp2_with fail
   go_loopg [7,8] blen (fun gg c kk wx=>∃ (k cc:Nat) (zs':List Nat),k <= blen /\ kk = .int .i64 k /\ c = .int .u64 cc /\ cc < 4294967296 /\ Hid (Own4 wx w.heap.size w.heap.size (len + blen) zs') /\ Hid (Below w.heap.size w wx) /\ Hid (U4 zs') /\ Hid (dig zs' + wd (i + k) * cc = dig (xs.take i) * dig ys + wd i * x * dig (ys.take k)) /\ Hid (∀ j,i + blen <= j -> zs'[j]?.getD 0 = 0) /\ blen <= k + gg)
   case atStart=>
    refine ⟨0,0,zs,by omega,rfl,rfl,by omega,HOz,HBz,HUz,?_,HZz,by omega⟩
    unfold Hid;rw [HDz.out];simp [dig]
   case round=>
    obtain ⟨k,cc,zs',hk,rfl,rfl,hcc,HOy,HBy,HUy,HDy,HZy,hfu2⟩:=hrel
    by_cases hlt2:k < blen
    ·obtain ⟨fu2,rfl⟩:∃ g,gk = g + 1:=⟨gk - 1,by omega⟩
     rcases HY.out.cells with hh | ⟨b2,off2,rfl,hc2⟩
     ·omega
     have g:=(HBy.out.cell (World.block_lt_of_cell? w _ HCX.out)).trans HCX.out
     have g2:=(HBy.out.cell (World.block_lt_of_cell? w _ (hc2 k hlt2))).trans (hc2 k hlt2)
     have hyb:=HY.out.lt.at k
     obtain ⟨J,hJ⟩:∃ J:Nat,i + k = J:=⟨_,rfl⟩
     have gz:=HOy.out.cell J (by omega)
     have hob:=HUy.out.at J
     have gf:=HOy.out.frozen J
     have HSET:Hid _:=HOy.out.set J
     have HTY:Hid _:=dig_take_more (ys:=ys) (k:=k)
     have HDS:Hid (∀ v,dig (zs'.set J v) + wd J * zs'[J]?.getD 0 = dig zs' + wd J * v):=fun v=>dig_set (by rw [HOy.out.1];omega)
     clear hc2
     generalize ys[k]?.getD 0 = y at *
     generalize zs'[J]?.getD 0 = o at *
     obtain ⟨P,hP⟩:∃ P:Nat,x * y = P:=⟨_,rfl⟩
     have hPi:(x:Int) * (y:Int) = (P:Int):=by rw [<- hP,Int.natCast_mul]
     have hPb:P <= 18446744065119617025:=by
      rw [<- hP];exact Nat.mul_le_mul (show x <= 4294967295 by omega) (show y <= 4294967295 by omega)
     obtain ⟨S,hS⟩:∃ S:Nat,cc + P + o = S:=⟨_,rfl⟩
     have hSi:(cc:Int) + P + o = (S:Int):=by omega
     have hSb:S < 18446744073709551616:=by omega
     have hkk:(i:Int) + (k:Int) = (J:Int):=by omega
     have HJ:Hid (i + k = J):=hJ
     have hJb:J < len + blen:=by omega
     have HS0:Hid _:=hS
     have HP0:Hid _:=hP
     obtain ⟨Q,hQ⟩:∃ Q:Nat,cc + P = Q:=⟨_,rfl⟩
     have hw1:IntKind.u64.wrap ((x:Int) * (y:Int)) = (P:Int):=by rw [hPi,IntKind.wrap_u64];omega
     have hw2:IntKind.u64.wrap ((cc:Int) + (P:Int)) = (Q:Int):=by rw [IntKind.wrap_u64];omega
     have hw3:IntKind.u64.wrap ((Q:Int) + (o:Int)) = (S:Int):=by rw [IntKind.wrap_u64];omega
     have hw4:IntKind.i64.wrap ((i:Int) + (k:Int)) = (J:Int):=by rw [IntKind.wrap_i64];omega
     have hw5:IntKind.i64.wrap (J:Int) = (J:Int):=by rw [IntKind.wrap_i64];omega
     clear hS hP hQ hSi hPi hJ
     go_wp2_with fail
     go_region
     go_wp2_with fail
     go_roundg fu2
     case rel=>
      refine ⟨k + 1,S / 4294967296,zs'.set J (S % 4294967296),by omega,by go_num,by go_num,by omega,HSET.out _,(below_set HBy.out (Nat.le_refl _)).drew,HUy.out.set _ _ (Nat.mod_lt _ (by decide)),?_,?_,by omega⟩
      ·unfold Hid
       have hDy:=HDy.out
       rw [HJ.out] at hDy
       rw [HTY.out,<- Nat.add_assoc,HJ.out,wd_succ]
       exact times_step (wd_pos _) (by rw [HP0.out,HS0.out]) (HDS.out _) hDy (wd k) (by rw [<- HJ.out,wd_add])
      ·intro j hj
       rw [List.getElem?_set,if_neg (by have:=HJ.out;omega)];exact HZy.out j hj
     case measure=>omega
    ·obtain rfl:k = blen:=by omega
     obtain ⟨J,hJ⟩:∃ J:Nat,i + k = J:=⟨_,rfl⟩
     have gz:=HOy.out.cell J (by omega)
     rw [HZy.out J (by omega)] at gz
     have gf:=HOy.out.frozen J
     have HSET:Hid _:=HOy.out.set J cc
     have HDF:Hid (dig (zs'.set J cc) = dig (xs.take (i + 1)) * dig ys):=by
      unfold Hid
      have e1:=dig_set (xs:=zs') (k:=J) (v:=cc) (by rw [HOy.out.1];omega)
      have hDy:=HDy.out
      rw [hJ] at hDy
      rw [HZy.out J (by omega),Nat.mul_zero,Nat.add_zero,hDy,List.take_of_length_le (l:=ys) (by rw [HY.out.length];omega)] at e1
      rw [e1,HTX.out,Nat.add_mul]
     have hkk:(i:Int) + (k:Int) = (J:Int):=by omega
     have HJ:Hid (i + k = J):=hJ
     have hJb:J < len + k:=by omega
     have hw4:IntKind.i64.wrap ((i:Int) + (k:Int)) = (J:Int):=by rw [IntKind.wrap_i64];omega
     clear hJ
     have hcm:(cc:Int) % 4294967296 = (cc:Int):=by omega
     go_wp2_with fail
     go_roundg fu
     case rel=>
      refine ⟨i + 1,zs'.set J cc,by omega,by go_num,HSET,below_set HBy.out (Nat.le_refl _),HUy.out.set _ _ hcc,HDF,?_,by omega⟩
      intro j hj
      rw [List.getElem?_set,if_neg (by have:=HJ.out;omega)];exact HZy.out j (by omega)
     case measure=>omega
  ·obtain rfl:i = len:=by omega
   have HDF:Hid (dig zs = dig xs * dig ys):=by
    unfold Hid;rw [HDz.out,List.take_of_length_le (by rw [HX.out.length];omega)]
   go_wp2_with fail
   refine (trim_any _ _ _ zs _ (Own4.rd HOz.out HUz.out (by omega))).mono ?_
   rintro e w' ⟨ao',m,rfl,rfl,hr',hm',hnm,hdg⟩
   go_wp2_with fail
   go_ret
   exact ⟨ao',m,_,_,rfl,hr',hnm,by rw [hdg,HDF.out],HBz.out,by omega⟩
def TimesRes (nx ny:Bool) (mx my:Nat) (ex ey:Int) (w:World) (e':Ending) (w':World):Prop:=∃ v' neg e,e' = .returned v' /\ NumV w' v' neg (mx * my) e /\ (mx * my = 0 -> e = 0) /\ (mx * my ≠ 0 -> neg = (nx != ny) /\ e = ex + ey) /\ Below w.heap.size w w'
theorem timesV_any (v u:Value) (nx ny:Bool) (mx my:Nat) (ex ey:Int) (w:World) (hx:NumV w v nx mx ex) (hy:NumV w u ny my ey) (hex:-20000 <= ex /\ ex <= 20000) (hey:-20000 <= ey /\ ey <= 20000) (hbx:bl mx <= 40000) (hby:bl my <= 40000) :
  Calls Tryz.prog 31 #[v,u] w fun e' w'=>TimesRes nx ny mx my ex ey w e' w':=by
 obtain ⟨ao,len,cap,xs,rfl,hr,hnm,hm⟩:=hx
 obtain ⟨bo,blen,bcap,ys,rfl,hr2,hnm2,hm2⟩:=hy
 have lz1:=len_zero hr.length hr.lt hnm
 have lz2:=len_zero hr2.length hr2.lt hnm2
 have hl1:len <= 10000:=by have:=len_bl hr.length hr.lt hnm;rw [hm] at this;omega
 have hl2:blen <= 10000:=by have:=len_bl hr2.length hr2.lt hnm2;rw [hm2] at this;omega
 rw [hm] at lz1
 rw [hm2] at lz2
 obtain ⟨p0,p1,p2,pz,pb⟩:=alloc3_facts w (Obj.cells #[Value.bool nx,Value.slice ao len cap,Value.int IntKind.i64 ex] 46) (Obj.cells #[Value.bool ny,Value.slice bo blen bcap,Value.int IntKind.i64 ey] 46) (Obj.cells #[Value.bool false,Value.slice none 0 0,Value.int IntKind.i64 0] 46)
 have PZ:Hid _:=pz
 have PB:Hid _:=pb
 have HR:Hid _:=hr
 have HR2:Hid _:=hr2
 clear hr hr2
 have P0:Hid _:=p0
 have P1:Hid _:=p1
 have P2:Hid _:=p2
 have LZ1:Hid (len = 0 ↔ mx = 0):=lz1
 have LZ2:Hid (blen = 0 ↔ my = 0):=lz2
 have HM:Hid (dig xs = mx):=hm
 have HM2:Hid (dig ys = my):=hm2
 clear p0 p1 p2 pz pb lz1 lz2 hm hm2
 by_cases h0:mx = 0
 ·have hl0:len = 0:=LZ1.out.2 h0
  subst hl0
  go_enter Tryz.func31,Tryz.ntmps31
  go_wp2_with fail
  refine bodyPost_ret (v:=.agg #[.bool false,.slice none 0 0,.int .i64 0]) (res_num _ 4 (by kernel_rfl) _ _ (w.heap.size + 1 + 1) _ _ _ (by rfl) P2.out) rfl ⟨_,false,0,rfl,⟨none,0,0,[],rfl,rd4_none' _,.inl rfl,by simp [dig]⟩,fun _=>rfl,fun c=>absurd (by simp) c,PB.out⟩
 have hb0:((len:Int) == 0) = false:=by rw [beq_eq_false_iff_ne];have:=LZ1.out;omega
 by_cases h1:my = 0
 ·have hl0:blen = 0:=LZ2.out.2 h1
  subst hl0
  go_enter Tryz.func31,Tryz.ntmps31
  go_wp2_with fail
  refine bodyPost_ret (v:=.agg #[.bool false,.slice none 0 0,.int .i64 0]) (res_num _ 4 (by kernel_rfl) _ _ (w.heap.size + 1 + 1) _ _ _ (by rfl) P2.out) rfl ⟨_,false,0,rfl,⟨none,0,0,[],rfl,rd4_none' _,.inl rfl,by simp [dig]⟩,fun _=>rfl,fun c=>absurd (by simp) c,PB.out⟩
 have hb1:((blen:Int) == 0) = false:=by rw [beq_eq_false_iff_ne];have:=LZ2.out;omega
 have hmn:mx * my ≠ 0:=Nat.mul_ne_zero h0 h1
 have hwr:IntKind.i64.wrap (ex + ey) = ex + ey:=by rw [IntKind.wrap_i64];omega
 have HMN:Hid (mx * my ≠ 0):=hmn
 go_enter Tryz.func31,Tryz.ntmps31
 go_wp2_with fail
 generalize (((w.alloc (Obj.cells #[Value.bool nx,Value.slice ao len cap,Value.int IntKind.i64 ex] 46)).alloc (Obj.cells #[Value.bool ny,Value.slice bo blen bcap,Value.int IntKind.i64 ey] 46)).alloc (Obj.cells #[Value.bool false,Value.slice none 0 0,Value.int IntKind.i64 0] 46)) = wa at *
 obtain ⟨x0,x1,x2⟩:=three_cells P0.out
 obtain ⟨y0,y1,y2⟩:=three_cells P1.out
 have hne1:¬ (w.heap.size + 1 + 1 = w.heap.size):=by omega
 have hne2:¬ (w.heap.size = w.heap.size + 1 + 1):=by omega
 have R1:Hid _:=HR.out.later PB.out.drew
 have R2:Hid _:=HR2.out.later PB.out.drew
 clear h0 h1 hmn
 go_region_held3 (fun w'=>w'.cell? ⟨w.heap.size,0,none⟩ = some (.bool nx) /\ w'.cell? ⟨w.heap.size,1,none⟩ = some (.slice ao len cap) /\ w'.cell? ⟨w.heap.size,2,none⟩ = some (.int .i64 ex) /\ w'.cell? ⟨w.heap.size + 1,0,none⟩ = some (.bool ny) /\ w'.cell? ⟨w.heap.size + 1,1,none⟩ = some (.slice bo blen bcap) /\ w'.cell? ⟨w.heap.size + 1,2,none⟩ = some (.int .i64 ey)) (go_keep)
  (first
   | (go_at_call 63;refine (times_any ao len cap xs bo blen bcap ys _ R1.out R2.out hl1 hl2).mono ?_;rintro ee ww ⟨ao',k,cap',zs,rfl,hr3,hn3,hd3,hb3,hk3⟩;have b0:=(hb3.block w.heap.size (by show w.heap.size < wa.heap.size;rw [PZ.out];omega)).trans P0.out;have b1:=(hb3.block (w.heap.size + 1) (by show w.heap.size + 1 < wa.heap.size;rw [PZ.out];omega)).trans P1.out;have b2:=(hb3.block (w.heap.size + 1 + 1) (by show w.heap.size + 1 + 1 < wa.heap.size;rw [PZ.out];omega)).trans P2.out;obtain ⟨a0,a1,a2⟩:=three_cells b0;obtain ⟨a3,a4,a5⟩:=three_cells b1;obtain ⟨c0,c1,c2⟩:=three_cells b2;have fc:=(fun j=>frozen_of_row _ _ j _ _ b2);have HBB:Hid (Below w.heap.size w ww):=PB.out.drew.trans (hb3.mono (by show w.heap.size <= wa.heap.size;rw [PZ.out];omega));have R3:Hid _:=hr3;have B2:Hid _:=b2;clear hr3 hb3 b0 b1 b2))
 all_goals go_wp2_with fail
 all_goals
  refine bodyPost_ret (v:=.agg #[.bool (nx != ny),.slice ao' k cap',.int .i64 (ex + ey)]) (res_num _ 4 (by kernel_rfl) _ _ (w.heap.size + 1 + 1) _ _ _ (by rfl) (set3_heap _ _ _ B2.out)) rfl ⟨_,(nx != ny),ex + ey,rfl,?_,?_,?_,?_⟩
  ·exact ⟨ao',k,cap',zs,rfl,rd4_set3 _ _ _ ⟨_,_,_,_,_,B2.out⟩ R3.out,hn3,by rw [hd3,HM.out,HM2.out]⟩
  ·exact fun c=>absurd c HMN.out
  ·exact fun _=>⟨rfl,rfl⟩
  ·exact below_set3 _ _ _ HBB.out (by omega)
attribute [local go_sem] Oper.semAt_some
def sumG (B:List Nat -> Nat) (gs:List (List Nat)):Nat:=(gs.map B).sum
theorem sumG_append (B:List Nat -> Nat) (l m:List (List Nat)):sumG B (l ++ m) = sumG B l + sumG B m:=by unfold sumG;rw [List.map_append,List.sum_append]
theorem sumG_one (B:List Nat -> Nat) (g:List Nat):sumG B [g] = B g:=by simp [sumG]
theorem timesC_any (v u:Value) (s:Nat) (T T' x y:Int) (w:World) (hx:NumZ w v s T x) (hy:NumZ w u s T' y) (hs:s <= 10000) (hT:0 <= T /\ T <= 10000) (hT':0 <= T' /\ T' <= 10000) :
  Calls Tryz.prog 31 #[v,u] w fun e' w'=>∃ v',e' = .returned v' /\ NumC w' v' (s + s) (T + T') (x * y) /\ Below w.heap.size w w':=by
 obtain ⟨nx,mx,ex,h1,h2,h3,h4⟩:=hx
 obtain ⟨ny,my,ey,k1,k2,k3,k4⟩:=hy
 refine (timesV_any v u nx ny mx my ex ey w h1 k1 (by omega) (by omega) (by omega) (by omega)).mono ?_
 rintro e' w' ⟨v',neg,e,rfl,hN,hz,hnz,hB⟩
 refine ⟨v',rfl,⟨neg,mx * my,e,hN,?_,?_,?_,hz⟩,hB⟩
 ·by_cases h:mx * my = 0
  ·rw [hz h];omega
  ·rw [(hnz h).2];omega
 ·by_cases h:mx * my = 0
  ·rw [hz h,h,bl_zero];omega
  ·have:=bl_mul mx my
   rw [(hnz h).2];omega
 ·rw [<- h4,<- k4,<- zv_mul nx ny mx my h2 k2]
  by_cases h:mx * my = 0
  ·rw [h,zv_zero,zv_zero]
  ·rw [(hnz h).1,(hnz h).2]
structure BxN (w:World) (B s:Nat) (T z:Int) (n:Bool) (o:Option Addr) (l c:Nat) (e:Int):Prop where
 row:w.heap[B]? = some (.cells #[.bool n,.slice o l c,.int .i64 e] 46)
 num:NumC w (.agg #[.bool n,.slice o l c,.int .i64 e]) s T z
theorem sumG_le {B:List Nat -> Nat} {M:Nat}:∀ (gs:List (List Nat)),(∀ g ∈ gs,B g <= M) -> sumG B gs <= gs.length * M
 | [],_=>by simp [sumG]
 | g :: gs,h=>by
  have h1:=sumG_le gs fun x hx=>h x (List.mem_cons_of_mem _ hx)
  have h2:=h g List.mem_cons_self
  have h3:sumG B (g :: gs) = B g + sumG B gs:=rfl
  rw [h3,List.length_cons,Nat.succ_mul]
  omega
theorem sumG_take {B:List Nat -> Nat} {gs:List (List Nat)} {k:Nat} (h:k < gs.length):sumG B (gs.take (k + 1)) = sumG B (gs.take k) + B (gs[k]?.getD []):=by
 rw [take_snocG h,sumG_append,sumG_one]
theorem RowN.lenV {w:World} {base E:Nat} {a:Option Addr} {l c:Nat} {us:List Nat} (h:RowN w base (.slice a l c) E us):l = us.length:=by
 obtain ⟨ao,cap,h1⟩:=h.form
 injection h1
def farV (rs:List Nat) (gs:List (List Nat)) (i:Nat):Int:=fval (rs[i]?.getD 0) + (sumG (fun g=>rmag (frung (g[i]?.getD 0))) gs:Nat)
def colV (gs:List (List Nat)) (es:List Int) (i:Nat):Nat -> Int
 | 0=>0
 | k + 1=>colV gs es i k + (es[k]?.getD 0) * fval ((gs[k]?.getD [])[i]?.getD 0)
def absG (i:Nat) (gs:List (List Nat)):Nat:=sumG (fun g=>rmag (frung (g[i]?.getD 0))) gs
theorem colV_abs {A i:Nat} {gs:List (List Nat)} {es:List Int} (he:∀ k:Nat,(es[k]?.getD 0).natAbs <= A):∀ k,k <= gs.length -> (colV gs es i k).natAbs <= A * absG i (gs.take k)
 | 0,_=>by simp [colV]
 | k + 1,hk=>by
  have h1:=colV_abs (i:=i) (gs:=gs) he k (by omega)
  unfold absG at h1 ⊢
  rw [sumG_take (by omega),Nat.mul_add]
  have h2:colV gs es i (k + 1) = colV gs es i k + (es[k]?.getD 0) * fval ((gs[k]?.getD [])[i]?.getD 0):=rfl
  have h3:((es[k]?.getD 0) * fval ((gs[k]?.getD [])[i]?.getD 0)).natAbs <= A * rmag (frung ((gs[k]?.getD [])[i]?.getD 0)):=by
   rw [Int.natAbs_mul,fval_absJ]
   exact Nat.mul_le_mul_right _ (he k)
  rw [h2]
  have h4:=Int.natAbs_add_le (colV gs es i k) ((es[k]?.getD 0) * fval ((gs[k]?.getD [])[i]?.getD 0))
  omega
def ptK (A:Nat) (cs rs:List Nat) (gs:List (List Nat)) (es bs:List Int) (i k:Nat):Int:=fval (cs[i]?.getD 0) * (A:Int) + (bs[i]?.getD 0) * fval (rs[i]?.getD 0) + colV gs es i k
theorem mem_getD {P:Int -> Prop} {l:List Int} (h0:P 0) (h:∀ z ∈ l,P z) (k:Nat):P (l[k]?.getD 0):=by
 by_cases hk:k < l.length
 ·rw [List.getElem?_eq_getElem hk,Option.getD_some];exact h _ (List.getElem_mem hk)
 ·rw [List.getElem?_eq_none (by omega),Option.getD_none];exact h0
theorem pt_bound {A E X i:Nat} {cs rs:List Nat} {gs:List (List Nat)} {es bs:List Int} (hA:A = 2 ^ E) (hE:E = 1074) (hX:X = 3208) (hc:Fin (cs[i]?.getD 0)) (hr:Fin (rs[i]?.getD 0)) (hg:∀ k:Nat,Fin ((gs[k]?.getD [])[i]?.getD 0)) (few:gs.length <= 1050000) (he:∀ k:Nat,(es[k]?.getD 0).natAbs <= A) (hb:(bs[i]?.getD 0).natAbs <= A) (k:Nat) (hk:k <= gs.length):(ptK A cs rs gs es bs i k).natAbs < 2 ^ X:=by
 obtain ⟨F,hF⟩:∃ F:Nat,F = 2098:=⟨_,rfl⟩
 have h1:=fval_ltJ hc hF
 have h2:=fval_ltJ hr hF
 have h3:absG i (gs.take k) <= (gs.take k).length * 2 ^ F:=sumG_le (M:=2 ^ F) _ fun g hgg=>by
  obtain ⟨j,hj,rfl⟩:=List.getElem_of_mem (List.mem_of_mem_take hgg)
  have:=hg j
  rw [List.getElem?_eq_getElem hj] at this
  exact Nat.le_of_lt (fval_ltJ this hF)
 rw [List.length_take] at h3
 have h4:=colV_abs (i:=i) he k hk
 have h5:(fval (cs[i]?.getD 0) * (A:Int)).natAbs <= A * 2 ^ F:=by
  rw [Int.natAbs_mul,fval_absJ,Int.natAbs_natCast,Nat.mul_comm]
  exact Nat.mul_le_mul_left _ (Nat.le_of_lt h1)
 have h6:((bs[i]?.getD 0) * fval (rs[i]?.getD 0)).natAbs <= A * 2 ^ F:=by
  rw [Int.natAbs_mul,fval_absJ]
  exact Nat.mul_le_mul hb (Nat.le_of_lt h2)
 have h7:A * absG i (gs.take k) <= A * (1050000 * 2 ^ F):=Nat.mul_le_mul_left _ (Nat.le_trans h3 (Nat.mul_le_mul_right _ (by omega)))
 have h8:A * (1050000 * 2 ^ F) = 1050000 * (A * 2 ^ F):=by rw [<- Nat.mul_assoc,Nat.mul_comm A,Nat.mul_assoc]
 have h9:2097152 * (A * 2 ^ F) <= 2 ^ X:=by
  rw [hA,<- Nat.pow_add,show (2097152:Nat) = 2 ^ 21 by decide,<- Nat.pow_add]
  exact Nat.pow_le_pow_right (by omega) (by omega)
 have h10:0 < A * 2 ^ F:=Nat.mul_pos (by rw [hA];exact Nat.two_pow_pos _) (Nat.two_pow_pos _)
 unfold ptK
 have g1:=Int.natAbs_add_le (fval (cs[i]?.getD 0) * (A:Int) + (bs[i]?.getD 0) * fval (rs[i]?.getD 0)) (colV gs es i k)
 have g2:=Int.natAbs_add_le (fval (cs[i]?.getD 0) * (A:Int)) ((bs[i]?.getD 0) * fval (rs[i]?.getD 0))
 generalize A * 2 ^ F = Q at *
 generalize 2 ^ X = Y at *
 omega
def ptV (A:Nat) (cs rs:List Nat) (gs:List (List Nat)) (es bs:List Int) (n:Nat):List Int:=(List.range n).map fun i=>ptK A cs rs gs es bs i gs.length
theorem ptV_len (A:Nat) (cs rs:List Nat) (gs:List (List Nat)) (es bs:List Int) (n:Nat):(ptV A cs rs gs es bs n).length = n:=by unfold ptV;simp
theorem ptV_snoc (A:Nat) (cs rs:List Nat) (gs:List (List Nat)) (es bs:List Int) (n:Nat):ptV A cs rs gs es bs (n + 1) = ptV A cs rs gs es bs n ++ [ptK A cs rs gs es bs n gs.length]:=by unfold ptV;rw [List.range_succ,List.map_append];rfl
theorem ptV_at {A:Nat} {cs rs:List Nat} {gs:List (List Nat)} {es bs:List Int} {n i:Nat} (h:i < n):(ptV A cs rs gs es bs n)[i]?.getD 0 = ptK A cs rs gs es bs i gs.length:=by unfold ptV;simp [h]
theorem allocNJ (w:World):(Instr.alloc 46 true (.tuple #[])).run Tryz.prog w = .ok (.pointer (some ⟨w.heap.size,0,none⟩)) (w.alloc (.cells #[.bool false,.slice none 0 0,.int .i64 0] 46)):=by kernel_rfl
theorem point_any (n0:Nat) (a1:Option Addr) (l1 c1:Nat) (a2:Option Addr) (l2 c2:Nat) (a3:Option Addr) (l3 c3:Nat) (a4:Option Addr) (l4 c4:Nat) (cs rs:List Nat) (ids:List Int) (gs:List (List Nat)) (gl:List Value) (ve vr:Value) (es bs:List Int) (base B1 B2 E:Nat) (hE:E = 1074) (w:World) (h:RlS w base E cs rs ids gs (.slice a1 l1 c1) (.slice a4 l4 c4) (.slice a2 l2 c2) (.slice a3 l3 c3) gl) (he:RowZ w B1 ve E 1024 es) (hb:RowZ w B2 vr E 1024 bs) (hel:es.length = gs.length) (hbl:bs.length = n0) (hea:∀ z ∈ es,z.natAbs <= 2 ^ E) (hba:∀ z ∈ bs,z.natAbs <= 2 ^ E) (hc:cs.length = n0) (hr:rs.length = n0) (hg:∀ k,k < gs.length -> (gs[k]?.getD []).length = n0) (hfc:∀ i:Nat,Fin (cs[i]?.getD 0)) (hfr:∀ i:Nat,Fin (rs[i]?.getD 0)) (hfg:∀ k i:Nat,Fin ((gs[k]?.getD [])[i]?.getD 0)) (few:gs.length <= 1050000) (hn:n0 <= 256) :
  Calls Tryz.prog 9 #[.agg #[.int .i64 (n0:Int),.slice a1 l1 c1,.slice a2 l2 c2,.slice a3 l3 c3,.slice a4 l4 c4],ve,vr] w fun e w'=>∃ v,e = .returned v /\ RowZ w' w.heap.size v (E + E) 1060 (ptV (2 ^ E) cs rs gs es bs n0) /\ Below w.heap.size w w':=by
 have HE:Hid (E = 1074):=hE
 have hl3:=h.lenG
 have hl1:=((RowN.lenV h.c).trans hc).symm
 have hl4:=((RowN.lenV h.r).trans hr).symm
 subst hl3 hl1 hl4
 obtain ⟨ea,ec,hve⟩:=he.form
 obtain ⟨ra,rc,hvr⟩:=hb.form
 rw [hel] at hve
 rw [hbl] at hvr
 subst hve hvr
 have HR:Hid (∀ W',Below w.heap.size w W' -> RlS W' base E cs rs ids gs (.slice a1 n0 c1) (.slice a4 n0 c4) (.slice a2 l2 c2) (.slice a3 gs.length c3) gl /\ RowZ W' B1 (.slice ea gs.length ec) E 1024 es /\ RowZ W' B2 (.slice ra n0 rc) E 1024 bs):=fun W' hb'=>⟨h.later hb',he.later hb',hb.later hb'⟩
 have HEA:Hid (∀ k:Nat,(es[k]?.getD 0).natAbs <= 2 ^ E):=fun k=>mem_getD (P:=fun z=>z.natAbs <= 2 ^ E) (Nat.zero_le _) hea k
 have HBA:Hid (∀ k:Nat,(bs[k]?.getD 0).natAbs <= 2 ^ E):=fun k=>mem_getD (P:=fun z=>z.natAbs <= 2 ^ E) (Nat.zero_le _) hba k
 have HL:Hid (es.length = gs.length /\ bs.length = n0 /\ cs.length = n0 /\ rs.length = n0 /\ ∀ k,k < gs.length -> (gs[k]?.getD []).length = n0):=⟨hel,hbl,hc,hr,hg⟩
 have HTI:Hid (∀ (W:World) (v:Value) (T:Int) (i k:Nat),k <= gs.length -> NumC W v (E + E) T (ptK (2 ^ E) cs rs gs es bs i k) -> NumC W v (E + E) 1060 (ptK (2 ^ E) cs rs gs es bs i k)):=fun W v T i k hk hz=>by
  obtain ⟨X9,hX9⟩:∃ X9:Nat,X9 = 3208:=⟨_,rfl⟩
  exact NumC.tight hz (by omega) (by rw [hX9,hE];rfl) (pt_bound rfl hE hX9 (hfc i) (hfr i) (fun k=>hfg k i) few HEA.out (HBA.out i) k hk)
 have hgm:gs.length <= 1050000:=few
 clear h he hb hel hbl hc hr hg hfc hfr hfg few hE hea hba
 have X0:Below w.heap.size w (w.alloc (.cells #[.int .i64 (n0:Int),.slice a1 n0 c1,.slice a2 l2 c2,.slice a3 gs.length c3,.slice a4 n0 c4] 30)):=(Below.refl _ w).alloc (Nat.le_refl _) _
 have Y0:(w.alloc (.cells #[.int .i64 (n0:Int),.slice a1 n0 c1,.slice a2 l2 c2,.slice a3 gs.length c3,.slice a4 n0 c4] 30)).heap[w.heap.size]? = some (.cells #[.int .i64 (n0:Int),.slice a1 n0 c1,.slice a2 l2 c2,.slice a3 gs.length c3,.slice a4 n0 c4] 30):=heap_alloc_new w _
 go_enter Tryz.func9,Tryz.ntmps9
 go_upto_region 1 with fail
 obtain ⟨X,hX⟩:∃ X,(w.alloc (.cells #[.int .i64 (n0:Int),.slice a1 n0 c1,.slice a2 l2 c2,.slice a3 gs.length c3,.slice a4 n0 c4] 30)) = X:=⟨_,rfl⟩
 rw [hX] at X0 Y0 ⊢
 have HX:Hid (Below w.heap.size w X /\ X.heap[w.heap.size]? = some (.cells #[.int .i64 (n0:Int),.slice a1 n0 c1,.slice a2 l2 c2,.slice a3 gs.length c3,.slice a4 n0 c4] 30)):=⟨X0,Y0⟩
 clear hX X0 Y0
 go_wp2_with fail
 go_loopg [7,8] n0 (fun q v iv wx=>∃ (i:Nat),iv = .int .i64 i /\ i + q = n0 /\ Hid (RowZ wx w.heap.size v (E + E) 1060 (ptV (2 ^ E) cs rs gs es bs i)) /\ Hid (Below w.heap.size w wx /\ wx.heap[w.heap.size]? = some (.cells #[.int .i64 (n0:Int),.slice a1 n0 c1,.slice a2 l2 c2,.slice a3 gs.length c3,.slice a4 n0 c4] 30)))
 case atStart=>exact ⟨0,rfl,by omega,RowZ.nil _ _ _ _,HX⟩
 case round=>
  obtain ⟨i,rfl,hk,HO,HB⟩:=hrel
  obtain ⟨Y,hY⟩:∃ Y,wr = Y:=⟨_,rfl⟩
  rw [hY] at HO HB ⊢
  clear hY wr
  have k0:Y.cell? ⟨w.heap.size,0,none⟩ = some (.int .i64 (n0:Int)):=cellAtJ HB.out.2 0 _ rfl
  by_cases hlt:i < n0
  ·have hd:decide ((i:Int) < (n0:Int)) = true:=decide_eq_true (by omega)
   obtain ⟨q,rfl⟩:∃ q,gk = q + 1:=⟨gk - 1,by omega⟩
   have HIG:Hid _:=hk
   have hi:(i:Int) < (n0:Int):=by omega
   clear hk
   go_upto_region 5 with fail
   obtain ⟨hRl,hRe,hRb⟩:=HR.out Y HB.out.1
   obtain ⟨g1,q1,cn,co,cl,cc,ce,v1,r1,z1⟩:=RowN.range hRl.c (k:=i) (by rw [HL.out.2.2.1];exact hlt)
   obtain ⟨g4,q4,rn,ro,rl0,rc0,re,v4,r4,z4⟩:=RowN.range hRl.r (k:=i) (by rw [HL.out.2.2.2.1];exact hlt)
   obtain ⟨gb,qb,bn,bo,bl0,bc,be,vb,rb,zb⟩:=RowZ.range hRb (k:=i) (by rw [HL.out.2.1];exact hlt)
   rw [HL.out.2.2.1] at v1
   rw [HL.out.2.2.2.1] at v4
   rw [HL.out.2.1] at vb
   have C1:Hid (Y.cell? ⟨w.heap.size,1,none⟩ = some (.slice (some ⟨g1,0,none⟩) n0 q1)):=by rw [<- v1];exact cellAtJ HB.out.2 1 _ rfl
   have C4:Hid (Y.cell? ⟨w.heap.size,4,none⟩ = some (.slice (some ⟨g4,0,none⟩) n0 q4)):=by rw [<- v4];exact cellAtJ HB.out.2 4 _ rfl
   have R1:Hid (Y.rangeAt g1 (i * 3) [.bool cn,.slice co cl cc,.int .i64 ce]):=r1
   have R2:Hid (Y.rangeAt gb (i * 3) [.bool bn,.slice bo bl0 bc,.int .i64 be]):=rb
   have R4:Hid (Y.rangeAt g4 (i * 3) [.bool rn,.slice ro rl0 rc0,.int .i64 re]):=r4
   have Z1:Hid _:=z1
   have Z2:Hid _:=zb
   have Z4:Hid _:=z4
   have HRA:Hid (ra = some ⟨gb,0,none⟩):=by injection vb
   clear r1 rb r4 z1 zb z4 v1 v4 vb hRl hRe hRb k0 hd
   go_cut [9] (fun v9 wx=>∃ (D:Nat) (n:Bool) (o:Option Addr) (l c:Nat) (e:Int),v9 = .pointer (some ⟨D,0,none⟩) /\ Hid (BxN wx D (E + E) 1060 (ptK (2 ^ E) cs rs gs es bs i 0) n o l c e) /\ Y.heap.size <= D /\ Hid (Below Y.heap.size Y wx))
   case first=>
    have hra:=HRA.out
    subst hra
    have bX:Below Y.heap.size Y Y.drew:=(Below.refl _ _).drew
    refine wp_region_noPanic ?_
    refine wp_region_held_drew (S:=(fun V=>Below Y.heap.size Y V)) (by kernel_rfl) bX (fun _=>?_)
    refine tzI 17 0 ?_ ?_ bX ?_
    rotate_left
    ·intro w' hSw;have s1:=cell_later C1.out hSw;have s4:=cell_later C4.out hSw;go_simp;try with_reducible rfl
    try simp only [pA,pE,pB,pC,pD]
    refine tzI 18 1 ?_ ?_ bX ?_
    rotate_left
    ·intro w' hSw;have s1:=cell_later C1.out hSw;have s4:=cell_later C4.out hSw;go_simp;try with_reducible rfl
    try simp only [pA,pE,pB,pC,pD]
    refine tzI 19 2 ?_ ?_ bX ?_
    rotate_left
    ·intro w' hSw;have s1:=cell_later C1.out hSw;have s4:=cell_later C4.out hSw;go_simp;try with_reducible rfl
    try simp only [pA,pE,pB,pC,pD]
    refine tzI 20 3 ?_ ?_ bX ?_
    rotate_left
    ·intro w' hSw;have s1:=cell_later C1.out hSw;have s4:=cell_later C4.out hSw;go_simp;try with_reducible rfl
    try simp only [pA,pE,pB,pC,pD]
    refine tzH 21 4 (.agg #[.bool cn,.slice co cl cc,.int .i64 ce]) (yieldsIf_load_mid (by kernel_rfl) 46 _ rfl g1 (i * 3) (by kernel_rfl) #[.bool cn,.slice co cl cc,.int .i64 ce].toList _ (fun V' hS=>(range_later R1.out hS:V'.rangeAt g1 (i * 3) [.bool cn,.slice co cl cc,.int .i64 ce])) Tryz.underlying46 rfl (by kernel_rfl)) bX ?_
    try simp only [pA,pE,pB,pC,pD]
    refine tzI 22 5 ?_ ?_ bX ?_
    rotate_left
    ·intro w' hSw;have s1:=cell_later C1.out hSw;have s4:=cell_later C4.out hSw;go_simp;try with_reducible rfl
    try simp only [pA,pE,pB,pC,pD]
    refine tzI 23 6 ?_ ?_ bX ?_
    rotate_left
    ·intro w' hSw;have s1:=cell_later C1.out hSw;have s4:=cell_later C4.out hSw;go_simp;try with_reducible rfl
    try simp only [pA,pE,pB,pC,pD]
    refine tzI 24 7 ?_ ?_ bX ?_
    rotate_left
    ·intro w' hSw;have s1:=cell_later C1.out hSw;have s4:=cell_later C4.out hSw;go_simp;try with_reducible rfl
    try simp only [pA,pE,pB,pC,pD]
    refine tzH 25 8 (.agg #[.bool bn,.slice bo bl0 bc,.int .i64 be]) (yieldsIf_load_mid (by kernel_rfl) 46 _ rfl gb (i * 3) (by kernel_rfl) #[.bool bn,.slice bo bl0 bc,.int .i64 be].toList _ (fun V' hS=>(range_later R2.out hS:V'.rangeAt gb (i * 3) [.bool bn,.slice bo bl0 bc,.int .i64 be])) Tryz.underlying46 rfl (by kernel_rfl)) bX ?_
    try simp only [pA,pE,pB,pC,pD]
    refine tzI 26 9 ?_ ?_ bX ?_
    rotate_left
    ·intro w' hSw;have s1:=cell_later C1.out hSw;have s4:=cell_later C4.out hSw;go_simp;try with_reducible rfl
    try simp only [pA,pE,pB,pC,pD]
    refine tzI 27 10 ?_ ?_ bX ?_
    rotate_left
    ·intro w' hSw;have s1:=cell_later C1.out hSw;have s4:=cell_later C4.out hSw;go_simp;try with_reducible rfl
    try simp only [pA,pE,pB,pC,pD]
    refine tzI 28 11 ?_ ?_ bX ?_
    rotate_left
    ·intro w' hSw;have s1:=cell_later C1.out hSw;have s4:=cell_later C4.out hSw;go_simp;try with_reducible rfl
    try simp only [pA,pE,pB,pC,pD]
    refine tzI 29 12 ?_ ?_ bX ?_
    rotate_left
    ·intro w' hSw;have s1:=cell_later C1.out hSw;have s4:=cell_later C4.out hSw;go_simp;try with_reducible rfl
    try simp only [pA,pE,pB,pC,pD]
    refine tzH 30 13 (.agg #[.bool rn,.slice ro rl0 rc0,.int .i64 re]) (yieldsIf_load_mid (by kernel_rfl) 46 _ rfl g4 (i * 3) (by kernel_rfl) #[.bool rn,.slice ro rl0 rc0,.int .i64 re].toList _ (fun V' hS=>(range_later R4.out hS:V'.rangeAt g4 (i * 3) [.bool rn,.slice ro rl0 rc0,.int .i64 re])) Tryz.underlying46 rfl (by kernel_rfl)) bX ?_
    try simp only [pA,pE,pB,pC,pD]
    obtain ⟨V,hV⟩:∃ V,Y.drew = V:=⟨_,rfl⟩
    have bV:Below Y.heap.size Y V:=hV ▸ bX
    rw [hV]
    clear hV bX
    refine rzH [14,16] ?_
    refine consH _ rfl ?_ (consH _ rfl ?_ AllReadyH.nil)
    ·refine hzC 31 (Calls.mono (timesC_any _ _ E 1024 1024 _ _ _ (NumC.later Z2.out bV).toZ (NumC.later Z4.out bV).toZ (by rw [HE.out];omega) (by omega) (by omega)) ?_)
     rintro e Va ⟨v1,rfl,hz1,hb⟩
     obtain ⟨n1,o1,t1,p1,x1,hv1⟩:=hz1.form
     subst hv1
     have bVa:Below Y.heap.size Y Va:=bV.trans (hb.mono bV.size)
     have zaVa:NumC Va (.agg #[.bool n1,.slice o1 t1 p1,.int .i64 x1]) (E + E) (1024 + 1024) (bs[i]?.getD 0 * fval (rs[i]?.getD 0)):=hz1
     clear hb hz1
     refine ⟨_,rfl,bVa,?_⟩
     try simp only [pA,pE,pB,pC,pD]
     refine rzH [15,16] ?_
     refine consH _ rfl ?_ (consH _ rfl ?_ AllReadyH.nil)
     ·refine hzC 32 (Calls.mono (plusC_any _ _ (E + E) (1024 + 1024) _ _ _ (((NumC.later Z1.out bVa).moreJ E).mono (by omega)) zaVa (by rw [HE.out];omega) (by omega)) ?_)
      rintro e Vb ⟨v2,rfl,hz2,hb⟩
      obtain ⟨n2,o2,t2,p2,x2,hv2⟩:=hz2.form
      subst hv2
      have bVb:Below Y.heap.size Y Vb:=bVa.trans (hb.mono bVa.size)
      have zbVb:NumC Vb (.agg #[.bool n2,.slice o2 t2 p2,.int .i64 x2]) (E + E) (1024 + 1024 + 1) (fval (cs[i]?.getD 0) * ((2 ^ E:Nat):Int) + (bs[i]?.getD 0 * fval (rs[i]?.getD 0))):=hz2
      clear hb hz2 zaVa
      refine ⟨_,rfl,bVb,?_⟩
      try simp only [pA,pE,pB,pC,pD]
      refine rzH [16] ?_
      refine consH _ rfl ?_ AllReadyH.nil
      refine hopAJ 9 rfl rfl rfl 46 rfl #[.bool false,.slice none 0 0,.int .i64 0] allocNJ fun D Vc hDVc hDl hb=>?_
      have bVc:Below Y.heap.size Y Vc:=bVb.trans (hb.mono bVb.size)
      have hDX:Y.heap.size <= D:=Nat.le_trans bVb.size hDl
      have zbVc:=NumC.later zbVb hb
      clear hb hDl
      refine ⟨bVc,?_⟩
      try simp only [pA,pE,pB,pC,pD]
      refine rzH [17] ?_
      refine consH _ rfl (hopL rfl (wpList_store_row (by rfl) 46 _ _ (by rfl) Y Y.heap.size D #[.bool n2,.slice o2 t2 p2,.int .i64 x2] _ (by kernel_rfl) (by kernel_rfl) hDVc bVc hDX 3 Tryz.infoN3 (by rfl) (by rfl) (oneN _ _ _ _ _) fun W9 e9 b9 hs9 ho9=>?_)) AllReadyH.nil
      refine (And.intro b9 ?_:_ /\ _)
      try simp only [pA,pE,pB,pC,pD]
      refine wpAnyH_done (by kernel_rfl) ?_ _
      refine NoPanic.normal ?_
      try simp only [pA,pE,pB,pC,pD]
      go_wp2_with fail
      go_meet
      exact ⟨D,n2,o2,t2,p2,x2,rfl,⟨e9,HTI.out _ _ _ i 0 (Nat.zero_le _) (by have h9:=zbVc.cl (num_cl hDVc) (fun b hb _=>ho9 b hb);unfold ptK colV;rw [Int.add_zero];exact h9)⟩,hDX,b9⟩
     ·refine hopAJ 9 rfl rfl rfl 46 rfl #[.bool false,.slice none 0 0,.int .i64 0] allocNJ fun D Vd hDVd hDl hb=>?_
      have bVd:Below Y.heap.size Y Vd:=bVa.trans (hb.mono bVa.size)
      have hDX:Y.heap.size <= D:=Nat.le_trans bVa.size hDl
      have zaVd:=NumC.later zaVa hb
      clear hb hDl
      refine ⟨bVd,?_⟩
      try simp only [pA,pE,pB,pC,pD]
      refine rzH [15] ?_
      refine consH _ rfl ?_ AllReadyH.nil
      refine hzC 32 (Calls.mono (plusC_any _ _ (E + E) (1024 + 1024) _ _ _ (((NumC.later Z1.out bVd).moreJ E).mono (by omega)) zaVd (by rw [HE.out];omega) (by omega)) ?_)
      rintro e Ve ⟨v2,rfl,hz2,hb⟩
      obtain ⟨n2,o2,t2,p2,x2,hv2⟩:=hz2.form
      subst hv2
      have bVe:Below Y.heap.size Y Ve:=bVd.trans (hb.mono bVd.size)
      have hDVe:=kept hb hDVd
      have zbVe:NumC Ve (.agg #[.bool n2,.slice o2 t2 p2,.int .i64 x2]) (E + E) (1024 + 1024 + 1) (fval (cs[i]?.getD 0) * ((2 ^ E:Nat):Int) + (bs[i]?.getD 0 * fval (rs[i]?.getD 0))):=hz2
      clear hb hz2 zaVd
      refine ⟨_,rfl,bVe,?_⟩
      try simp only [pA,pE,pB,pC,pD]
      refine rzH [17] ?_
      refine consH _ rfl (hopL rfl (wpList_store_row (by rfl) 46 _ _ (by rfl) Y Y.heap.size D #[.bool n2,.slice o2 t2 p2,.int .i64 x2] _ (by kernel_rfl) (by kernel_rfl) hDVe bVe hDX 3 Tryz.infoN3 (by rfl) (by rfl) (oneN _ _ _ _ _) fun W9 e9 b9 hs9 ho9=>?_)) AllReadyH.nil
      refine (And.intro b9 ?_:_ /\ _)
      try simp only [pA,pE,pB,pC,pD]
      refine wpAnyH_done (by kernel_rfl) ?_ _
      refine NoPanic.normal ?_
      try simp only [pA,pE,pB,pC,pD]
      go_wp2_with fail
      go_meet
      exact ⟨D,n2,o2,t2,p2,x2,rfl,⟨e9,HTI.out _ _ _ i 0 (Nat.zero_le _) (by have h9:=zbVe.cl (num_cl hDVe) (fun b hb _=>ho9 b hb);unfold ptK colV;rw [Int.add_zero];exact h9)⟩,hDX,b9⟩
    ·refine hopAJ 9 rfl rfl rfl 46 rfl #[.bool false,.slice none 0 0,.int .i64 0] allocNJ fun D Vf hDVf hDl hb=>?_
     have bVf:Below Y.heap.size Y Vf:=bV.trans (hb.mono bV.size)
     have hDX:Y.heap.size <= D:=Nat.le_trans bV.size hDl
     clear hb hDl
     refine ⟨bVf,?_⟩
     try simp only [pA,pE,pB,pC,pD]
     refine rzH [14] ?_
     refine consH _ rfl ?_ AllReadyH.nil
     refine hzC 31 (Calls.mono (timesC_any _ _ E 1024 1024 _ _ _ (NumC.later Z2.out bVf).toZ (NumC.later Z4.out bVf).toZ (by rw [HE.out];omega) (by omega) (by omega)) ?_)
     rintro e Vg ⟨v1,rfl,hz1,hb⟩
     obtain ⟨n1,o1,t1,p1,x1,hv1⟩:=hz1.form
     subst hv1
     have bVg:Below Y.heap.size Y Vg:=bVf.trans (hb.mono bVf.size)
     have hDVg:=kept hb hDVf
     have zaVg:NumC Vg (.agg #[.bool n1,.slice o1 t1 p1,.int .i64 x1]) (E + E) (1024 + 1024) (bs[i]?.getD 0 * fval (rs[i]?.getD 0)):=hz1
     clear hb hz1
     refine ⟨_,rfl,bVg,?_⟩
     try simp only [pA,pE,pB,pC,pD]
     refine rzH [15] ?_
     refine consH _ rfl ?_ AllReadyH.nil
     refine hzC 32 (Calls.mono (plusC_any _ _ (E + E) (1024 + 1024) _ _ _ (((NumC.later Z1.out bVg).moreJ E).mono (by omega)) zaVg (by rw [HE.out];omega) (by omega)) ?_)
     rintro e Vh ⟨v2,rfl,hz2,hb⟩
     obtain ⟨n2,o2,t2,p2,x2,hv2⟩:=hz2.form
     subst hv2
     have bVh:Below Y.heap.size Y Vh:=bVg.trans (hb.mono bVg.size)
     have hDVh:=kept hb hDVg
     have zbVh:NumC Vh (.agg #[.bool n2,.slice o2 t2 p2,.int .i64 x2]) (E + E) (1024 + 1024 + 1) (fval (cs[i]?.getD 0) * ((2 ^ E:Nat):Int) + (bs[i]?.getD 0 * fval (rs[i]?.getD 0))):=hz2
     clear hb hz2 zaVg
     refine ⟨_,rfl,bVh,?_⟩
     try simp only [pA,pE,pB,pC,pD]
     refine rzH [17] ?_
     refine consH _ rfl (hopL rfl (wpList_store_row (by rfl) 46 _ _ (by rfl) Y Y.heap.size D #[.bool n2,.slice o2 t2 p2,.int .i64 x2] _ (by kernel_rfl) (by kernel_rfl) hDVh bVh hDX 3 Tryz.infoN3 (by rfl) (by rfl) (oneN _ _ _ _ _) fun W9 e9 b9 hs9 ho9=>?_)) AllReadyH.nil
     refine (And.intro b9 ?_:_ /\ _)
     try simp only [pA,pE,pB,pC,pD]
     refine wpAnyH_done (by kernel_rfl) ?_ _
     refine NoPanic.normal ?_
     try simp only [pA,pE,pB,pC,pD]
     go_wp2_with fail
     go_meet
     exact ⟨D,n2,o2,t2,p2,x2,rfl,⟨e9,HTI.out _ _ _ i 0 (Nat.zero_le _) (by have h9:=zbVh.cl (num_cl hDVh) (fun b hb _=>ho9 b hb);unfold ptK colV;rw [Int.add_zero];exact h9)⟩,hDX,b9⟩
   case rest=>
    obtain ⟨D,n,o,l,c,e,rfl,HN,hDX,HBD⟩:=hcut
    have HDX:Hid _:=hDX
    have P0:Hid (BxN wc D (E + E) 1060 (ptK (2 ^ E) cs rs gs es bs i 0) n o l c e /\ Below Y.heap.size Y wc):=⟨HN.out,HBD.out⟩
    clear hDX HN HBD C1 C4 R1 R2 R4 Z1 Z2 Z4 HRA
    go_wp2_with fail
    go_loopg [10] gs.length (fun q v10 wx=>∃ (k:Nat),v10 = .int .i64 k /\ k + q = gs.length /\ ∃ (n:Bool) (o:Option Addr) (l c:Nat) (e:Int),Hid (BxN wx D (E + E) 1060 (ptK (2 ^ E) cs rs gs es bs i k) n o l c e /\ Below Y.heap.size Y wx))
    case atStart=>exact ⟨0,rfl,by omega,n,o,l,c,e,P0⟩
    case round=>
     obtain ⟨k,rfl,hk,n,o,l,c,e,HI⟩:=hrel
     clear P0
     have k3:wr.cell? ⟨w.heap.size,3,none⟩ = some (.slice a3 gs.length c3):=cellAtJ (kept HI.out.2 HB.out.2) 3 _ rfl
     by_cases h1:k < gs.length
     ·have hd1:decide ((k:Int) < (gs.length:Int)) = true:=decide_eq_true (by omega)
      obtain ⟨q',rfl⟩:∃ q,gk = q + 1:=⟨gk - 1,by omega⟩
      have HIK:Hid _:=hk
      clear hk
      go_upto_region 9 with fail
      obtain ⟨hRl,hRe,hRb⟩:=HR.out wr (to_call HB.out.1 HI.out.2)
      obtain ⟨g,b,cap,gn,go,gl0,gc,ge,hg3,hc1,hc2,hc3⟩:=RlS.elem hRl h1 (HL.out.2.2.2.2 k h1) hlt
      obtain ⟨ge0,qe,en,eo,el0,ec0,ee,ve',re',ze⟩:=RowZ.range hRe (k:=k) (by rw [HL.out.1];exact h1)
      rw [HL.out.1] at ve'
      have C3:Hid (wr.cell? ⟨w.heap.size,3,none⟩ = some (.slice (some ⟨g,0,none⟩) gs.length c3)):=by rw [<- hg3];exact k3
      have C5:Hid _:=hc1
      have R5:Hid (wr.rangeAt ge0 (k * 3) [.bool en,.slice eo el0 ec0,.int .i64 ee]):=re'
      have R6:Hid (wr.rangeAt b (i * 3) [.bool gn,.slice go gl0 gc,.int .i64 ge]):=hc2
      have Z5:Hid _:=ze
      have Z6:Hid _:=hc3
      have hea:ea = some ⟨ge0,0,none⟩:=by injection ve'
      have hk0:(k:Int) < (gs.length:Int):=by omega
      subst hea
      clear hc1 hc2 hc3 re' ze ve' hg3 hRl hRe hRb k3 hd1
      have SX:Below wr.heap.size wr wr.drew:=(Below.refl _ _).drew
      refine wp_region_noPanic ?_
      refine wp_region_P (S:=(fun V=>Below wr.heap.size wr V)) (s:=15) (by kernel_rfl) ?_
      refine tzP 40 0 (.agg #[.bool n,.slice o l c,.int .i64 e]) (Or.inl ⟨by kernel_rfl,fun w' hSw=>ex_loadRN _ 46 _ rfl D (by kernel_rfl) w' _ (kept hSw HI.out.1.row) _ Tryz.underlying46 rfl 3 Tryz.infoN3 rfl⟩) SX ?_
      try simp only [pA,pE,pB,pC,pD]
      refine tzP 41 1 ?_ (Or.inl ⟨by kernel_rfl,?_⟩) SX ?_
      rotate_left
      ·intro w' hSw;have s3:=cell_later C3.out hSw;have s5:=cell_later C5.out hSw;go_simp;try with_reducible rfl
      try simp only [pA,pE,pB,pC,pD]
      refine tzP 42 2 ?_ (Or.inl ⟨by kernel_rfl,?_⟩) SX ?_
      rotate_left
      ·intro w' hSw;have s3:=cell_later C3.out hSw;have s5:=cell_later C5.out hSw;go_simp;try with_reducible rfl
      try simp only [pA,pE,pB,pC,pD]
      refine tzP 43 3 ?_ (Or.inl ⟨by kernel_rfl,?_⟩) SX ?_
      rotate_left
      ·intro w' hSw;have s3:=cell_later C3.out hSw;have s5:=cell_later C5.out hSw;go_simp;try with_reducible rfl
      try simp only [pA,pE,pB,pC,pD]
      refine tzP 44 4 (.agg #[.bool en,.slice eo el0 ec0,.int .i64 ee]) (yieldsIf_load_mid (by kernel_rfl) 46 _ rfl ge0 (k * 3) (by kernel_rfl) #[.bool en,.slice eo el0 ec0,.int .i64 ee].toList _ (fun V' hS=>(range_later R5.out hS:V'.rangeAt ge0 (k * 3) [.bool en,.slice eo el0 ec0,.int .i64 ee])) Tryz.underlying46 rfl (by kernel_rfl)) SX ?_
      try simp only [pA,pE,pB,pC,pD]
      refine tzP 45 5 ?_ (Or.inl ⟨by kernel_rfl,?_⟩) SX ?_
      rotate_left
      ·intro w' hSw;have s3:=cell_later C3.out hSw;have s5:=cell_later C5.out hSw;go_simp;try with_reducible rfl
      try simp only [pA,pE,pB,pC,pD]
      refine tzP 46 6 ?_ (Or.inl ⟨by kernel_rfl,?_⟩) SX ?_
      rotate_left
      ·intro w' hSw;have s3:=cell_later C3.out hSw;have s5:=cell_later C5.out hSw;go_simp;try with_reducible rfl
      try simp only [pA,pE,pB,pC,pD]
      refine tzP 47 7 ?_ (Or.inl ⟨by kernel_rfl,?_⟩) SX ?_
      rotate_left
      ·intro w' hSw;have s3:=cell_later C3.out hSw;have s5:=cell_later C5.out hSw;go_simp;try with_reducible rfl
      try simp only [pA,pE,pB,pC,pD]
      refine tzP 48 8 ?_ (Or.inl ⟨by kernel_rfl,?_⟩) SX ?_
      rotate_left
      ·intro w' hSw;have s3:=cell_later C3.out hSw;have s5:=cell_later C5.out hSw;go_simp;try with_reducible rfl
      try simp only [pA,pE,pB,pC,pD]
      refine tzP 49 9 ?_ (Or.inl ⟨by kernel_rfl,?_⟩) SX ?_
      rotate_left
      ·intro w' hSw;have s3:=cell_later C3.out hSw;have s5:=cell_later C5.out hSw;go_simp;try with_reducible rfl
      try simp only [pA,pE,pB,pC,pD]
      refine tzP 50 10 ?_ (Or.inl ⟨by kernel_rfl,?_⟩) SX ?_
      rotate_left
      ·intro w' hSw;have s3:=cell_later C3.out hSw;have s5:=cell_later C5.out hSw;go_simp;try with_reducible rfl
      try simp only [pA,pE,pB,pC,pD]
      refine tzP 51 11 ?_ (Or.inl ⟨by kernel_rfl,?_⟩) SX ?_
      rotate_left
      ·intro w' hSw;have s3:=cell_later C3.out hSw;have s5:=cell_later C5.out hSw;go_simp;try with_reducible rfl
      try simp only [pA,pE,pB,pC,pD]
      refine tzP 52 12 (.agg #[.bool gn,.slice go gl0 gc,.int .i64 ge]) (yieldsIf_load_mid (by kernel_rfl) 46 _ rfl b (i * 3) (by kernel_rfl) #[.bool gn,.slice go gl0 gc,.int .i64 ge].toList _ (fun V' hS=>(range_later R6.out hS:V'.rangeAt b (i * 3) [.bool gn,.slice go gl0 gc,.int .i64 ge])) Tryz.underlying46 rfl (by kernel_rfl)) SX ?_
      try simp only [pA,pE,pB,pC,pD]
      refine rzP [13] ?_
      refine consP _ rfl (hzC 53 (Calls.mono (timesC_any _ _ E 1024 1024 _ _ _ (NumC.later Z5.out SX).toZ (NumC.later Z6.out SX).toZ (by rw [HE.out];omega) (by omega) (by omega)) ?_)) AllReadyP.nil
      rintro e V1 ⟨v1,rfl,hz1,b1⟩
      obtain ⟨n1,o1,t1,p1,x1,hv1⟩:=hz1.form
      subst hv1
      have SX:Below wr.heap.size wr V1:=to_call SX b1
      clear b1
      refine ⟨_,rfl,SX,?_⟩
      try simp only [pA,pE,pB,pC,pD]
      refine rzP [14] ?_
      refine consP _ rfl (hzC 54 (Calls.mono (plusC_any _ _ (E + E) (1024 + 1024) _ _ _ ((NumC.later HI.out.1.num SX).mono (by omega)) hz1 (by rw [HE.out];omega) (by omega)) ?_)) AllReadyP.nil
      rintro e V2 ⟨v2,rfl,hz2,b2⟩
      obtain ⟨n2,o2,t2,p2,x2,hv2⟩:=hz2.form
      subst hv2
      have SX:Below wr.heap.size wr V2:=to_call SX b2
      clear b2 hz1
      refine ⟨_,rfl,SX,?_⟩
      try simp only [pA,pE,pB,pC,pD]
      refine rzP [15] ?_
      refine consPs _ rfl (by kernel_rfl) (hopL rfl (wpList_store_row (by rfl) 46 _ _ (by rfl) Y Y.heap.size D #[.bool n2,.slice o2 t2 p2,.int .i64 x2] _ (by kernel_rfl) (by kernel_rfl) (kept SX HI.out.1.row) (to_call HI.out.2 SX) HDX.out 3 Tryz.infoN3 rfl rfl (oneN _ _ _ _ _) fun V3 e3 b3 s3 k3=>?_)) AllReadyP.nil
      refine ⟨trivial,?_⟩
      try simp only [pA,pE,pB,pC,pD]
      refine wpAnyP_done (by kernel_rfl) ?_ _
      refine NoPanic.normal ?_
      try simp only [pA,pE,pB,pC,pD]
      have HZ:Hid (BxN V3 D (E + E) 1060 (ptK (2 ^ E) cs rs gs es bs i (k + 1)) n2 o2 t2 p2 x2 /\ Below Y.heap.size Y V3):=by
       have hz3:=hz2.cl (num_cl (kept SX HI.out.1.row)) (fun b hb _=>k3 b hb)
       have e9:ptK (2 ^ E) cs rs gs es bs i k + (es[k]?.getD 0) * fval ((gs[k]?.getD [])[i]?.getD 0) = ptK (2 ^ E) cs rs gs es bs i (k + 1):=by unfold ptK;rw [Int.add_assoc];rfl
       rw [e9] at hz3
       exact ⟨⟨e3,HTI.out _ _ _ i (k + 1) (by omega) hz3⟩,b3⟩
      clear hz2 SX k3 b3 e3 s3 C3 C5 R5 R6 Z5 Z6 HI
      go_wp2_with fail
      go_roundg q'
      case measure=>omega
      case rel=>exact ⟨k + 1,by go_num,by have:=HIK.out;omega,n2,o2,t2,p2,x2,HZ⟩
     ·have hd1:decide ((k:Int) < (gs.length:Int)) = false:=decide_eq_false (by omega)
      have hkg:k = gs.length:=by omega
      subst hkg
      clear h1 hk
      obtain ⟨n1,o1,l1,c1',e1,hr1⟩:∃ (n1:Bool) (o1:Option Addr) (l1 c1':Nat) (e1:Int),n1 = n /\ o1 = o /\ l1 = l /\ c1' = c /\ e1 = e:=⟨_,_,_,_,_,rfl,rfl,rfl,rfl,rfl⟩
      obtain ⟨rfl,rfl,rfl,rfl,rfl⟩:=hr1
      obtain ⟨xs,hxo,hxj⟩:=(HO.out.later HI.out.2).own
      have HXJ:Hid _:=hxj
      rw [ptV_len] at hxo
      have HX2:Hid _:=hxo
      have HC2:Hid (∀ g,u7.ownBlock = some g -> Cl noU (wr.alloc (.cells #[.bool n1,.slice o1 l1 c1',.int .i64 e1] 46)) g):=fun g hg=>((HO.out.cl g hg).later HI.out.2).later ((Below.refl _ wr).alloc (Nat.le_refl _) _)
      have hws:w.heap.size <= wr.heap.size:=(to_call HB.out.1 HI.out.2).size
      clear hxo hxj
      go_wp2_with (first
       | (refine wpList_load_row (by rfl) 46 _ (by rfl) D _ (by rfl) HI.out.1.row _ Tryz.underlying46 rfl 3 Tryz.infoN3 (by rfl) ?_)
       | (at_builtin;refine append_clJ noU Tryz.underlying27 Tryz.infoNumJ rfl (by decide) (by decide) zero_noU _ (by rfl) _ _ (by rfl) w.heap.size _ i xs (by rfl) (World.ownsRow.alloc HX2.out _) HC2.out ⟨wr.heap.size,0,none⟩ 1 1 [.bool n1,.slice o1 l1 c1',.int .i64 e1] (by rfl) (by decide) rfl (news_threeJ (heap_alloc_new wr _)) (three_one n1 o1 l1 c1' e1) (three_noU n1 o1 l1 c1' e1) (by omega) (by simp only [alloc_size];omega) ?_;intro v5 w5 o5 g5 cl5))
      have A1:Below wr.heap.size wr (wr.alloc (.cells #[.bool n1,.slice o1 l1 c1',.int .i64 e1] 46)):=(Below.refl _ wr).alloc (Nat.le_refl _) _
      have R5:Hid (RowZ w5 w.heap.size v5 (E + E) 1060 (ptV (2 ^ E) cs rs gs es bs (i + 1))):=by
       unfold Hid
       rw [ptV_snoc]
       refine RowZ.push (xs:=xs) (by rw [ptV_len];exact World.ownsRow.alloc HX2.out _) (fun j hj=>?_) HC2.out (NumC.later HI.out.1.num A1) (by rw [ptV_len];exact o5) g5 cl5
       obtain ⟨n2,o2,l2,c2,e2,a1,a2,a3,a4⟩:=HXJ.out j hj
       exact ⟨n2,o2,l2,c2,e2,a1,a2,a3,a4.later A1⟩
      have hbel:=g5.below (fun k hk=>(World.ownsRow.lt HX2.out k hk).1) (show w.heap.size <= (wr.alloc (.cells #[.bool n1,.slice o1 l1 c1',.int .i64 e1] 46)).heap.size by simp only [alloc_size];omega)
      have B5:Hid (Below w.heap.size w w5 /\ w5.heap[w.heap.size]? = some (.cells #[.int .i64 (n0:Int),.slice a1 n0 c1,.slice a2 l2 c2,.slice a3 gs.length c3,.slice a4 n0 c4] 30)):=⟨(to_call (to_call HB.out.1 HI.out.2) A1).trans hbel,(grw_types (World.ownsRow.alloc HX2.out _) g5 _ _ _ (by decide) (kept A1 (kept HI.out.2 HB.out.2))).trans (kept A1 (kept HI.out.2 HB.out.2))⟩
      clear o5 g5 cl5 A1 HC2 HX2 HXJ hbel
      go_wp2_with fail
      go_roundg q
      case measure=>omega
      case rel=>exact ⟨i + 1,by go_num,by have:=HIG.out;omega,R5,B5⟩
  ·have hd:decide ((i:Int) < (n0:Int)) = false:=decide_eq_false (by omega)
   have hin:i = n0:=by omega
   subst hin
   clear hlt hk
   go_wp2_with fail
   go_ret
   exact ⟨_,rfl,HO.out,HB.out.1⟩
theorem up_leJ {Y:Int} {D q:Nat} (hD:0 < D) (h:RndZ 1 Y D (q,true)):Y <= fval q * (D:Int):=by
 obtain ⟨f,hf⟩:=Sf.some Y hD
 rcases rz_up h hf with ⟨_,_,a⟩ | ⟨a,_⟩
 ·have k:Y <= smag (ceilK Y D f) * (D:Int):=(ceil_le hD hf _).2 (Int.le_refl _)
  have a':srung q = max (ceilK Y D f) (1 - (infK:Int)):=a
  have m:smag (ceilK Y D f) <= smag (srung q):=by
   rcases Int.lt_trichotomy (smag (ceilK Y D f)) (smag (srung q)) with c | c | c
   ·omega
   ·omega
   ·have:=lt_of_smag c;omega
  rw [fval_smag]
  exact Int.le_trans k (Int.mul_le_mul_of_nonneg_right m (Int.natCast_nonneg D))
 ·have:=congrArg Prod.snd a;cases this
end Go.Proofs.YtoflalhiihcofaaGreat
