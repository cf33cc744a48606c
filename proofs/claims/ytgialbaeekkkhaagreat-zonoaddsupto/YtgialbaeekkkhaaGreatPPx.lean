import Derived.Test.YtgialbaeekkkhaaGreatPPm
set_option maxRecDepth 100000
set_option maxHeartbeats 2000000
set_option linter.unusedVariables false
set_option linter.unusedSimpArgs false
namespace Go.Proofs.YtgialbaeekkkhaaGreat
open Go.RowKit Go.Shelf
open Ieee
theorem RndZ.rescale {d V:Int} {D:Nat} {p:Nat × Bool} (h:RndZ d V D p) (c:Nat) (hc:0 < c):RndZ d (V * c) (D * c) p:=by
 have h1:(V * (c:Int)).natAbs = V.natAbs * c:=by rw [Int.natAbs_mul,Int.natAbs_natCast]
 have h2:decide (V * (c:Int) < 0) = decide (V < 0):=by
  have hc':(0:Int) < c:=by omega
  congr 1;apply propext
  constructor
  ·intro h;rcases Int.lt_or_le V 0 with g | g
   ·exact g
   ·have:=Int.mul_nonneg g (Int.le_of_lt hc');omega
  ·intro h;exact Int.mul_neg_of_neg_of_pos h hc'
 unfold RndZ;rw [h1,h2];exact Rnd.scale h c hc
attribute [local go_sem] Oper.semAt_some
attribute [local go_sem] Oper.semAt_some
theorem fval_oneJ {a:Nat} (ha:a = 1074):fval 4607182418800017408 = ((2 ^ a:Nat):Int):=by subst ha;decide +kernel
theorem fval_minusJ {a:Nat} (ha:a = 1074):fval 13830554455654793216 = -((2 ^ a:Nat):Int):=by subst ha;decide +kernel
theorem pow92 {a b:Nat} (ha:a = 1166) (hb:b = 1074):((2 ^ b:Nat):Int) * ((2 ^ ((0:Int) + 92).toNat:Nat):Int) = ((2 ^ a:Nat):Int):=by
 rw [show ((0:Int) + 92).toNat = 92 by decide]
 have:(2:Nat) ^ a = 2 ^ b * 2 ^ 92:=by rw [<- Nat.pow_add,show b + 92 = a by omega]
 rw [this,Int.natCast_mul]
def sgJ (b:Nat) (s:Int):Prop:=(b = 4607182418800017408 /\ s = 1) \/ (b = 13830554455654793216 /\ s = -1)
theorem prodZ_sg {a b u:Nat} {s:Int} (ha:a = 1166) (h:sgJ b s):prodZ b u 0 = s * fval u * ((2 ^ a:Nat):Int):=by
 unfold prodZ
 obtain ⟨c,hc⟩:∃ c:Nat,c = 1074:=⟨_,rfl⟩
 have hp:=pow92 ha hc
 generalize ((2 ^ ((0:Int) + 92).toNat:Nat):Int) = Y at hp ⊢
 rcases h with ⟨rfl,rfl⟩ | ⟨rfl,rfl⟩
 ·rw [fval_oneJ hc,<- hp]
  generalize ((2 ^ c:Nat):Int) = X
  rw [Int.one_mul,Int.mul_comm X,Int.mul_assoc]
 ·rw [fval_minusJ hc,<- hp]
  generalize ((2 ^ c:Nat):Int) = X
  rw [Int.mul_comm (-X),Int.mul_assoc,Int.neg_mul,Int.mul_neg,Int.neg_mul,Int.one_mul,Int.neg_mul]
theorem prodZ_oneJ {a:Nat} (ha:a = 1166) (u:Nat):prodZ u 4607182418800017408 0 = fval u * ((2 ^ a:Nat):Int):=by
 have h:prodZ u 4607182418800017408 0 = prodZ 4607182418800017408 u 0:=by unfold prodZ;rw [Int.mul_comm (fval u)]
 rw [h,prodZ_sg ha (.inl ⟨rfl,rfl⟩),Int.one_mul]
theorem frung_frung (u:Nat):frung (frung u) = frung u:=by unfold frung;omega
theorem fneg_frung (u:Nat):fneg (frung u) = false:=by unfold fneg frung;simp
theorem fval_frung (u:Nat):fval (frung u) = (rmag (frung u):Int):=by unfold fval;rw [fneg_frung,frung_frung];rfl
theorem fval_ltJ {u E:Nat} (hu:Fin u) (hE:E = 2098):rmag (frung u) < 2 ^ E:=by
 obtain ⟨F,hF⟩:∃ F:Nat,F = 2046:=⟨_,rfl⟩
 have h1:=rmag_lt hu
 rw [rmag_inf hF] at h1
 have h3:(2:Nat) ^ E = 4503599627370496 * 2 ^ F:=by
  rw [show (4503599627370496:Nat) = 2 ^ 52 by decide,<- Nat.pow_add,show 52 + F = E by omega]
 rw [h3];exact h1
theorem hold_sumJ {a E:Nat} {x:Int} (ha:a = 1166) (hE:E = 2140) (hx:x.natAbs < 2 ^ E):holdZ (x * ((2 ^ a:Nat):Int)) = some (x * ((2 ^ a:Nat):Int)):=by
 unfold holdZ
 rw [if_pos]
 obtain ⟨Q,hQ⟩:∃ Q:Nat,Q = 4800:=⟨_,rfl⟩
 have h2:(2:Nat) ^ E * 2 ^ a <= 2 ^ Q:=by rw [<- Nat.pow_add];exact Nat.pow_le_pow_right (by omega) (by omega)
 have h3:(x * ((2 ^ a:Nat):Int)).natAbs < 2 ^ Q:=by
  rw [Int.natAbs_mul,Int.natAbs_natCast]
  exact Nat.lt_of_lt_of_le (Nat.mul_lt_mul_of_pos_right hx (Nat.two_pow_pos _)) h2
 rw [hQ] at h3
 generalize x * ((2 ^ a:Nat):Int) = X at *
 generalize 2 ^ 4800 = L at *
 omega
theorem fin_frung {u:Nat} (h:Fin u):Fin (frung u):=by unfold Fin at *;rw [frung_frung];exact h
theorem prodO_step {a E u b:Nat} {x y:Int} (ha:a = 1166) (hE:E = 2140) (hu:Fin u) (hb:Fin b) (hp:prodZ u b 0 = y * ((2 ^ a:Nat):Int)) (hx:(x + y).natAbs < 2 ^ E):prodO (some (x * ((2 ^ a:Nat):Int))) u b 0 = some ((x + y) * ((2 ^ a:Nat):Int)):=by
 unfold prodO
 simp only [Option.bind_some]
 rw [if_pos ⟨hu,hb,by decide,by decide⟩,hp,<- Int.add_mul,hold_sumJ ha hE hx]
theorem tk_good {z:ZD} (h:(!z.bad && wholeB z) = true):z.bad = false /\ wholeB z = true /\ checkB z = true:=by
 rw [Bool.and_eq_true,Bool.not_eq_true'] at h
 exact ⟨h.1,h.2,by unfold checkB;rw [h.1];exact h.2⟩
def emptyB (bad:Bool) (N:Int) (cn dn gn rn:Nat):Bool:=bad && decide (0 <= N) && decide (N <= 256) && decide (cn + dn + gn + rn = 0)
theorem refEmpty_any (N:Int) (co io go ro:Option Addr) (cn cc dn dc gn gc rn rc:Nat) (bad:Bool) (h1:cn <= 1000000000) (h2:dn <= 1000000000) (h3:gn <= 1000000000) (h4:rn <= 1000000000) (w:World) :
  Calls Tryz.prog 47 #[.agg #[.int .i64 N,.slice co cn cc,.slice io dn dc,.slice go gn gc,.slice ro rn rc,.bool bad]] w fun e w'=>e = .returned (.bool (emptyB bad N cn dn gn rn)) /\ Below w.heap.size w w':=by
 have HB:Hid (∀ x,Below w.heap.size w (w.alloc x)):=fun x=>(Below.refl _ w).alloc (Nat.le_refl _) _
 obtain ⟨eb,heb⟩:∃ eb,emptyB bad N cn dn gn rn = eb:=⟨_,rfl⟩
 rw [heb]
 have HE:Hid (eb = (bad && decide (0 <= N) && decide (N <= 256) && decide (cn + dn + gn + rn = 0))):=heb.symm
 clear heb
 cases bad with
 | false=>
  have HS:Hid (eb = false):=by unfold Hid;rw [HE.out];rfl
  go_enter Tryz.func47,Tryz.ntmps47
  go_wp2_with fail
  go_ret
  exact ⟨by rw [HS.out];rfl,HB.out _⟩
 | true=>
  by_cases q0:0 <= N
  case neg=>
   have d0:decide (0 <= N) = false:=decide_eq_false q0
   have HS:Hid (eb = false):=by unfold Hid;rw [HE.out,d0];rfl
   go_enter Tryz.func47,Tryz.ntmps47
   go_wp2_with fail
   go_ret
   exact ⟨by rw [HS.out];rfl,HB.out _⟩
  have d0:decide (0 <= N) = true:=decide_eq_true q0
  by_cases q1:N <= 256
  case neg=>
   have d1:decide (N <= 256) = false:=decide_eq_false q1
   have HS:Hid (eb = false):=by unfold Hid;rw [HE.out,d0,d1];rfl
   go_enter Tryz.func47,Tryz.ntmps47
   go_wp2_with fail
   go_ret
   exact ⟨by rw [HS.out];rfl,HB.out _⟩
  have d1:decide (N <= 256) = true:=decide_eq_true q1
  have HS:Hid (eb = ((cn:Int) + (dn:Int) + (gn:Int) + (rn:Int) == 0)):=by
   unfold Hid;rw [HE.out,d0,d1]
   by_cases q:cn + dn + gn + rn = 0
   ·rw [decide_eq_true q]
    have:(cn:Int) + (dn:Int) + (gn:Int) + (rn:Int) = 0:=by omega
    rw [this];rfl
   ·rw [decide_eq_false q]
    have:¬ (cn:Int) + (dn:Int) + (gn:Int) + (rn:Int) = 0:=by omega
    simpa using this
  go_enter Tryz.func47,Tryz.ntmps47
  go_wp2_with fail
  go_ret
  exact ⟨by rw [HS.out];rfl,HB.out _⟩
theorem tk_self {z:ZD} (h:checkB z = true):tkZ z = z:=by unfold tkZ;rw [if_pos h]
theorem check_or (u:ZD):((!u.bad && wholeB u) || emptyB u.bad u.N u.cn u.dn u.gn u.rn) = checkB u:=by
 unfold emptyB checkB bareB
 cases u.bad with
 | true=>
  simp only [Bool.not_true,Bool.false_and,Bool.false_or,Bool.true_and,if_true]
  by_cases h1:u.cn = 0 <;> by_cases h2:u.dn = 0 <;> by_cases h3:u.gn = 0 <;> by_cases h4:u.rn = 0 <;> simp [h1,h2,h3,h4]
 | false=>simp
theorem RndZ.of_ratio {d V V':Int} {D D':Nat} {p:Nat × Bool} (h:RndZ d V D p) (hD':0 < D') (he:V * (D':Int) = V' * (D:Int)):RndZ d V' D' p:=by
 have hD:=(let ⟨_,hR,_⟩:=h;hR.pos)
 have h1:=h.rescale D' hD'
 rw [he,Nat.mul_comm] at h1
 obtain ⟨R,hR,hp⟩:=h1
 have e1:(V' * (D:Int)).natAbs = V'.natAbs * D:=by rw [Int.natAbs_mul,Int.natAbs_natCast]
 have e2:decide (V' * (D:Int) < 0) = decide (V' < 0):=by
  have hc':(0:Int) < D:=by omega
  congr 1;apply propext
  constructor
  ·intro h;rcases Int.lt_or_le V' 0 with g | g
   ·exact g
   ·have:=Int.mul_nonneg g (Int.le_of_lt hc');omega
  ·intro h;exact Int.mul_neg_of_neg_of_pos h hc'
 rw [e1] at hR hp
 rw [e2] at hp
 exact ⟨R,hR.unscale D,by rw [hp];exact tellK_scale _ _ _ _ _ _ hD⟩
theorem refSizeZ_any (u:ZD) (w:World) (hu:ZU w u) (hw:UW u) :
  Calls Tryz.prog 19 #[.agg (zRow u)] w fun e w'=>e = .returned (.int .i64 (if checkB u then u.N else 0)) /\ Below w.heap.size w w':=by
 have HRl:∀ W',Below w.heap.size w W' -> _:=fun W' hb=>reals_any u 1074 rfl W' (hu.later hb) hw
 have HEm:∀ W',_:=fun W'=>refEmpty_any u.N u.co u.io u.go u.ro u.cn u.cc u.dn u.dc u.gn u.gc u.rn u.rc u.bad (by have:=hw.cl;omega) (by have:=hw.il;omega) (by have:=hw.gl;omega) (by have:=hw.rl;omega) W'
 have HOR:Hid _:=check_or u
 obtain ⟨ok,hok⟩:∃ ok,(!u.bad && wholeB u) = ok:=⟨_,rfl⟩
 obtain ⟨em,hem⟩:∃ em,emptyB u.bad u.N u.cn u.dn u.gn u.rn = em:=⟨_,rfl⟩
 obtain ⟨cb,hcb⟩:∃ cb,checkB u = cb:=⟨_,rfl⟩
 rw [hok,hem,hcb] at HOR
 rw [hok] at HRl
 rw [hem] at HEm
 rw [hcb]
 obtain ⟨rv,hrv⟩:∃ rv:Int,(if cb = true then u.N else 0) = rv:=⟨_,rfl⟩
 rw [hrv]
 have HRV:Hid _:=hrv
 clear hok hem hcb hu hw hrv
 obtain ⟨N,co,cn,cc,io,dn,dc,go,gn,gc,ro,rn,rc,bad,cs,ids,gv,gs,rs⟩:=u
 unfold zRow at HRl ⊢
 dsimp only at HRl HEm ⊢
 have HR:Hid _:=HRl
 have HE:Hid _:=HEm
 clear HRl HEm
 have X0:Below w.heap.size w (w.alloc (.cells #[.int .i64 N,.slice co cn cc,.slice io dn dc,.slice go gn gc,.slice ro rn rc,.bool bad] 30)):=(Below.refl _ w).alloc (Nat.le_refl _) _
 have Y0:(w.alloc (.cells #[.int .i64 N,.slice co cn cc,.slice io dn dc,.slice go gn gc,.slice ro rn rc,.bool bad] 30)).heap[w.heap.size]? = some (.cells #[.int .i64 N,.slice co cn cc,.slice io dn dc,.slice go gn gc,.slice ro rn rc,.bool bad] 30):=heap_alloc_new w _
 have HX:Hid _:=And.intro X0 Y0
 clear X0 Y0
 go_enter Tryz.func19,Tryz.ntmps19
 go_upto_region 2 with (first
  | (refine wpList_load_row (by rfl) 30 _ (by rfl) w.heap.size _ (by rfl) HX.out.2 _ Tryz.underlying30 rfl 6 Tryz.infoZu (by rfl) ?_)
  | (go_at_call 20;refine Calls.mono (HR.out _ HX.out.1) ?_;rintro e w1 ⟨⟨N',a1,l1,c1,a2,l2,c2,a3,l3,c3,a4,l4,c4,rfl,-⟩,b1⟩))
 have P1:Hid (Below w.heap.size w (w1.alloc (.cells #[.int .i64 N',.slice a1 l1 c1,.slice a2 l2 c2,.slice a3 l3 c3,.slice a4 l4 c4] 50)) /\ (w1.alloc (.cells #[.int .i64 N',.slice a1 l1 c1,.slice a2 l2 c2,.slice a3 l3 c3,.slice a4 l4 c4] 50)).heap[w.heap.size]? = some (.cells #[.int .i64 N,.slice co cn cc,.slice io dn dc,.slice go gn gc,.slice ro rn rc,.bool bad] 30)):=⟨(to_call HX.out.1 b1).alloc (to_call HX.out.1 b1).size _,alloc_kept (kept b1 HX.out.2) _⟩
 clear b1 HR HX
 have k0:=cellAtJ P1.out.2 0 _ rfl
 cases ok
 case true=>
  have HC:Hid (cb = true):=HOR.out.symm
  go_wp2_with fail
  go_ret
  exact ⟨by rw [<- HRV.out,HC.out];rfl,P1.out.1⟩
 case false=>
  have HC:Hid (cb = em):=by unfold Hid;rw [<- HOR.out,Bool.false_or]
  cases em
  case true=>
   go_wp2_with (first
    | (refine wpList_load_rowG (by rfl) 30 _ (by rfl) w.heap.size _ (by rfl) P1.out.2 _ Tryz.underlying30 rfl 6 Tryz.infoZu (by rfl) ?_)
    | (go_at_call 47;refine Calls.mono (HE.out _) ?_;rintro e w2 ⟨rfl,b2⟩;have k2:=cellAtJ (kept b2 P1.out.2) 0 _ rfl))
   go_ret
   exact ⟨by rw [<- HRV.out,HC.out];rfl,to_call P1.out.1 b2⟩
  case false=>
   go_wp2_with (first
    | (refine wpList_load_rowG (by rfl) 30 _ (by rfl) w.heap.size _ (by rfl) P1.out.2 _ Tryz.underlying30 rfl 6 Tryz.infoZu (by rfl) ?_)
    | (go_at_call 47;refine Calls.mono (HE.out _) ?_;rintro e w2 ⟨rfl,b2⟩;have k2:=cellAtJ (kept b2 P1.out.2) 0 _ rfl))
   go_ret
   exact ⟨by rw [<- HRV.out,HC.out];rfl,to_call P1.out.1 b2⟩
theorem badU (n:Int) (W:World):ZU W (⟨n,none,0,0,none,0,0,none,0,0,none,0,0,true,[],[],fun _=>(none,0,0),[],[]⟩:ZD):=⟨⟨rfl,Nat.zero_le _,.inl rfl⟩,⟨rfl,Nat.zero_le _,.inl rfl⟩,⟨rfl,Nat.zero_le _,.inl rfl,fun j hj=>absurd hj (Nat.not_lt_zero _)⟩,⟨rfl,Nat.zero_le _,.inl rfl⟩⟩
theorem tk_N (u:ZD):(if checkB u = true then u.N else 0) = (tkZ u).N:=by unfold tkZ;split <;> rfl
theorem SmZ.tkN {u x:ZD} (m:SmZ u x):(tkZ u).N = (tkZ x).N:=by
 unfold tkZ
 rw [checkB_eq u x m.N m.bad m.cs m.rs m.ids m.gs m.cn m.dn m.gn m.rn]
 split
 ·exact m.N
 ·rfl
theorem badR (n:Int) (W:World):ZR W (⟨n,none,0,0,none,0,0,none,0,0,none,0,0,true,[],[],fun _=>(none,0,0),[],[]⟩:ZD):=⟨⟨rfl,Nat.zero_le _,fun u hu=>(by cases hu),.inl rfl⟩,⟨rfl,Nat.zero_le _,.inl rfl⟩,⟨rfl,Nat.zero_le _,.inl rfl,fun j hj=>absurd hj (Nat.not_lt_zero _)⟩,⟨rfl,Nat.zero_le _,fun u hu=>(by cases hu),.inl rfl⟩⟩
end Go.Proofs.YtgialbaeekkkhaaGreat
