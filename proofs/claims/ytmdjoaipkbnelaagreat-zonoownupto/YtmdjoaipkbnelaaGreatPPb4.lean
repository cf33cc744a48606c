import Derived.Test.YtmdjoaipkbnelaaGreatPPb3
set_option maxRecDepth 100000
set_option maxHeartbeats 4000000
set_option linter.unusedVariables false
set_option linter.unusedSimpArgs false
namespace Go.Proofs.YtmdjoaipkbnelaaGreat
open Go.RowKit
def PartsR (u:Nat) (m:Nat) (x:Int) (b:Bool):Prop:=(b = true ↔ Fin u) /\ (b = true -> m < 9007199254740992 /\ -1074 <= x /\ x <= 971 /\ m * 2 ^ (x + 1074).toNat = rmag (frung u)) /\ (b = false -> m = 0 /\ x = 0)
theorem parts_any (u:Nat) (hu:u < 18446744073709551616) (w:World) :
  Calls Tryz.prog 80 #[.float .f64 u] w fun e w'=>∃ (m:Nat) (x:Int) (b:Bool),e = .returned (.tuple #[.int .u64 (m:Int),.int .i64 x,.bool b]) /\ PartsR u m x b /\ w' = w:=by
 obtain ⟨E,hE⟩:∃ E:Nat,u / 4503599627370496 % 2048 = E:=⟨_,rfl⟩
 obtain ⟨m,hm⟩:∃ m:Nat,u % 4503599627370496 = m:=⟨_,rfl⟩
 have fE:bits .and .u64 ((u:Int) / 4503599627370496) 2047 = (E:Int):=by
  have k:=u64_and_nat (u / 4503599627370496) 2047 (by omega) (by decide)
  rw [show ((2047:Nat):Int) = 2047 from rfl] at k
  rw [show (u:Int) / 4503599627370496 = ((u / 4503599627370496:Nat):Int) by omega,k,and_2047,hE]
 have fm:bits .and .u64 (u:Int) 4503599627370495 = (m:Int):=by
  have k:=u64_and_nat u 4503599627370495 hu (by decide)
  rw [show ((4503599627370495:Nat):Int) = 4503599627370495 from rfl] at k
  rw [k,show (4503599627370495:Nat) = 2 ^ 52 - 1 by decide,Nat.and_two_pow_sub_one_eq_mod,show (2:Nat) ^ 52 = 4503599627370496 by decide,hm]
 have hr:frung u = E * 4503599627370496 + m:=by unfold frung;omega
 have hEb:E < 2048:=by omega
 have hmb:m < 4503599627370496:=by omega
 have hFin:Fin u ↔ E < 2047:=by unfold Fin infK;rw [hr];omega
 have fo:bits .or .u64 (m:Int) 4503599627370496 = ((4503599627370496 + m:Nat):Int):=by
  have k:=u64_or_nat m 4503599627370496 (by omega) (by decide)
  rw [show ((4503599627370496:Nat):Int) = 4503599627370496 from rfl] at k
  rw [k,Nat.or_comm]
  have:=Nat.two_pow_add_eq_or_of_lt (i:=52) (b:=m) (by simpa using hmb) 1
  rw [show (2:Nat) ^ 52 * 1 = 4503599627370496 by decide] at this
  rw [<- this]
 generalize hM:4503599627370496 + m = M at fo
 clear hE hm
 by_cases h2047:E = 2047
 ·subst h2047
  have HR:Hid (PartsR u 0 0 false):=⟨by rw [hFin];simp,fun h=>(by cases h),fun _=>⟨rfl,rfl⟩⟩
  have hz:((2047:Nat):Int) = 2047:=rfl
  rw [hz] at fE
  clear hr hFin hM
  go_enter Tryz.func80,Tryz.ntmps80
  go_wp2_with (first | (go_at_call 31;refine (bits_any _ _).mono ?_;rintro e w' ⟨rfl,rfl⟩))
  go_ret3
  exact ⟨0,0,false,rfl,HR.out,rfl⟩
 ·by_cases h0:E = 0
  ·subst h0
   have HR:Hid (PartsR u m (-1074) true):=⟨by rw [hFin];simp,fun _=>⟨by omega,by omega,by omega,by
    rw [hr]
    have:=rmag_form 0 m (.inl rfl) (by omega)
    rw [this];simp⟩,by simp⟩
   have hz:((0:Nat):Int) = 0:=rfl
   rw [hz] at fE
   clear hr hFin hM
   go_enter Tryz.func80,Tryz.ntmps80
   go_wp2_with (first | (go_at_call 31;refine (bits_any _ _).mono ?_;rintro e w' ⟨rfl,rfl⟩))
   go_ret3
   exact ⟨m,-1074,true,rfl,HR.out,rfl⟩
  ·have HR:Hid (PartsR u M (-1074 + (E:Int) - 1) true):=⟨by rw [hFin];simp;omega,fun _=>⟨by omega,by omega,by omega,by
    obtain ⟨F,rfl⟩:∃ F,E = F + 1:=⟨E - 1,by omega⟩
    have:=rmag_form F M (.inr (by omega)) (by omega)
    rw [hr,show (F + 1) * 4503599627370496 + m = F * 4503599627370496 + M by omega,this,show (-1074 + ((F + 1:Nat):Int) - 1 + 1074).toNat = F by omega]⟩,by simp⟩
   have n0:((E:Int) == 0) = false:=by simp;omega
   have n1:((E:Int) == 2047) = false:=by simp;omega
   have hEw:wrap64 (E:Int) = (E:Int):=by unfold wrap64;omega
   have HEW:Hid _:=hEw
   clear hr hFin hM hEw
   go_enter Tryz.func80,Tryz.ntmps80
   go_wp2_with (first | (go_at_call 31;refine (bits_any _ _).mono ?_;rintro e w' ⟨rfl,rfl⟩))
   go_ret3
   exact ⟨M,-1074 + (E:Int) - 1,true,rfl,HR.out,rfl⟩
theorem signbit_any (u:Nat) (hu:u < 18446744073709551616) (w:World):Calls Tryz.prog 83 #[.float .f64 u] w fun e w'=>e = .returned (.bool (fneg u)) /\ w' = w:=by
 have hcb:=call_bits
 have HN:Hid (decide (wrap64 (u:Int) < 0) = fneg u):=by
  unfold Hid fneg
  unfold wrap64
  by_cases h:9223372036854775808 <= u
  ·rw [decide_eq_true (by omega),show u / 9223372036854775808 % 2 = 1 by omega];rfl
  ·rw [decide_eq_false (by omega),show u / 9223372036854775808 % 2 = 0 by omega];rfl
 go_enter Tryz.func83,Tryz.ntmps83
 go_wp2_with fail
 go_ret
 exact ⟨congrArg (fun b=>Ending.returned (.bool b)) HN.out,rfl⟩
def prodZ (a b:Nat) (n:Int):Int:=fval a * fval b * ((2 ^ (n + 92).toNat:Nat):Int)
def prodO (o:Option Int) (a b:Nat) (n:Int):Option Int:=o.bind fun z=>if Fin a /\ Fin b /\ -64 <= n /\ n <= 64 then holdZ (z + prodZ a b n) else none
theorem prod_parts {a b am bm place:Nat} {ax bx n:Int} (ha:am * 2 ^ (ax + 1074).toNat = rmag (frung a)) (hb:bm * 2 ^ (bx + 1074).toNat = rmag (frung b)) (ha0:-1074 <= ax) (hb0:-1074 <= bx) (hn:-64 <= n) (hp:(place:Int) = ax + bx + n + 2240) :
  prodZ a b n = sv (fneg a != fneg b) (am * bm * 2 ^ place):=by
 have e1:am * bm * 2 ^ place = rmag (frung a) * rmag (frung b) * 2 ^ (n + 92).toNat:=by
  rw [<- ha,<- hb]
  have:(2:Nat) ^ place = 2 ^ (ax + 1074).toNat * 2 ^ (bx + 1074).toNat * 2 ^ (n + 92).toNat:=by
   rw [<- Nat.pow_add,<- Nat.pow_add];congr 1;omega
  rw [this];ac_rfl
 rw [e1]
 unfold prodZ fval sv
 cases fneg a <;> cases fneg b <;> simp [Int.neg_mul,Int.mul_neg]
theorem prod_small {am bm place:Nat} {P Q:Nat} (ha:am < 9007199254740992) (hb:bm < 9007199254740992) (hp:place <= 4300) (hQ:Q = 4800):am * bm * 2 ^ place < 2 ^ Q:=by
 have h1:am * bm <= 9007199254740992 * 9007199254740992:=Nat.mul_le_mul (by omega) (by omega)
 have h2:(2:Nat) ^ Q = 2 ^ (Q - place) * 2 ^ place:=by rw [<- Nat.pow_add];congr 1;omega
 have h3:(2:Nat) ^ 107 <= 2 ^ (Q - place):=Nat.pow_le_pow_right (by omega) (by omega)
 have h4:(9007199254740992 * 9007199254740992:Nat) < 2 ^ 107:=by decide
 rw [h2]
 exact Nat.mul_lt_mul_of_pos_right (by omega) (Nat.two_pow_pos _)
theorem prod_spoils (B:Nat) (o:Option Int) (a b:Nat) (n:Int) (ha:a < 18446744073709551616) (hb:b < 18446744073709551616) (w:World) (hB:AccO w B o) (hno:¬ (o ≠ none /\ Fin a /\ Fin b /\ -64 <= n /\ n <= 64)) :
  Calls Tryz.prog 50 #[.pointer (some ⟨B,0,none⟩),.float .f64 a,.float .f64 b,.int .i64 n] w fun e w'=>e = .returned (.tuple #[]) /\ AccO w' B none /\ Chg B w w':=by
 have HB:Hid _:=hB
 clear hB
 obtain ⟨f0,b0,hw0⟩:=HB.out.words
 have HW0:Hid _:=hw0
 clear hw0
 go_enter Tryz.func50,Tryz.ntmps50
 go_wp2_with fail
 refine (parts_any a ha _).mono ?_
 rintro e w1 ⟨am,ax,ab,rfl,hpa,rfl⟩
 go_wp2_with fail
 refine (parts_any b hb _).mono ?_
 rintro e w1 ⟨bm,bx,bb,rfl,hpb,rfl⟩
 have HH:Hid (¬ (o.isNone = false /\ ab = true /\ bb = true /\ -64 <= n /\ n <= 64)):=by
  rintro ⟨h1,h2,h3,h4,h5⟩
  exact hno ⟨by cases o <;> simp_all,hpa.1.1 h2,hpb.1.1 h3,h4,h5⟩
 clear hpa hpb hno
 go_wp2_with fail
 refine (bad_any B o _ HB.out).mono ?_
 rintro e w1 ⟨rfl,rfl⟩
 by_cases c0:o.isNone = false
 ·by_cases c1:ab = true
  ·by_cases c2:bb = true
   ·by_cases c3:-64 <= n
    ·have c4:¬ n <= 64:=fun c=>HH.out ⟨c0,c1,c2,c3,c⟩
     subst c1 c2
     have d1:decide (n < -64) = false:=decide_eq_false (by omega)
     have d2:decide (64 < n) = true:=decide_eq_true (by omega)
     clear HH
     go_wp2_with (first | (go_at_call 70;refine (spoil_any B f0 b0 _ HW0.out.1 HW0.out.2.1 HW0.out.2.2.1 HW0.out.2.2.2).mono ?_;rintro e w' ⟨rfl,hs1,hs2⟩))
     (try simp only [Exit.inBlock,Exit.then]);refine bodyPost_ret (results_none rfl _ _ _) rfl ?_
     exact ⟨rfl,hs1,hs2⟩
    ·subst c1 c2
     have d1:decide (n < -64) = true:=decide_eq_true (by omega)
     clear HH
     go_wp2_with (first | (go_at_call 70;refine (spoil_any B f0 b0 _ HW0.out.1 HW0.out.2.1 HW0.out.2.2.1 HW0.out.2.2.2).mono ?_;rintro e w' ⟨rfl,hs1,hs2⟩))
     (try simp only [Exit.inBlock,Exit.then]);refine bodyPost_ret (results_none rfl _ _ _) rfl ?_
     exact ⟨rfl,hs1,hs2⟩
   ·obtain rfl:bb = false:=by simpa using c2
    subst c1
    clear HH
    go_wp2_with (first | (go_at_call 70;refine (spoil_any B f0 b0 _ HW0.out.1 HW0.out.2.1 HW0.out.2.2.1 HW0.out.2.2.2).mono ?_;rintro e w' ⟨rfl,hs1,hs2⟩))
    (try simp only [Exit.inBlock,Exit.then]);refine bodyPost_ret (results_none rfl _ _ _) rfl ?_
    exact ⟨rfl,hs1,hs2⟩
  ·obtain rfl:ab = false:=by simpa using c1
   clear HH
   go_wp2_with (first | (go_at_call 70;refine (spoil_any B f0 b0 _ HW0.out.1 HW0.out.2.1 HW0.out.2.2.1 HW0.out.2.2.2).mono ?_;rintro e w' ⟨rfl,hs1,hs2⟩))
   (try simp only [Exit.inBlock,Exit.then]);refine bodyPost_ret (results_none rfl _ _ _) rfl ?_
   exact ⟨rfl,hs1,hs2⟩
 ·have c0':o.isNone = true:=by simpa using c0
  clear HH c0
  go_wp2_with (first | (go_at_call 70;refine (spoil_any B f0 b0 _ HW0.out.1 HW0.out.2.1 HW0.out.2.2.1 HW0.out.2.2.2).mono ?_;rintro e w' ⟨rfl,hs1,hs2⟩))
  (try simp only [Exit.inBlock,Exit.then]);refine bodyPost_ret (results_none rfl _ _ _) rfl ?_
  exact ⟨rfl,hs1,hs2⟩
theorem prod_adds (B:Nat) (z:Int) (a b:Nat) (n:Int) (ha:a < 18446744073709551616) (hb:b < 18446744073709551616) (w:World) (hB:AccO w B (some z)) (fa:Fin a) (fb:Fin b) (hn0:-64 <= n) (hn1:n <= 64) :
  Calls Tryz.prog 50 #[.pointer (some ⟨B,0,none⟩),.float .f64 a,.float .f64 b,.int .i64 n] w fun e w'=>e = .returned (.tuple #[]) /\ AccO w' B (holdZ (z + prodZ a b n)) /\ Chg B w w':=by
 have HB:Hid _:=hB
 clear hB
 obtain ⟨f,k1,k2⟩:=HB.out.ex
 obtain ⟨t1,t2,t3⟩:=k2 z rfl
 have HK:Hid _:=And.intro k1 (And.intro t1 (And.intro t2 t3))
 have HC0:Hid _:=And.intro HB.out.cell HB.out.froz
 clear k1 k2 t1 t2 t3
 go_enter Tryz.func50,Tryz.ntmps50
 go_wp2_with fail
 refine (parts_any a ha _).mono ?_
 rintro e w1 ⟨am,ax,ab,rfl,hpa,rfl⟩
 go_wp2_with fail
 refine (parts_any b hb _).mono ?_
 rintro e w1 ⟨bm,bx,bb,rfl,hpb,rfl⟩
 obtain rfl:ab = true:=hpa.1.2 fa
 obtain rfl:bb = true:=hpb.1.2 fb
 obtain ⟨a1,a2,a3,a4⟩:=hpa.2.1 rfl
 obtain ⟨b1,b2,b3,b4⟩:=hpb.2.1 rfl
 obtain ⟨place,hpl⟩:∃ place:Nat,(place:Int) = ax + bx + n + 2240:=⟨(ax + bx + n + 2240).toNat,by omega⟩
 have HPZ:Hid (prodZ a b n = sv (fneg a != fneg b) (am * bm * 2 ^ place)):=prod_parts a4 b4 a2 b2 hn0 hpl
 obtain ⟨k,hk⟩:∃ k,place / 64 = k:=⟨_,rfl⟩
 obtain ⟨nn,hnn⟩:∃ nn,place % 64 = nn:=⟨_,rfl⟩
 obtain ⟨high,hhi⟩:∃ high,am * bm / 18446744073709551616 = high:=⟨_,rfl⟩
 obtain ⟨low,hlo⟩:∃ low,am * bm % 18446744073709551616 = low:=⟨_,rfl⟩
 have hll:low < 18446744073709551616:=by rw [<- hlo];exact Nat.mod_lt _ (by omega)
 have hhl:high < 18446744073709551616:=by
  rw [<- hhi,Nat.div_lt_iff_lt_mul (by omega)]
  have:am * bm <= 9007199254740992 * 9007199254740992:=Nat.mul_le_mul (by omega) (by omega)
  omega
 have hmb:high * 18446744073709551616 + low = am * bm:=by have:=Nat.div_add_mod (am * bm) 18446744073709551616;omega
 have hpk:place = 64 * k + nn:=by omega
 obtain ⟨ng,hng⟩:∃ ng,(fneg a != fneg b) = ng:=⟨_,rfl⟩
 have HE:Hid (z + prodZ a b n = z + sv ng ((high * 18446744073709551616 + low) * 2 ^ (64 * k + nn))):=by unfold Hid;rw [HPZ.out,hng,hmb,hpk]
 have HBD:Hid (-((2 ^ 4863:Nat):Int) <= z + sv ng ((high * 18446744073709551616 + low) * 2 ^ (64 * k + nn)) /\ z + sv ng ((high * 18446744073709551616 + low) * 2 ^ (64 * k + nn)) < ((2 ^ 4863:Nat):Int)):=by
  obtain ⟨Q,hQ⟩:∃ Q:Nat,Q = 4800:=⟨_,rfl⟩
  have hs:=prod_small (P:=0) a1 b1 (show place <= 4300 by omega) hQ
  rw [hmb,<- hpk]
  have h2:=HK.out.2.2
  have h3:=pow_4800_4863
  rw [hQ] at hs
  have hs':((am * bm * 2 ^ place:Nat):Int) < ((2 ^ 4800:Nat):Int):=by exact_mod_cast hs
  unfold Hid sv
  generalize am * bm * 2 ^ place = X at *
  generalize ((2 ^ 4800:Nat):Int) = L at *
  generalize ((2 ^ 4863:Nat):Int) = M at *
  split <;> omega
 have hpw:ax + bx + n + 2240 = 64 * (k:Int) + nn:=by omega
 have hnn64:nn < 64:=by omega
 have hk76:k + 3 <= 76:=by omega
 have hml:=Tryz.bits_Mul64 am bm (by omega) (by omega) w1
 rw [hhi,hlo] at hml
 have HML:Hid _:=hml
 have hab:-5000 <= ax + bx /\ ax + bx <= 5000 /\ -5000 <= ax + bx + n /\ ax + bx + n <= 5000:=by omega
 have HPW:Hid _:=hpw
 have HM:Hid (Calls Tryz.prog 81 #[.int .u64 (am:Int),.int .u64 (bm:Int)] w1 fun e w'=>e = .returned (.tuple #[.int .u64 (high:Int),.int .u64 (low:Int)]) /\ w' = w1):=hml
 have HNG:Hid _:=hng
 have d1:decide (n < -64) = false:=decide_eq_false (by omega)
 have d2:decide (64 < n) = false:=decide_eq_false (by omega)
 clear HML hml hpw hmb hpk hhi hlo hk hnn hpl hpa hpb a1 a2 a3 a4 b1 b2 b3 b4 HPZ hng fa fb
 go_wp2_with fail
 refine (bad_any B (some z) _ HB.out).mono ?_
 rintro e w2 ⟨rfl,rfl⟩
 go_wp2_with fail
 refine Calls.mono HM.out ?_
 rintro e w2 ⟨rfl,rfl⟩
 go_wp2_with fail
 obtain ⟨sa,hsa⟩:∃ sa,fneg a = sa:=⟨_,rfl⟩
 obtain ⟨sb,hsb⟩:∃ sb,fneg b = sb:=⟨_,rfl⟩
 have hng:=HNG.out
 rw [hsa,hsb] at hng
 have HSA:Hid (∀ w:World,Calls Tryz.prog 83 #[.float .f64 a] w fun e w'=>e = .returned (.bool sa) /\ w' = w):=fun w=>by rw [<- hsa];exact signbit_any a ha w
 have HSB:Hid (∀ w:World,Calls Tryz.prog 83 #[.float .f64 b] w fun e w'=>e = .returned (.bool sb) /\ w' = w):=fun w=>by rw [<- hsb];exact signbit_any b hb w
 have hng2:(!sa == sb) = ng:=hng
 have v1:IntKind.i64.wrap (ax + bx) = ax + bx:=by rw [IntKind.wrap_i64];omega
 have v2:IntKind.i64.wrap (ax + bx + n) = ax + bx + n:=by rw [IntKind.wrap_i64];omega
 clear hsa hsb HNG
 have HPUT:Hid (Calls Tryz.prog 82 #[.pointer (some ⟨B,0,none⟩),.int .u64 (high:Int),.int .u64 (low:Int),.int .i64 (ax + bx + n),.bool ng] w2.drew fun e w'=>e = .returned (.tuple #[]) /\ ∃ h,Wds w' B h /\ Mut B w2.drew w' /\ Tc h (z + sv ng ((high * 18446744073709551616 + low) * 2 ^ (64 * k + nn)))):=
  put_any B f z high low k nn (ax + bx + n) ng hk76 hnn64 HPW.out hll hhl _ HK.out.1.drew HK.out.2.1 HBD.out.1 HBD.out.2
 clear HBD HPW
 go_region_held3 (fun w'=>True) (trivial) ((first | (go_at_call_of 83 (Value.float FloatKind.f64 a);refine Calls.mono (HSA.out _) ?_;rintro e w' ⟨rfl,rfl⟩) | (go_at_call_of 83 (Value.float FloatKind.f64 b);refine Calls.mono (HSB.out _) ?_;rintro e w' ⟨rfl,rfl⟩) | (go_at_call 82;refine Calls.mono HPUT.out ?_;rintro e w3 ⟨rfl,h,j1,j2,j3⟩)))
 have HJ:Hid _:=And.intro j1 j3
 have HT:Hid (w3.cell? ⟨B,76,none⟩ = some (.bool false) /\ w3.frozen? ⟨B,76,none⟩ = false):=⟨j2.top.1.trans HC0.out.1,j2.top.2.trans HC0.out.2⟩
 have HM:Hid (Chg B w2 w3):=(Chg.refl B w2).drew.trans j2.chg
 have HTP:Hid (∀ j,77 <= j -> w3.cell? ⟨B,j,none⟩ = none):=fun j hj=>(j2.high j (by omega)).trans (HB.out.top j hj)
 clear j1 j2 j3
 go_wp2_with fail
 refine (settle_any B h _ _ HJ.out.1 HJ.out.2 HT.out.1 HT.out.2 HTP.out).mono ?_
 rintro e w4 ⟨rfl,s1,s2⟩
 have HS:Hid _:=And.intro s1 s2
 clear s1 s2
 go_wp2_with fail
 go_end0
 exact ⟨rfl,by rw [HE.out];exact HS.out.1,HM.out.trans HS.out.2⟩
theorem accProd_any (B:Nat) (o:Option Int) (a b:Nat) (n:Int) (ha:a < 18446744073709551616) (hb:b < 18446744073709551616) (w:World) (hB:AccO w B o) :
  Calls Tryz.prog 50 #[.pointer (some ⟨B,0,none⟩),.float .f64 a,.float .f64 b,.int .i64 n] w fun e w'=>e = .returned (.tuple #[]) /\ AccO w' B (prodO o a b n) /\ Chg B w w':=by
 by_cases h:o ≠ none /\ Fin a /\ Fin b /\ -64 <= n /\ n <= 64
 ·obtain ⟨h0,h1,h2,h3,h4⟩:=h
  cases o with
  | none=>exact absurd rfl h0
  | some z=>
   have:prodO (some z) a b n = holdZ (z + prodZ a b n):=if_pos ⟨h1,h2,h3,h4⟩
   rw [this]
   exact prod_adds B z a b n ha hb w hB h1 h2 h3 h4
 ·have:prodO o a b n = none:=by
   cases o with
   | none=>rfl
   | some z=>exact if_neg (fun c=>h ⟨by simp,c⟩)
  rw [this]
  exact prod_spoils B o a b n ha hb w hB h
theorem accAdd_any (B:Nat) (o:Option Int) (a:Nat) (ha:a < 18446744073709551616) (w:World) (hB:AccO w B o) :
  Calls Tryz.prog 44 #[.pointer (some ⟨B,0,none⟩),.float .f64 a] w fun e w'=>e = .returned (.tuple #[]) /\ AccO w' B (prodO o a 4607182418800017408 0) /\ Chg B w w':=by
 have HB:Hid _:=hB
 clear hB
 go_enter Tryz.func44,Tryz.ntmps44
 go_wp2_with fail
 refine (accProd_any B o a 4607182418800017408 0 ha (by omega) _ HB.out).mono ?_
 rintro e w1 ⟨rfl,h1,h2⟩
 have HS:Hid _:=And.intro h1 h2
 clear h1 h2
 go_wp2_with fail
 go_end0
 exact ⟨rfl,HS.out.1,HS.out.2⟩
def dotK (us vs:List Nat):Nat -> Option Int
 | 0=>some 0
 | k + 1=>prodO (dotK us vs k) (us[k]?.getD 0) (vs[k]?.getD 0) 0
theorem cell_heapJ {w w':World} {b:Nat} (h:w'.heap[b]? = w.heap[b]?) (o:Nat):w'.cell? ⟨b,o,none⟩ = w.cell? ⟨b,o,none⟩:=by unfold World.cell?;simp only [h]
theorem dot_any (ao bo:Option Addr) (len cap blen bcap:Nat) (us vs:List Nat) (hle:len <= blen) (w:World) (h:RdF w ao len cap us) (h':RdF w bo blen bcap vs) :
  Calls Tryz.prog 48 #[.slice ao len cap,.slice bo blen bcap] w fun e w'=>e = .returned (.pointer (some ⟨w.heap.size,0,none⟩)) /\ AccO w' w.heap.size (dotK us vs len) /\ Below w.heap.size w w' /\ w.heap.size < w'.heap.size:=by
 have HR:Hid _:=And.intro h h'
 have hmx:len <= 9223372036854775807:=Nat.le_trans h.max maxLen_le
 have HLN:Hid (us.length = len /\ vs.length = blen):=⟨h.length,h'.length⟩
 clear h h'
 go_enter Tryz.func48,Tryz.ntmps48
 go_wp2_with fail
 refine (new_any _).mono ?_
 rintro e w1 ⟨rfl,a1,b1,s1⟩
 have HA1:Hid _:=a1
 have HB1:Hid _:=b1
 have HS1:Hid (w.heap.size < w1.heap.size):=by unfold Hid;omega
 clear a1 b1 s1
 go_wp2_with fail
 go_loopg [10] len (fun g iv wx=>∃ k:Nat,iv = .int .i64 k /\ k + g = len /\ Hid (AccO wx w.heap.size (dotK us vs k)) /\ Hid (Below w.heap.size w wx) /\ Hid (w.heap.size < wx.heap.size))
 case atStart=>exact ⟨0,rfl,by omega,HA1,HB1,HS1⟩
 case round=>
  clear HA1 HB1 HS1
  obtain ⟨k,rfl,hk,HA,HB,HS⟩:=hrel
  by_cases hlt:k < len
  ·have hd:decide ((k:Int) < (len:Int)) = true:=decide_eq_true (by omega)
   obtain ⟨g,rfl⟩:∃ g,gk = g + 1:=⟨gk - 1,by omega⟩
   rcases (HR.out.1.later HB.out).cells with h0 | ⟨ab,aoff,rfl,hca⟩
   ·omega
   rcases (HR.out.2.later HB.out).cells with h0 | ⟨bb,boff,rfl,hcb⟩
   ·omega
   have ga:=hca k hlt
   have gb:=hcb k (by omega)
   have hax:=HR.out.1.lt _ (getD_mem (us:=us) (j:=k) (by rw [HLN.out.1];exact hlt))
   have hbx:=HR.out.2.lt _ (getD_mem (us:=vs) (j:=k) (by rw [HLN.out.2];omega))
   have HD:Hid (dotK us vs (k + 1) = prodO (dotK us vs k) (us[k]?.getD 0) (vs[k]?.getD 0) 0):=rfl
   have HAB:Hid (ab < w.heap.size /\ bb < w.heap.size):=by
    constructor
    ·rcases HR.out.1.cells with h0 | ⟨b,off,e,hc⟩
     ·omega
     ·cases e;exact World.block_lt_of_cell? w _ (hc k hlt)
    ·rcases HR.out.2.cells with h0 | ⟨b,off,e,hc⟩
     ·omega
     ·cases e;exact World.block_lt_of_cell? w _ (hc k (by omega))
   obtain ⟨x,hx⟩:∃ x,us[k]?.getD 0 = x:=⟨_,rfl⟩
   obtain ⟨y,hy⟩:∃ y,vs[k]?.getD 0 = y:=⟨_,rfl⟩
   rw [hx,hy] at HD
   rw [hx] at ga hax
   rw [hy] at gb hbx
   have HIG:Hid (k + (g + 1) = len):=hk
   have hlt2:k < blen:=by omega
   clear hca hcb hx hy hk
   go_upto_region 5 with fail
   have hS:(fun w'=>w'.cell? ⟨ab,aoff + k,none⟩ = some (.float .f64 x) /\ w'.cell? ⟨bb,boff + k,none⟩ = some (.float .f64 y)) wr.drew:=⟨ga,gb⟩
   refine wp_region_noPanic ?_
   refine wp_region_held_drew (S:=(fun w'=>w'.cell? ⟨ab,aoff + k,none⟩ = some (.float .f64 x) /\ w'.cell? ⟨bb,boff + k,none⟩ = some (.float .f64 y))) (by kernel_rfl) hS (fun _=>?_)
   refine tzI 13 0 ?_ ?_ (by assumption) ?_
   rotate_left
   ·intro w' hSw;(try dsimp only at hSw);go_simp;try with_reducible rfl
   try simp only [pA,pE,pB,pC,pD]
   refine tzI 14 1 ?_ ?_ (by assumption) ?_
   rotate_left
   ·intro w' hSw;(try dsimp only at hSw);go_simp;try with_reducible rfl
   try simp only [pA,pE,pB,pC,pD]
   refine tzI 15 2 ?_ ?_ (by assumption) ?_
   rotate_left
   ·intro w' hSw;(try dsimp only at hSw);go_simp;try with_reducible rfl
   try simp only [pA,pE,pB,pC,pD]
   refine tzI 16 3 ?_ ?_ (by assumption) ?_
   rotate_left
   ·intro w' hSw;(try dsimp only at hSw);go_simp;try with_reducible rfl
   try simp only [pA,pE,pB,pC,pD]
   refine tzI 17 4 ?_ ?_ (by assumption) ?_
   rotate_left
   ·intro w' hSw;(try dsimp only at hSw);go_simp;try with_reducible rfl
   try simp only [pA,pE,pB,pC,pD]
   refine tzI 18 5 ?_ ?_ (by assumption) ?_
   rotate_left
   ·intro w' hSw;(try dsimp only at hSw);go_simp;try with_reducible rfl
   try simp only [pA,pE,pB,pC,pD]
   refine tzI 19 6 ?_ ?_ (by assumption) ?_
   rotate_left
   ·intro w' hSw;(try dsimp only at hSw);go_simp;try with_reducible rfl
   try simp only [pA,pE,pB,pC,pD]
   refine tzI 20 7 ?_ ?_ (by assumption) ?_
   rotate_left
   ·intro w' hSw;(try dsimp only at hSw);go_simp;try with_reducible rfl
   try simp only [pA,pE,pB,pC,pD]
   refine tzI 21 8 ?_ ?_ (by assumption) ?_
   rotate_left
   ·intro w' hSw;(try dsimp only at hSw);go_simp;try with_reducible rfl
   try simp only [pA,pE,pB,pC,pD]
   refine rzH [9] ?_
   refine consH _ rfl (hzC 22 (Calls.mono (accProd_any w.heap.size _ x y 0 hax hbx _ (HA.out.drew)) ?_)) AllReadyH.nil
   rintro e w5 ⟨rfl,a5,c5⟩
   have hS5:(fun w'=>w'.cell? ⟨ab,aoff + k,none⟩ = some (.float .f64 x) /\ w'.cell? ⟨bb,boff + k,none⟩ = some (.float .f64 y)) w5:=⟨(cell_heapJ (c5.other _ (Nat.lt_of_lt_of_le HAB.out.1 HB.out.size) (Nat.ne_of_lt HAB.out.1)) _).trans ga,(cell_heapJ (c5.other _ (Nat.lt_of_lt_of_le HAB.out.2 HB.out.size) (Nat.ne_of_lt HAB.out.2)) _).trans gb⟩
   refine ⟨_,rfl,hS5,?_⟩
   try simp only [pA,pE,pB,pC,pD]
   refine wpAnyH_done (by kernel_rfl) ?_ _
   refine NoPanic.normal ?_
   try simp only [pA,pE,pB,pC,pD]
   have HA5:Hid (AccO w5 w.heap.size (dotK us vs (k + 1))):=by unfold Hid;rw [HD.out];exact a5
   have HB5:Hid (Below w.heap.size w w5):=HB.out.drew.trans c5.below
   have HS5:Hid (w.heap.size < w5.heap.size):=Nat.lt_of_lt_of_le HS.out c5.below.size
   clear hS hS5 a5 c5 ga gb hax hbx HAB HD
   go_wp2_with fail
   go_roundg g
   case measure=>omega
   case rel=>exact ⟨k + 1,by go_num,by have:=HIG.out;omega,HA5,HB5,HS5⟩
  ·have hd:decide ((k:Int) < (len:Int)) = false:=decide_eq_false (by omega)
   have hd':decide (k < len) = false:=decide_eq_false (by omega)
   have HA2 : Hid (AccO wr w.heap.size (dotK us vs len)) := by have e : k = len := by omega
                                                               exact e ▸ HA.out
   go_wp2_with fail
   go_ret
   exact ⟨rfl,HA2.out,HB.out,HS.out⟩
open Go.RowKit Go.Shelf
attribute [local go_sem] Oper.semAt_some
theorem columns_any (v:Array Value) (hv:v.size = 6) (w:World):Calls Tryz.prog 32 #[.agg v] w fun e w'=>e = .returned (.func (.func 58) #[] #[.pointer (some ⟨w.heap.size,0,none⟩)]) /\ w' = w.alloc (.cells v 26):=callsIn_wide.1 (columns_in Fence.wide 3 trivial rfl v hv w)
theorem res_tmp2J (f:Func) (i j:Nat) (hf:f.results = #[ResultVar.tmp i,ResultVar.tmp j]) (tmps:Array Value) (W:World) (a b:Value) (h1:tmps[i]? = some a) (h2:tmps[j]? = some b):(results f tmps).run Tryz.prog W = .ok (.tuple #[a,b]) W:=by
 simp [results,hf,h1,h2]
theorem heap_keptJ {W W':World} {row:Option Nat} {b:Nat} {c:Array Value} {t:TypeId} (h:W.heap[b]? = some (.cells c t)) (hg:W.grownBy W' row) (hr:∀ r,row = some r -> ∃ o,W.heap[r]? = some o /\ o.isCells = false):W'.heap[b]? = some (.cells c t):=by
 rw [hg.block b (blk_lt h) ?_]
 ·exact h
 ·intro e
  obtain ⟨o,ho,hc⟩:=hr b e.symm
  rw [h] at ho
  cases ho
  cases hc
theorem AccO.obj {w:World} {B:Nat} {o:Option Int} (h:AccO w B o):∃ x,w.heap[B]? = some x /\ x.isCells = true:=by
 have hc:=h.cell
 unfold World.cell? at hc
 cases hx:w.heap[B]? with
 | none=>rw [hx] at hc;cases hc
 | some x=>
  refine ⟨x,rfl,?_⟩
  rw [hx] at hc
  cases x <;> first | rfl | (simp at hc)
theorem AccO.keptJ {W W':World} {row:Option Nat} {B:Nat} {o:Option Int} (h:AccO W B o) (hg:W.grownBy W' row) (hr:∀ r,row = some r -> ∃ o,W.heap[r]? = some o /\ o.isCells = false):AccO W' B o:=by
 refine h.heap (hg.block B h.block ?_)
 intro e
 obtain ⟨o,ho,hc⟩:=hr B e.symm
 obtain ⟨x,hx,hx'⟩:=h.obj
 rw [hx] at ho
 cases ho
 rw [hx'] at hc
 cases hc
theorem keepsJ {W w5 w7:World} {B:Nat} {o:Option Int} (ha:AccO W B o) (h5:Below W.heap.size W w5) (h7:∀ k,k < W.heap.size -> k ≠ B -> w7.heap[k]? = w5.heap[k]?) (hs:w5.heap.size <= w7.heap.size):KeepsOthers W w7:=by
 refine ⟨Nat.le_trans h5.size hs,fun k o hk hc=>?_⟩
 have hlt:=blk_lt hk
 rw [h7 k hlt ?_,h5.block k hlt]
 ·exact hk
 ·rintro rfl
  obtain ⟨x,hx,hx'⟩:=ha.obj
  rw [hx] at hk
  cases hk
  rw [hx'] at hc
  cases hc
def colsJ (z:ZD) (ds:List Nat) (dl:Nat) (o:Option Int) (pre:List (_root_.Fin z.dn)):Option Int:=pre.foldl (fun o k=>joinO o (absO (dotK ds (z.gs[k.val]?.getD []) dl)) false) o
theorem colsJ_snoc (z:ZD) (ds:List Nat) (dl:Nat) (o:Option Int) (pre:List (_root_.Fin z.dn)) (x:_root_.Fin z.dn):colsJ z ds dl o (pre ++ [x]) = joinO (colsJ z ds dl o pre) (absO (dotK ds (z.gs[x.val]?.getD []) dl)) false:=by unfold colsJ;rw [List.foldl_append];rfl
def boxJ (ds rs:List Nat) (o:Option Int):Nat -> Option Int
 | 0=>o
 | k + 1=>prodO (boxJ ds rs o k) (frung (ds[k]?.getD 0)) (rs[k]?.getD 0) 0
def supO (z:ZD) (ds:List Nat):Option Int:=boxJ ds z.rs (colsJ z ds ds.length (dotK ds z.cs ds.length) (List.finRange z.dn)) z.rs.length
theorem frung_ltJ {u:Nat} (h:u < 18446744073709551616):frung u < 18446744073709551616:=by unfold frung;omega
theorem support_ok (z:ZD) (dO:Option Addr) (dl dcap:Nat) (ds:List Nat) (w:World) (hz:ZR w z) (hdr:RdF w dO dl dcap ds) (hc:checkB z = true) (hb:z.bad = false) (hn:numN ds z.N = true) (hw:z.dn = z.gn /\ z.cs.length = ds.length /\ z.rs.length = ds.length /\ ∀ k,k < z.dn -> (z.gs[k]?.getD []).length = ds.length) :
  Calls Tryz.prog 27 #[.agg #[.int .i64 z.N,.slice z.co z.cn z.cc,.slice z.io z.dn z.dc,.slice z.go z.gn z.gc,.slice z.ro z.rn z.rc,.bool z.bad],.slice dO dl dcap] w fun e w'=>(∃ u b,e = .returned (.tuple #[.float .f64 u,.bool b]) /\ RndO 1 (supO z ds) u b) /\ Below w.heap.size w w':=by
 obtain ⟨N,co,cn,cc,io,dn,dc,go,gn,gc,ro,rn,rc,bad,cs,ids,gv,gs,rs⟩:=z
 dsimp only at hb hn hw ⊢
 subst hb
 have X0:Below w.heap.size w ((w.alloc (.cells #[.int .i64 N,.slice co cn cc,.slice io dn dc,.slice go gn gc,.slice ro rn rc,.bool false] 26)).alloc (.cells #[.slice dO dl dcap] 22)):=((Below.refl _ w).alloc (Nat.le_refl _) _).alloc (by simp only [alloc_size];omega) _
 have Y0:((w.alloc (.cells #[.int .i64 N,.slice co cn cc,.slice io dn dc,.slice go gn gc,.slice ro rn rc,.bool false] 26)).alloc (.cells #[.slice dO dl dcap] 22)).heap[w.heap.size]? = _:=alloc_kept (heap_alloc_new w _) _
 have Y1:((w.alloc (.cells #[.int .i64 N,.slice co cn cc,.slice io dn dc,.slice go gn gc,.slice ro rn rc,.bool false] 26)).alloc (.cells #[.slice dO dl dcap] 22)).heap[w.heap.size + 1]? = _:=heap_at _ _ (w.heap.size + 1) (by simp only [alloc_size])
 have HT:Hid _:=taken_ok _ ((w.alloc (.cells #[.int .i64 N,.slice co cn cc,.slice io dn dc,.slice go gn gc,.slice ro rn rc,.bool false] 26)).alloc (.cells #[.slice dO dl dcap] 22)) (hz.later X0) hc
 dsimp only at HT
 have HZ:Hid (∀ W',Below w.heap.size w W' -> ZR W' ⟨N,co,cn,cc,io,dn,dc,go,gn,gc,ro,rn,rc,false,cs,ids,gv,gs,rs⟩):=fun W' hb=>hz.later hb
 have HDR:Hid (∀ W',Below w.heap.size w W' -> RdF W' dO dl dcap ds):=fun W' hb=>hdr.later hb
 have HW:Hid _:=hw
 have HLN:Hid (ds.length = dl /\ cs.length = cn /\ rs.length = rn /\ gs.length = gn):=⟨hdr.length,hz.c.length,hz.r.length,hz.g.length⟩
 obtain ⟨so,hso⟩:∃ so,supO ⟨N,co,cn,cc,io,dn,dc,go,gn,gc,ro,rn,rc,false,cs,ids,gv,gs,rs⟩ ds = so:=⟨_,rfl⟩
 have HSO:Hid (boxJ ds rs (colsJ ⟨N,co,cn,cc,io,dn,dc,go,gn,gc,ro,rn,rc,false,cs,ids,gv,gs,rs⟩ ds dl (dotK ds cs dl) (List.finRange dn)) rn = so):=by unfold Hid;rw [<- hso,<- HLN.out.1,<- HLN.out.2.2.1];rfl
 rw [hso]
 clear hz hdr hw hc hso
 refine (callsIn_wide (n:=3)).1 ?_
 refine callsIn_of_wp_marks Tryz.func27 rfl trivial ?_ rfl
 refine wpIn_wide.2 ?_
 simp only [Tryz.ntmps27,List.size_toArray,List.length_cons,List.length_nil,Nat.reduceAdd,Nat.reduceSub,Array.replicate_succ,Array.replicate_zero,List.push_toArray,List.append_toArray,List.nil_append,List.cons_append]
 go_upto_region 2 with (first
  | (go_at_call 16;refine Calls.mono HT.out ?_;rintro e w1 ⟨rfl,hb1⟩)
  | (refine wpList_store_row (by rfl) 26 _ _ (by rfl) w w.heap.size w.heap.size _ _ (by rfl) (by rfl) (kept hb1 Y0) (to_call X0 hb1) (Nat.le_refl _) 6 Tryz.infoZ (by rfl) (by rfl) (oneZ _ _ _ _ _ rfl rfl rfl rfl _) ?_;intro W2 e2 b2 s2 o2))
 have HK2:Hid (Below w.heap.size w W2 /\ W2.heap[w.heap.size]? = some (.cells #[.int .i64 N,.slice co cn cc,.slice io dn dc,.slice go gn gc,.slice ro rn rc,.bool false] 26) /\ W2.heap[w.heap.size + 1]? = some (.cells #[.slice dO dl dcap] 22)):=⟨b2,e2,(o2 _ (by omega)).trans (kept hb1 Y1)⟩
 clear X0 Y0 Y1 hb1 b2 s2 o2 HT e2
 obtain ⟨c0,c1,c2,c3,c4,c5⟩:=cells6 HK2.out.2.1
 have cd:=cellAtJ HK2.out.2.2 0 _ rfl
 go_upto_region 4 with (first | (go_at_call 47;refine Calls.mono (areNumbers_any dO dl dcap ds N _ (HDR.out _ HK2.out.1)) ?_;rintro e w' ⟨rfl,hw⟩;rw [hw];clear hw))
 go_upto_region 5 with (first | (go_at_call 48;refine Calls.mono (dot_any dO co dl dcap cn cc ds cs (by have:=HW.out.2.1;have:=HLN.out;omega) _ (HDR.out _ HK2.out.1) (HZ.out _ HK2.out.1).c) ?_;rintro e w3 ⟨rfl,a3,b3,s3⟩))
 have Z0:(w3.alloc (.cells #[.pointer (some ⟨W2.heap.size,0,none⟩)] 60)).heap[w.heap.size]? = some (.cells #[.int .i64 N,.slice co cn cc,.slice io dn dc,.slice go gn gc,.slice ro rn rc,.bool false] 26):=alloc_kept (kept b3 HK2.out.2.1) _
 have Z1:(w3.alloc (.cells #[.pointer (some ⟨W2.heap.size,0,none⟩)] 60)).heap[w.heap.size + 1]? = some (.cells #[.slice dO dl dcap] 22):=alloc_kept (kept b3 HK2.out.2.2) _
 have Z2:(w3.alloc (.cells #[.pointer (some ⟨W2.heap.size,0,none⟩)] 60)).heap[w3.heap.size]? = some (.cells #[.pointer (some ⟨W2.heap.size,0,none⟩)] 60):=heap_alloc_new w3 _
 have Z3:Below w.heap.size w (w3.alloc (.cells #[.pointer (some ⟨W2.heap.size,0,none⟩)] 60)):=(to_call HK2.out.1 b3).alloc (to_call HK2.out.1 b3).size _
 have Z4:AccO (w3.alloc (.cells #[.pointer (some ⟨W2.heap.size,0,none⟩)] 60)) W2.heap.size (dotK ds cs dl):=a3.heap (Below.heap_alloc w3 _ _ a3.block)
 have HSZ:Hid (w.heap.size < W2.heap.size /\ w.heap.size + 1 < W2.heap.size /\ W2.heap.size < w3.heap.size):=⟨Nat.lt_trans (Nat.lt_succ_self _) (blk_lt HK2.out.2.2),blk_lt HK2.out.2.2,a3.block⟩
 obtain ⟨X5,hX5⟩:∃ X5,w3.alloc (.cells #[.pointer (some ⟨W2.heap.size,0,none⟩)] 60) = X5:=⟨_,rfl⟩
 rw [hX5] at Z0 Z1 Z2 Z3 Z4 ⊢
 clear hX5 c0 c1 c2 c3 c4 c5 cd a3 b3 s3 HK2
 go_wp2_with (first
  | (refine wpList_load_row (by rfl) 26 _ (by rfl) w.heap.size _ (by rfl) Z0 _ Tryz.underlying26 rfl 6 Tryz.infoZ (by rfl) ?_)
  | (go_at_call 32;refine Calls.mono (columns_any _ rfl _) ?_;rintro e w' ⟨rfl,hw⟩;rw [hw];clear hw))
 have hsx:=blk_lt Z2
 have V0:(X5.alloc (.cells #[.int .i64 N,.slice co cn cc,.slice io dn dc,.slice go gn gc,.slice ro rn rc,.bool false] 26)).heap[w.heap.size]? = _:=alloc_kept Z0 _
 have V1:(X5.alloc (.cells #[.int .i64 N,.slice co cn cc,.slice io dn dc,.slice go gn gc,.slice ro rn rc,.bool false] 26)).heap[w.heap.size + 1]? = _:=alloc_kept Z1 _
 have V2:(X5.alloc (.cells #[.int .i64 N,.slice co cn cc,.slice io dn dc,.slice go gn gc,.slice ro rn rc,.bool false] 26)).heap[w3.heap.size]? = _:=alloc_kept Z2 _
 have V3:Below w.heap.size w (X5.alloc (.cells #[.int .i64 N,.slice co cn cc,.slice io dn dc,.slice go gn gc,.slice ro rn rc,.bool false] 26)):=Z3.alloc Z3.size _
 have V4:AccO (X5.alloc (.cells #[.int .i64 N,.slice co cn cc,.slice io dn dc,.slice go gn gc,.slice ro rn rc,.bool false] 26)) W2.heap.size (dotK ds cs dl):=Z4.heap (Below.heap_alloc X5 _ _ Z4.block)
 have V5:(X5.alloc (.cells #[.int .i64 N,.slice co cn cc,.slice io dn dc,.slice go gn gc,.slice ro rn rc,.bool false] 26)).heap[X5.heap.size]? = _:=heap_alloc_new X5 _
 obtain ⟨X,hX⟩:∃ X,X5.alloc (.cells #[.int .i64 N,.slice co cn cc,.slice io dn dc,.slice go gn gc,.slice ro rn rc,.bool false] 26) = X:=⟨_,rfl⟩
 rw [hX] at V0 V1 V2 V3 V4 V5 ⊢
 clear hX Z0 Z1 Z2 Z3 Z4
 have hxs:=blk_lt V5
 refine (wpIn_wide (n:=3)).1 ?_
 refine wpIn_rangeFunc_ownF rfl (by decide) (gf:=58) (lb:=#[.pointer (some ⟨X5.heap.size,0,none⟩)]) rfl trivial (enters_of Tryz.func58 (by kernel_rfl) rfl)
  (cols_stops Fence.wide 2 trivial rfl (by decide) X5.heap.size ⟨N,co,cn,cc,io,dn,dc,go,gn,gc,ro,rn,rc,false,cs,ids,gv,gs,rs⟩ (Nat.le_of_eq HW.out.1) w X V3 (HZ.out w (Below.refl _ _)) V5) KpZ.trans (kpZ_b V3.size hxs) (Below.refl _ _) (fun _=>rfl)
  (fun pre W=>(W.heap[w.heap.size]? = some (.cells #[.int .i64 N,.slice co cn cc,.slice io dn dc,.slice go gn gc,.slice ro rn rc,.bool false] 26) /\ W.heap[w.heap.size + 1]? = some (.cells #[.slice dO dl dcap] 22) /\ W.heap[w3.heap.size]? = some (.cells #[.pointer (some ⟨W2.heap.size,0,none⟩)] 60) /\ AccO W W2.heap.size (colsJ ⟨N,co,cn,cc,io,dn,dc,go,gn,gc,ro,rn,rc,false,cs,ids,gv,gs,rs⟩ ds dl (dotK ds cs dl) pre) /\ X5.heap.size < W.heap.size) /\ Below w.heap.size w W)
  (fun _ _ _=>False)
  (OwnFrom.and (Own.from (fun s A B row hs hg hr=>⟨heap_keptJ hs.1 hg hr,heap_keptJ hs.2.1 hg hr,heap_keptJ hs.2.2.1 hg hr,hs.2.2.2.1.keptJ hg hr,Nat.lt_of_lt_of_le hs.2.2.2.2 hg.size⟩) _) (ownFrom_below (Nat.le_refl _) V3.size))
  (fun _ _ _ _ _ hs _ _=>hs)
  ⟨⟨V0,V1,V2,V4,hxs⟩,V3⟩
  ?a1 ?assign ?body ?done ?stop
 case assign=>
  intro l x W K hK
  dsimp only [encZ]
  gi_wp2
  exact hK
 case body=>
  rintro l pre x W ⟨⟨h1,h2,h3,h4,hxl⟩,hB⟩ hlen
  have hg:=(HZ.out W hB).g.each x.val (Nat.lt_of_lt_of_le x.isLt (Nat.le_of_eq HW.out.1))
  dsimp only at hg
  have hgl:=HW.out.2.2.2 x.val x.isLt
  have HJ:Hid (colsJ ⟨N,co,cn,cc,io,dn,dc,go,gn,gc,ro,rn,rc,false,cs,ids,gv,gs,rs⟩ ds dl (dotK ds cs dl) (pre ++ [x]) = joinO (colsJ ⟨N,co,cn,cc,io,dn,dc,go,gn,gc,ro,rn,rc,false,cs,ids,gv,gs,rs⟩ ds dl (dotK ds cs dl) pre) (absO (dotK ds (gs[x.val]?.getD []) dl)) false):=colsJ_snoc _ _ _ _ _ _
  have HH:Hid _:=And.intro h1 (And.intro h2 h3)
  have H4:Hid _:=h4
  have hBl:=h4.block
  have cd:=cellAtJ h2 0 _ rfl
  have cs':=cellAtJ h3 0 _ rfl
  have HDot:Hid _:=dot_any dO (gv x.val).1 dl dcap (gv x.val).2.1 (gv x.val).2.2 ds (gs[x.val]?.getD []) (by have:=hg.length;have:=HLN.out.1;omega) W (HDR.out _ hB) hg
  clear h1 h2 h3 h4 hg hgl
  gi_wp2_with (first
   | (refine (⟨trivial,?_⟩:(Fence.inRound Fence.wide l).fn 48 /\ _);gi_at_call 48;refine (CallsIn.inRound l (callsIn_wide.2 HDot.out)).mono ?_;rintro e w5 ⟨rfl,a5,b5,s5⟩;have cs5:=cellAtJ (kept b5 HH.out.2.2) 0 _ rfl)
   | (refine (⟨trivial,?_⟩:(Fence.inRound Fence.wide l).fn 49 /\ _);gi_at_call 49;refine (CallsIn.inRound l (callsIn_wide.2 (accAbs_any W.heap.size _ w5 a5))).mono ?_;rintro e w6 ⟨rfl,a6,c6⟩;have cs6:=(cell_heapJ (c6.other _ (Nat.lt_of_lt_of_le (blk_lt HH.out.2.2) b5.size) (Nat.ne_of_lt (blk_lt HH.out.2.2))) 0).trans cs5)
   | (refine (⟨trivial,?_⟩:(Fence.inRound Fence.wide l).fn 45 /\ _);gi_at_call 45;refine (CallsIn.inRound l (callsIn_wide.2 (accJoin_any W2.heap.size W.heap.size _ _ false w6 ((H4.out.below b5 hBl).chg c6 (Nat.ne_of_lt hBl)) a6))).mono ?_;rintro e w7 ⟨rfl,a7,c7⟩))
  have hs5:=b5.size
  have hs6:=c6.below.size
  have hs7:=c7.below.size
  have hk7:∀ k,k < W.heap.size -> k ≠ W2.heap.size -> w7.heap[k]? = w5.heap[k]?:=fun k hk hne=>(c7.other k (by omega) hne).trans (c6.other k (by omega) (by omega))
  have hkW:∀ k,k < W.heap.size -> k ≠ W2.heap.size -> w7.heap[k]? = W.heap[k]?:=fun k hk hne=>(hk7 k hk hne).trans (b5.block k hk)
  have hsz:=HSZ.out
  have hb7:Below w.heap.size W w7:=(b5.mono hB.size).trans ((c6.below.mono hB.size).trans (c7.below.mono (by omega)))
  exact ⟨keepsJ H4.out b5 hk7 (by omega),⟨hb7,hkW _ hxl (by omega)⟩,⟨(hkW _ (blk_lt HH.out.1) (by omega)).trans HH.out.1,(hkW _ (blk_lt HH.out.2.1) (by omega)).trans HH.out.2.1,(hkW _ (blk_lt HH.out.2.2) (by omega)).trans HH.out.2.2,by rw [HJ.out];exact a7,by omega⟩,hB.trans hb7⟩
 case done=>
  rintro D ys W hD rfl ⟨⟨h1,h2,h3,h4,h5⟩,hB⟩ hK
  obtain ⟨oc,hoc⟩:∃ oc,colsJ ⟨N,co,cn,cc,io,dn,dc,go,gn,gc,ro,rn,rc,false,cs,ids,gv,gs,rs⟩ ds dl (dotK ds cs dl) (List.finRange dn) = oc:=⟨_,rfl⟩
  rw [hoc] at h4 HSO
  have c4:=(cells6 h1).2.2.2.2.1
  have HH0:Hid (W.heap[w.heap.size + 1]? = some (.cells #[.slice dO dl dcap] 22) /\ W.heap[w3.heap.size]? = some (.cells #[.pointer (some ⟨W2.heap.size,0,none⟩)] 60)):=⟨h2,h3⟩
  have H40:Hid _:=h4
  have HB0:Hid _:=hB
  have HK0:Hid _:=hK
  have hrm:rn <= 9223372036854775807:=Nat.le_trans (HZ.out w (Below.refl _ _)).r.max maxLen_le
  have hrd:rn = dl:=by have h1:=HLN.out;have h2:=HW.out.2.2.1;omega
  have HRD:Hid _:=hrd
  have hDw:w.heap.size <= D:=Nat.le_trans V3.size hD
  clear h1 h2 h3 h4 hB hK hoc hrd V0 V1 V2 V3 V4 V5
  go_wp2_with fail
  clear c4
  go_loopg [42] rn (fun g iv wx=>∃ k:Nat,iv = .int .i64 k /\ k + g = rn /\ Hid (wx.heap[w.heap.size + 1]? = some (.cells #[.slice dO dl dcap] 22) /\ wx.heap[w3.heap.size]? = some (.cells #[.pointer (some ⟨W2.heap.size,0,none⟩)] 60)) /\ Hid (AccO wx W2.heap.size (boxJ ds rs oc k)) /\ Hid (Below w.heap.size w wx) /\ Hid (wx.heap[D]? = some (.deferred (some []))))
  case atStart=>exact ⟨0,rfl,by omega,HH0,H40,HB0,HK0⟩
  case round=>
   clear HH0 H40 HB0 HK0
   obtain ⟨k,rfl,hk,HH,HA,HB,HK⟩:=hrel
   by_cases hlt:k < rn
   ·have hd:decide ((k:Int) < (rn:Int)) = true:=decide_eq_true (by omega)
    obtain ⟨g,rfl⟩:∃ g,gk = g + 1:=⟨gk - 1,by omega⟩
    have hlt2:k < dl:=by rw [<- HRD.out];exact hlt
    have hzr:=(HZ.out _ HB.out).r
    dsimp only at hzr
    rcases hzr.cells with h0 | ⟨rb,roff,rfl,hcr⟩
    ·omega
    have hdr:=HDR.out _ HB.out
    rcases hdr.cells with h0 | ⟨db,doff,rfl,hcd⟩
    ·omega
    have gr:=hcr k hlt
    have gd:=hcd k hlt2
    have hxl:=hdr.lt _ (getD_mem (us:=ds) (j:=k) (by have:=HLN.out.1;omega))
    have hyl:=hzr.lt _ (getD_mem (us:=rs) (j:=k) (by have:=HLN.out.2.2.1;omega))
    have HD:Hid (boxJ ds rs oc (k + 1) = prodO (boxJ ds rs oc k) (frung (ds[k]?.getD 0)) (rs[k]?.getD 0) 0):=rfl
    have HDB:Hid (db < w.heap.size):=by
     rcases (HDR.out w (Below.refl _ _)).cells with h0 | ⟨b,off,e,hc⟩
     ·omega
     ·cases e;exact World.block_lt_of_cell? w _ (hc k hlt2)
    obtain ⟨x,hx⟩:∃ x,ds[k]?.getD 0 = x:=⟨_,rfl⟩
    obtain ⟨y,hy⟩:∃ y,rs[k]?.getD 0 = y:=⟨_,rfl⟩
    rw [hx,hy] at HD
    rw [hx] at gd hxl
    rw [hy] at gr hyl
    have HIG:Hid (k + (g + 1) = rn):=hk
    clear hcr hcd hx hy hk hzr hdr
    go_upto_region 13 with fail
    have hS:(fun w'=>w'.cell? ⟨w3.heap.size,0,none⟩ = some (.pointer (some ⟨W2.heap.size,0,none⟩)) /\ w'.cell? ⟨w.heap.size + 1,0,none⟩ = some (.slice (some ⟨db,doff,none⟩) dl dcap) /\ w'.cell? ⟨db,doff + k,none⟩ = some (.float .f64 x)) wr.drew:=⟨cellAtJ HH.out.2 0 _ rfl,cellAtJ HH.out.1 0 _ rfl,gd⟩
    refine wp_region_noPanic ?_
    refine wp_region_held_drew (S:=(fun w'=>w'.cell? ⟨w3.heap.size,0,none⟩ = some (.pointer (some ⟨W2.heap.size,0,none⟩)) /\ w'.cell? ⟨w.heap.size + 1,0,none⟩ = some (.slice (some ⟨db,doff,none⟩) dl dcap) /\ w'.cell? ⟨db,doff + k,none⟩ = some (.float .f64 x))) (by kernel_rfl) hS (fun _=>?_)
    refine tzI 47 0 ?_ ?_ (by assumption) ?_
    rotate_left
    ·intro w' hSw;(try dsimp only at hSw);go_simp;try with_reducible rfl
    try simp only [pA,pE,pB,pC,pD]
    refine tzI 48 1 ?_ ?_ (by assumption) ?_
    rotate_left
    ·intro w' hSw;(try dsimp only at hSw);go_simp;try with_reducible rfl
    try simp only [pA,pE,pB,pC,pD]
    refine tzI 49 2 ?_ ?_ (by assumption) ?_
    rotate_left
    ·intro w' hSw;(try dsimp only at hSw);go_simp;try with_reducible rfl
    try simp only [pA,pE,pB,pC,pD]
    refine tzI 50 3 ?_ ?_ (by assumption) ?_
    rotate_left
    ·intro w' hSw;(try dsimp only at hSw);go_simp;try with_reducible rfl
    try simp only [pA,pE,pB,pC,pD]
    refine tzI 51 4 ?_ ?_ (by assumption) ?_
    rotate_left
    ·intro w' hSw;(try dsimp only at hSw);go_simp;try with_reducible rfl
    try simp only [pA,pE,pB,pC,pD]
    refine tzI 53 6 ?_ ?_ (by assumption) ?_
    rotate_left
    ·intro w' hSw;(try dsimp only at hSw);go_simp;try with_reducible rfl
    try simp only [pA,pE,pB,pC,pD]
    refine rzH [5] ?_
    refine consH _ rfl (hzC 52 (Calls.mono (abs_any x hxl _) ?_)) AllReadyH.nil
    rintro e m ⟨rfl,hm⟩
    subst hm
    refine ⟨_,rfl,hS,?_⟩
    try simp only [pA,pE,pB,pC,pD]
    refine rzH [7] ?_
    refine consH _ rfl (hzC 54 (Calls.mono (accProd_any W2.heap.size _ (frung x) y 0 (frung_ltJ hxl) hyl _ HA.out.drew) ?_)) AllReadyH.nil
    rintro e w5 ⟨rfl,a5,c5⟩
    have hkW:∀ k,k < wr.heap.size -> k ≠ W2.heap.size -> w5.heap[k]? = wr.heap[k]?:=c5.other
    have hsz:=HSZ.out
    have HH5:Hid (w5.heap[w.heap.size + 1]? = some (.cells #[.slice (some ⟨db,doff,none⟩) dl dcap] 22) /\ w5.heap[w3.heap.size]? = some (.cells #[.pointer (some ⟨W2.heap.size,0,none⟩)] 60)):=⟨(hkW _ (blk_lt HH.out.1) (by omega)).trans HH.out.1,(hkW _ (blk_lt HH.out.2) (by omega)).trans HH.out.2⟩
    have hS5:(fun w'=>w'.cell? ⟨w3.heap.size,0,none⟩ = some (.pointer (some ⟨W2.heap.size,0,none⟩)) /\ w'.cell? ⟨w.heap.size + 1,0,none⟩ = some (.slice (some ⟨db,doff,none⟩) dl dcap) /\ w'.cell? ⟨db,doff + k,none⟩ = some (.float .f64 x)) w5:=⟨cellAtJ HH5.out.2 0 _ rfl,cellAtJ HH5.out.1 0 _ rfl,(cell_heapJ (hkW db (Nat.lt_of_lt_of_le HDB.out HB.out.size) (by have:=HDB.out;omega)) _).trans gd⟩
    refine ⟨_,rfl,hS5,?_⟩
    try simp only [pA,pE,pB,pC,pD]
    refine wpAnyH_done (by kernel_rfl) ?_ _
    refine NoPanic.normal ?_
    try simp only [pA,pE,pB,pC,pD]
    have HA5:Hid (AccO w5 W2.heap.size (boxJ ds rs oc (k + 1))):=by unfold Hid;rw [HD.out];exact a5
    have HB5:Hid (Below w.heap.size w w5):=HB.out.drew.trans (c5.below.mono (by omega))
    have HK5:Hid (w5.heap[D]? = some (.deferred (some []))):=(hkW D (blk_lt HK.out) (fun e=>by subst e;obtain ⟨o,ho,hc⟩:=HA.out.obj;rw [HK.out] at ho;cases ho;cases hc)).trans HK.out
    clear hS hS5 hkW a5 c5 hsz gd HD hxl hyl
    go_wp2_with fail
    go_roundg g
    case measure=>omega
    case rel=>exact ⟨k + 1,by go_num,by have:=HIG.out;omega,HH5,HA5,HB5,HK5⟩
   ·have hd:decide ((k:Int) < (rn:Int)) = false:=decide_eq_false (by omega)
    have hd':decide (k < rn) = false:=decide_eq_false (by omega)
    have hkr:k = rn:=by omega
    have HA2:Hid (AccO wr W2.heap.size so):=by unfold Hid;rw [<- HSO.out];exact hkr ▸ HA.out
    clear hkr
    have cs':=cellAtJ HH.out.2 0 _ rfl
    go_wp2_with (first | (go_at_call 33;refine Calls.mono (accRound_any 1 W2.heap.size so _ HA2.out) ?_;rintro e w9 ⟨u,b,rfl,hr,b9⟩))
    have hK9:=kept b9 HK.out
    refine ⟨by simp,.inl ⟨_,_,rfl,run_takeDeferred hK9,?_⟩⟩
    refine ⟨_,res_tmp2J _ 4 5 (by kernel_rfl) _ _ _ _ (by rfl) (by rfl),⟨u,b,rfl,hr⟩,(to_call HB.out b9).trans (belowK_b (w:=w) (Nat.le_refl _) _ D _ _ (by omega) hK9 rfl rfl)⟩
 case stop=>
  rintro D c pre W _ _ h _
  exact h.elim
end Go.Proofs.YtmdjoaipkbnelaaGreat
namespace Go.Proofs.YtmdjoaipkbnelaaGreat
open Go.RowKit
theorem info3J {P:Program} {t:TypeId} {z:Value} {s b:Nat} (h:(P.info? t).map (fun i=>(i.zero,i.size,i.bytes)) = some (some z,s,b)):∃ i,P.info? t = some i /\ i.zero = some z /\ i.size = s /\ i.bytes = b:=by
 cases hi:P.info? t with
 | none=>simp [hi] at h
 | some i=>
  simp [hi] at h
  exact ⟨i,rfl,h.1,h.2.1,h.2.2⟩
theorem Tryz.infoPJ:(Tryz.prog.info? 60).map (fun i=>(i.zero,i.size,i.bytes)) = some (some (.pointer none),1,8):=by kernel_rfl
theorem Tryz.infoFJ:(Tryz.prog.info? 45).map (fun i=>(i.zero,i.size,i.bytes)) = some (some (.float .f64 0),1,8):=by kernel_rfl
def ptN (n:Nat):Array Value:=madeCells #[.pointer none] n
theorem ptN_at (n j:Nat) (h:j < n):(ptN n)[j]? = some (.pointer none):=by unfold ptN madeCells;simp [h,Nat.mod_one]
def flN (n:Nat):Array Value:=madeCells #[.float .f64 0] n
theorem flN_at (n j:Nat) (h:j < n):(flN n)[j]? = some (.float .f64 0):=by unfold flN madeCells;simp [h,Nat.mod_one]
theorem makeP (n:Nat) (hn:n <= 1000000) (w:World) :
  (Instr.makeSlice 55 (.int .i64 (n:Int)) (.int .i64 (n:Int))).run Tryz.prog w = .ok (.slice (some ⟨w.heap.size,0,none⟩) n n) (w.alloc (.cells (ptN n) 60)):=by
 obtain ⟨i0,hi,hz0,hz1,hz2⟩:=info3J Tryz.infoPJ
 have h:=run_makeSlice (P:=Tryz.prog) w 55 60 i0 (.pointer none) Tryz.underlying55 hi hz0 .i64 .i64 (n:Int) (n:Int) (by omega) (by omega) (by rw [hz1,Int.toNat_natCast];omega) (by rw [hz2];omega) (by omega)
 rw [Int.toNat_natCast,hz1,Nat.mul_one] at h
 exact h
theorem makeFJ (n:Nat) (hn:n <= 1000000) (w:World) :
  (Instr.makeSlice 22 (.int .i64 (n:Int)) (.int .i64 (n:Int))).run Tryz.prog w = .ok (.slice (some ⟨w.heap.size,0,none⟩) n n) (w.alloc (.cells (flN n) 45)):=by
 obtain ⟨i0,hi,hz0,hz1,hz2⟩:=info3J Tryz.infoFJ
 have h:=run_makeSlice (P:=Tryz.prog) w 22 45 i0 (.float .f64 0) Tryz.underlying22 hi hz0 .i64 .i64 (n:Int) (n:Int) (by omega) (by omega) (by rw [hz1,Int.toNat_natCast];omega) (by rw [hz2];omega) (by omega)
 rw [Int.toNat_natCast,hz1,Nat.mul_one] at h
 exact h
theorem frozen_heapJ {w w':World} {b:Nat} (h:w'.heap[b]? = w.heap[b]?) (o:Nat):w'.frozen? ⟨b,o,none⟩ = w.frozen? ⟨b,o,none⟩:=by unfold World.frozen?;simp only [h]
structure AcL (w:World) (g n:Nat) (p:Nat -> Nat) (os:Nat -> Option Int):Prop where
 row:∀ j,j < n -> w.cell? ⟨g,j,none⟩ = some (.pointer (some ⟨p j,0,none⟩))
 acc:∀ j,j < n -> AccO w (p j) (os j)
 gt:∀ j,j < n -> g < p j
 inj:∀ i j,i < n -> j < n -> p i = p j -> i = j
theorem AcL.heap {w w':World} {g n:Nat} {p:Nat -> Nat} {os:Nat -> Option Int} (h:AcL w g n p os) (hk:∀ k,g <= k -> k < w.heap.size -> w'.heap[k]? = w.heap[k]?) (hg:g < w.heap.size):AcL w' g n p os:=
 ⟨fun j hj=>(cell_heapJ (hk g (Nat.le_refl _) hg) j).trans (h.row j hj),fun j hj=>(h.acc j hj).heap (hk _ (Nat.le_of_lt (h.gt j hj)) (h.acc j hj).block),h.gt,h.inj⟩
theorem AcL.later {w w':World} {g n:Nat} {p:Nat -> Nat} {os:Nat -> Option Int} (h:AcL w g n p os) (hb:Below w.heap.size w w') (hg:g < w.heap.size):AcL w' g n p os:=h.heap (fun k _ hk=>hb.block k hk) hg
theorem AcL.set {w w':World} {g n i:Nat} {p:Nat -> Nat} {os:Nat -> Option Int} {o:Option Int} (h:AcL w g n p os) (hg:g < w.heap.size) (hi:i < n) (hc:Chg (p i) w w') (ho:AccO w' (p i) o):AcL w' g n p (fun j=>if j = i then o else os j):=by
 refine ⟨fun j hj=>(cell_heapJ (hc.other g hg (Nat.ne_of_lt (h.gt i hi))) j).trans (h.row j hj),fun j hj=>?_,h.gt,h.inj⟩
 by_cases e:j = i
 ·subst e;simp only [if_true];exact ho
 ·simp only [if_neg e]
  exact (h.acc j hj).chg hc (fun c=>e (h.inj j i hj hi c))
theorem chg_set {w w1 w3:World} {g n P:Nat} {v:Value} (hg:g < w.heap.size) (hP:P = w.heap.size) (b1:Below w.heap.size w w1) (c3:Chg P (w1.setCell ⟨g,n,none⟩ v) w3) (k:Nat) (hk:k < w.heap.size) (hne:k ≠ g):w3.heap[k]? = w.heap[k]?:=by
 have hs:(w1.setCell ⟨g,n,none⟩ v).heap.size = w1.heap.size:=by simp
 have h1:=b1.size
 rw [c3.other k (by omega) (by omega),heap_setCell_other _ _ _ _ hne,b1.block k hk]
theorem chg_row {w w1 w3:World} {g n P:Nat} {v:Value} (hg:g < w.heap.size) (hP:P = w.heap.size) (b1:Below w.heap.size w w1) (hc:(w1.cell? ⟨g,n,none⟩).isSome = true) (c3:Chg P (w1.setCell ⟨g,n,none⟩ v) w3) (j:Nat):w3.cell? ⟨g,j,none⟩ = if j = n then some v else w.cell? ⟨g,j,none⟩:=by
 have hs:(w1.setCell ⟨g,n,none⟩ v).heap.size = w1.heap.size:=by simp
 have h1:=b1.size
 rw [cell_heapJ (c3.other g (by omega) (by omega)) j]
 by_cases e:j = n
 ·subst e
  rw [if_pos rfl]
  exact World.cell?_setCell_same' _ _ _ hc
 ·rw [if_neg e,World.cell?_setCell_other _ _ _ _ (by intro c;cases c;exact e rfl)]
  exact b1.cell (p:=⟨g,j,none⟩) hg
theorem chg_froz {w w1 w3:World} {g n P:Nat} {v:Value} (hg:g < w.heap.size) (hP:P = w.heap.size) (b1:Below w.heap.size w w1) (c3:Chg P (w1.setCell ⟨g,n,none⟩ v) w3) (j:Nat):w3.frozen? ⟨g,j,none⟩ = w.frozen? ⟨g,j,none⟩:=by
 have hs:(w1.setCell ⟨g,n,none⟩ v).heap.size = w1.heap.size:=by simp
 have h1:=b1.size
 rw [frozen_heapJ (c3.other g (by omega) (by omega)) j,World.frozen?_setCell]
 exact frozen_heapJ (b1.block g hg) j
theorem AcL.push {w w1 w3:World} {g n P:Nat} {p:Nat -> Nat} {os:Nat -> Option Int} (h:AcL w g n p os) (hg:g < w.heap.size) (hP:P = w.heap.size) (b1:Below w.heap.size w w1) (hc:(w1.cell? ⟨g,n,none⟩).isSome = true) (c3:Chg P (w1.setCell ⟨g,n,none⟩ (.pointer (some ⟨P,0,none⟩))) w3) (a3:AccO w3 P (os n)):AcL w3 g (n + 1) (fun j=>if j = n then P else p j) os:=by
 refine ⟨fun j hj=>?_,fun j hj=>?_,fun j hj=>?_,fun i j hi hj e=>?_⟩
 ·rw [chg_row hg hP b1 hc c3 j]
  by_cases e:j = n
  ·simp only [if_pos e]
  ·simp only [if_neg e];exact h.row j (by omega)
 ·by_cases e:j = n
  ·subst e;simp only [if_true];exact a3
  ·simp only [if_neg e]
   have hj':j < n:=by omega
   have hg':=h.gt j hj'
   exact (h.acc j hj').heap (chg_set hg hP b1 c3 _ (h.acc j hj').block (by omega))
 ·by_cases e:j = n
  ·simp only [if_pos e];omega
  ·simp only [if_neg e];exact h.gt j (by omega)
 ·by_cases e1:i = n
  ·by_cases e2:j = n
   ·omega
   ·simp only [if_pos e1,if_neg e2] at e
    have:=(h.acc j (by omega)).block
    omega
  ·by_cases e2:j = n
   ·simp only [if_neg e1,if_pos e2] at e
    have:=(h.acc i (by omega)).block
    omega
   ·simp only [if_neg e1,if_neg e2] at e
    exact h.inj i j (by omega) (by omega) e
def accB (us:List Nat) (j:Nat):Option Int:=prodO (some 0) (us[j]?.getD 0) 4607182418800017408 0
theorem accsOf_any (ao:Option Addr) (len cap:Nat) (us:List Nat) (hl:len <= 100000) (w:World) (h:RdF w ao len cap us) :
  Calls Tryz.prog 34 #[.slice ao len cap] w fun e w'=>e = .returned (.slice (some ⟨w.heap.size,0,none⟩) len len) /\ (∃ p,AcL w' w.heap.size len p (accB us)) /\ Below w.heap.size w w' /\ w.heap.size < w'.heap.size:=by
 have HR:Hid _:=h
 have HLN:Hid _:=h.length
 clear h
 have hmk:=makeP len (by omega)
 go_enter Tryz.func34,Tryz.ntmps34
 go_wp2_with fail
 clear hmk
 go_loopg [11] len (fun g iv wx=>∃ k:Nat,iv = .int .i64 k /\ k + g = len /\ Hid (∃ p,AcL wx w.heap.size k p (accB us)) /\ Hid ((∀ j,j < len -> ∃ v,wx.cell? ⟨w.heap.size,j,none⟩ = some (.pointer v)) /\ (∀ j,wx.frozen? ⟨w.heap.size,j,none⟩ = false)) /\ Hid (Below w.heap.size w wx) /\ Hid (w.heap.size < wx.heap.size))
 case atStart=>
  refine ⟨0,rfl,by omega,⟨fun _=>0,⟨fun j hj=>by omega,fun j hj=>by omega,fun j hj=>by omega,fun i j hi=>by omega⟩⟩,⟨fun j hj=>⟨none,cellAtJ (heap_alloc_new w _) j _ (ptN_at len j hj)⟩,fun j=>frozen_of_row _ _ j _ _ (heap_alloc_new w _)⟩,(Below.refl _ w).alloc (Nat.le_refl _) _,?_⟩
  show w.heap.size < (w.alloc _).heap.size
  simp
 case round=>
  obtain ⟨k,rfl,hk,HP,HC,HB,HS⟩:=hrel
  by_cases hlt:k < len
  ·have hd:decide ((k:Int) < (len:Int)) = true:=decide_eq_true (by omega)
   obtain ⟨g,rfl⟩:∃ g,gk = g + 1:=⟨gk - 1,by omega⟩
   rcases (HR.out.later HB.out).cells with h0 | ⟨ab,aoff,rfl,hca⟩
   ·omega
   have ga:=hca k hlt
   have hax:=HR.out.lt _ (getD_mem (us:=us) (j:=k) (by rw [HLN.out];exact hlt))
   have HX:Hid (accB us k = prodO (some 0) (us[k]?.getD 0) 4607182418800017408 0):=rfl
   obtain ⟨x,hx⟩:∃ x,us[k]?.getD 0 = x:=⟨_,rfl⟩
   rw [hx] at ga hax HX
   have HIG:Hid (k + (g + 1) = len):=hk
   clear hca hx hk
   obtain ⟨pv,hpv⟩:=HC.out.1 k hlt
   go_wp2_with (first
    | (go_at_call 43;refine (new_any _).mono ?_;rintro e w1 ⟨rfl,a1,b1,s1⟩;have q1:=(b1.cell (p:=⟨w.heap.size,k,none⟩) HS.out).trans hpv;have q2:w1.frozen? ⟨w.heap.size,k,none⟩ = false:=(frozen_heapJ (b1.block _ HS.out) k).trans (HC.out.2 k))
    | (go_at_call 44;refine (accAdd_any wr.heap.size (some 0) x hax _ (a1.heap (heap_setCell_other _ _ _ _ (Nat.ne_of_gt HS.out)))).mono ?_;rintro e w3 ⟨rfl,a3,c3⟩))
   have hcs:(w1.cell? ⟨w.heap.size,k,none⟩).isSome = true:=by rw [q1];rfl
   have HP3:Hid (∃ p,AcL w3 w.heap.size (k + 1) p (accB us)):=by
    obtain ⟨p,hp⟩:=HP.out
    exact ⟨_,hp.push HS.out rfl b1 hcs c3 (by rw [HX.out];exact a3)⟩
   have HC3:Hid ((∀ j,j < len -> ∃ v,w3.cell? ⟨w.heap.size,j,none⟩ = some (.pointer v)) /\ (∀ j,w3.frozen? ⟨w.heap.size,j,none⟩ = false)):=by
    refine ⟨fun j hj=>?_,fun j=>(chg_froz HS.out rfl b1 c3 j).trans (HC.out.2 j)⟩
    rw [chg_row HS.out rfl b1 hcs c3 j]
    by_cases e:j = k
    ·exact ⟨_,if_pos e⟩
    ·rw [if_neg e];exact HC.out.1 j hj
   have hsS:(w1.setCell ⟨w.heap.size,k,none⟩ (.pointer (some ⟨wr.heap.size,0,none⟩))).heap.size = w1.heap.size:=by simp
   have HB3:Hid (Below w.heap.size w w3):=(HB.out.trans (b1.mono (Nat.le_of_lt HS.out))).trans (((Below.refl w.heap.size w1).setCell (p:=⟨w.heap.size,k,none⟩) (Nat.le_refl _) _).trans (c3.below.mono (Nat.le_of_lt HS.out)))
   have HS3:Hid (w.heap.size < w3.heap.size):=by unfold Hid;have h1:=c3.below.size;have h2:=b1.size;have h3:=HS.out;omega
   clear q1 q2 hcs a1 b1 s1 a3 c3 hsS hpv ga hax HX HP HC
   go_roundg g
   case measure=>omega
   case rel=>exact ⟨k + 1,by go_num,by have:=HIG.out;omega,HP3,HC3,HB3,HS3⟩
  ·have hd:decide ((k:Int) < (len:Int)) = false:=decide_eq_false (by omega)
   have hd':decide (k < len) = false:=decide_eq_false (by omega)
   have hkl:k = len:=by omega
   have HP2:Hid (∃ p,AcL wr w.heap.size len p (accB us)):=hkl ▸ HP.out
   clear hkl
   go_wp2_with fail
   go_ret
   exact ⟨rfl,HP2.out,HB.out,HS.out⟩
def addJ (us:List Nat) (os:Nat -> Option Int) (k j:Nat):Option Int:=if j < k then prodO (os j) (frung (us[j]?.getD 0)) 4607182418800017408 0 else os j
theorem addJ_succ (us:List Nat) (os:Nat -> Option Int) (k j:Nat):addJ us os (k + 1) j = if j = k then prodO (addJ us os k k) (frung (us[k]?.getD 0)) 4607182418800017408 0 else addJ us os k j:=by
 unfold addJ
 by_cases e:j = k
 ·subst e;rw [if_pos (by omega),if_pos rfl,if_neg (by omega)]
 ·rw [if_neg e]
  by_cases h:j < k
  ·rw [if_pos (by omega),if_pos h]
  ·rw [if_neg (by omega),if_neg h]
theorem addSizes_any (gB n gc:Nat) (p:Nat -> Nat) (os:Nat -> Option Int) (ao:Option Addr) (len cap:Nat) (us:List Nat) (hln:len <= n) (w:World) (hG:gB < w.heap.size) (hA:AcL w gB n p os) (h:∀ W',Below gB w W' -> RdF W' ao len cap us) :
  Calls Tryz.prog 35 #[.slice (some ⟨gB,0,none⟩) n gc,.slice ao len cap] w fun e w'=>e = .returned (.tuple #[]) /\ AcL w' gB n p (addJ us os len) /\ Below gB w w' /\ (∀ k,k < w.heap.size -> (∀ j,j < n -> k ≠ p j) -> w'.heap[k]? = w.heap[k]?):=by
 have HR:Hid _:=h
 have h0:=h w (Below.refl _ _)
 have hmx:len <= 9223372036854775807:=Nat.le_trans h0.max maxLen_le
 have HLN:Hid _:=h0.length
 have HA0:Hid (AcL w gB n p (addJ us os 0)):=⟨hA.row,fun j hj=>by unfold addJ;rw [if_neg (by omega)];exact hA.acc j hj,hA.gt,hA.inj⟩
 have HG0:Hid _:=hG
 clear h h0 hA hG
 go_enter Tryz.func35,Tryz.ntmps35
 go_wp2_with fail
 go_loopg [8] len (fun g iv wx=>∃ k:Nat,iv = .int .i64 k /\ k + g = len /\ Hid (AcL wx gB n p (addJ us os k)) /\ Hid (Below gB w wx) /\ Hid (∀ k,k < w.heap.size -> (∀ j,j < n -> k ≠ p j) -> wx.heap[k]? = w.heap[k]?) /\ Hid (gB < wx.heap.size))
 case atStart=>exact ⟨0,rfl,by omega,HA0,Below.refl _ _,fun _ _ _=>rfl,HG0⟩
 case round=>
  clear HA0 HG0
  obtain ⟨k,rfl,hk,HA,HB,HO,HG⟩:=hrel
  by_cases hlt:k < len
  ·have hd:decide ((k:Int) < (len:Int)) = true:=decide_eq_true (by omega)
   obtain ⟨g,rfl⟩:∃ g,gk = g + 1:=⟨gk - 1,by omega⟩
   have hkn:k < n:=by omega
   have hr:=HR.out _ HB.out
   rcases hr.cells with h0 | ⟨ab,aoff,rfl,hca⟩
   ·omega
   have ga:=hca k hlt
   have hax:=hr.lt _ (getD_mem (us:=us) (j:=k) (by rw [HLN.out];exact hlt))
   obtain ⟨x,hx⟩:∃ x,us[k]?.getD 0 = x:=⟨_,rfl⟩
   have HX:Hid (us[k]?.getD 0 = x):=hx
   rw [hx] at ga hax
   have HIG:Hid (k + (g + 1) = len):=hk
   clear hca hx hk hr
   go_upto_region 3 with fail
   have hS:(fun w'=>w'.cell? ⟨gB,k,none⟩ = some (.pointer (some ⟨p k,0,none⟩))) wr.drew:=HA.out.row k hkn
   refine wp_region_noPanic ?_
   refine wp_region_held_drew (S:=(fun w'=>w'.cell? ⟨gB,k,none⟩ = some (.pointer (some ⟨p k,0,none⟩)))) (by kernel_rfl) hS (fun _=>?_)
   refine tzI 13 0 ?_ ?_ (by assumption) ?_
   rotate_left
   ·intro w' hSw;(try dsimp only at hSw);go_simp;try with_reducible rfl
   try simp only [pA,pE,pB,pC,pD]
   refine tzI 14 1 ?_ ?_ (by assumption) ?_
   rotate_left
   ·intro w' hSw;(try dsimp only at hSw);go_simp;try with_reducible rfl
   try simp only [pA,pE,pB,pC,pD]
   refine tzI 15 2 ?_ ?_ (by assumption) ?_
   rotate_left
   ·intro w' hSw;(try dsimp only at hSw);go_simp;try with_reducible rfl
   try simp only [pA,pE,pB,pC,pD]
   refine tzI 16 3 ?_ ?_ (by assumption) ?_
   rotate_left
   ·intro w' hSw;(try dsimp only at hSw);go_simp;try with_reducible rfl
   try simp only [pA,pE,pB,pC,pD]
   refine tzI 17 4 ?_ ?_ (by assumption) ?_
   rotate_left
   ·intro w' hSw;(try dsimp only at hSw);go_simp;try with_reducible rfl
   try simp only [pA,pE,pB,pC,pD]
   refine rzH [5] ?_
   refine consH _ rfl (hzC 18 (Calls.mono (abs_any x hax _) ?_)) AllReadyH.nil
   rintro e m ⟨rfl,hm⟩
   subst hm
   refine ⟨_,rfl,hS,?_⟩
   try simp only [pA,pE,pB,pC,pD]
   refine rzH [6] ?_
   refine consH _ rfl (hzC 19 (Calls.mono (accAdd_any (p k) _ (frung x) (frung_ltJ hax) _ (HA.out.acc k hkn).drew) ?_)) AllReadyH.nil
   rintro e w5 ⟨rfl,a5,c5⟩
   have hgt:=HA.out.gt k hkn
   have hS5:(fun w'=>w'.cell? ⟨gB,k,none⟩ = some (.pointer (some ⟨p k,0,none⟩))) w5:=(cell_heapJ (c5.other gB HG.out (by omega)) k).trans (HA.out.row k hkn)
   refine ⟨_,rfl,hS5,?_⟩
   try simp only [pA,pE,pB,pC,pD]
   refine wpAnyH_done (by kernel_rfl) ?_ _
   refine NoPanic.normal ?_
   try simp only [pA,pE,pB,pC,pD]
   have HA5:Hid (AcL w5 gB n p (addJ us os (k + 1))):=by
    have h5:=AcL.set (w:=wr.drew) (HA.out.heap (fun _ _ _=>rfl) HG.out) HG.out hkn c5 a5
    refine ⟨h5.row,fun j hj=>?_,h5.gt,h5.inj⟩
    have h6:=h5.acc j hj
    rw [addJ_succ,HX.out]
    exact h6
   have HB5:Hid (Below gB w w5):=HB.out.drew.trans (c5.below.mono (by omega))
   have HO5:Hid (∀ k,k < w.heap.size -> (∀ j,j < n -> k ≠ p j) -> w5.heap[k]? = w.heap[k]?):=fun i hi hne=>(c5.other i (Nat.lt_of_lt_of_le hi HB.out.size) (hne k hkn)).trans (HO.out i hi hne)
   have HG5:Hid (gB < w5.heap.size):=Nat.lt_of_lt_of_le HG.out c5.below.size
   clear hS hS5 a5 c5 hax HX
   go_wp2_with fail
   go_roundg g
   case measure=>omega
   case rel=>exact ⟨k + 1,by go_num,by have:=HIG.out;omega,HA5,HB5,HO5,HG5⟩
  ·have hd:decide ((k:Int) < (len:Int)) = false:=decide_eq_false (by omega)
   have hd':decide (k < len) = false:=decide_eq_false (by omega)
   have hkl:k = len:=by omega
   have HA2:Hid (AcL wr gB n p (addJ us os len)):=hkl ▸ HA.out
   clear hkl
   go_wp2_with fail
   go_end0
   exact ⟨rfl,HA2.out,HB.out,HO.out⟩
open Go.RowKit Go.Shelf
attribute [local go_sem] Oper.semAt_some
theorem AcL.keptJ {W W':World} {row:Option Nat} {g n:Nat} {p:Nat -> Nat} {os:Nat -> Option Int} (h:AcL W g n p os) (hg:W.grownBy W' row) (hr:∀ r,row = some r -> ∃ o,W.heap[r]? = some o /\ o.isCells = false):AcL W' g n p os:=
 ⟨fun j hj=>cell_kept (h.row j hj) hg hr,fun j hj=>(h.acc j hj).keptJ hg hr,h.gt,h.inj⟩
theorem acc_ne {W:World} {P B:Nat} {o:Option Int} {c:Array Value} {t:TypeId} (h:AccO W P o) (hB:W.heap[B]? = some (.cells c t)) (hc:c.size <= 76):B ≠ P:=by
 rintro rfl
 have h1:=h.cell
 rw [cell_of_row _ _ _ _ _ _ hB,Array.getElem?_eq_none hc] at h1
 cases h1
def farC (z:ZD) (len:Nat) (os:Nat -> Option Int) (pre:List (_root_.Fin z.dn)):Nat -> Option Int:=pre.foldl (fun os k=>addJ (z.gs[k.val]?.getD []) os len) os
theorem farC_snoc (z:ZD) (len:Nat) (os:Nat -> Option Int) (pre:List (_root_.Fin z.dn)) (x:_root_.Fin z.dn):farC z len os (pre ++ [x]) = addJ (z.gs[x.val]?.getD []) (farC z len os pre) len:=by unfold farC;rw [List.foldl_append];rfl
def farZ (z:ZD):Nat -> Option Int:=farC z z.rn (accB z.rs) (List.finRange z.dn)
theorem reaches_any (z:ZD) (w:World) (hz:ZR w z) (hrn:z.rn <= 100000) (hdg:z.dn <= z.gn) (hw:∀ k,k < z.dn -> (z.gs[k]?.getD []).length = z.rn) :
  Calls Tryz.prog 21 #[.agg #[.int .i64 z.N,.slice z.co z.cn z.cc,.slice z.io z.dn z.dc,.slice z.go z.gn z.gc,.slice z.ro z.rn z.rc,.bool z.bad]] w fun e w'=>e = .returned (.slice (some ⟨w.heap.size + 1,0,none⟩) z.rn z.rn) /\ (∃ p,AcL w' (w.heap.size + 1) z.rn p (farZ z)) /\ Below w.heap.size w w' /\ w.heap.size + 1 < w'.heap.size:=by
 have HZ:Hid (∀ W',Below w.heap.size w W' -> ZR W' z):=fun W' hb=>hz.later hb
 obtain ⟨fz,hfz⟩:∃ fz,farZ z = fz:=⟨_,rfl⟩
 rw [hfz]
 have HFZ:Hid (farC z z.rn (accB z.rs) (List.finRange z.dn) = fz):=hfz
 have HW:Hid _:=hw
 clear hz hw hfz
 obtain ⟨N,co,cn,cc,io,dn,dc,go,gn,gc,ro,rn,rc,bad,cs,ids,gv,gs,rs⟩:=z
 dsimp only at HZ HFZ HW hrn hdg ⊢
 have X0:Below w.heap.size w (w.alloc (.cells #[.int .i64 N,.slice co cn cc,.slice io dn dc,.slice go gn gc,.slice ro rn rc,.bool bad] 26)):=(Below.refl _ w).alloc (Nat.le_refl _) _
 have hx0:(w.alloc (.cells #[.int .i64 N,.slice co cn cc,.slice io dn dc,.slice go gn gc,.slice ro rn rc,.bool bad] 26)).heap.size = w.heap.size + 1:=by simp
 refine (callsIn_wide (n:=3)).1 ?_
 refine callsIn_of_wp_marks Tryz.func21 rfl trivial ?_ rfl
 refine wpIn_wide.2 ?_
 simp only [Tryz.ntmps21,List.size_toArray,List.length_cons,List.length_nil,Nat.reduceAdd,Nat.reduceSub,Array.replicate_succ,Array.replicate_zero,List.push_toArray,List.append_toArray,List.nil_append,List.cons_append]
 go_upto_region 2 with (first | (go_at_call 34;refine Calls.mono (accsOf_any ro rn rc rs hrn _ (HZ.out _ X0).r) ?_;rintro e w1 ⟨rfl,a1,b1,s1⟩))
 obtain ⟨p,hp⟩:=a1
 rw [hx0] at hp s1
 have Z0:(w1.alloc (.cells #[.slice (some ⟨w.heap.size + 1,0,none⟩) rn rn] 55)).heap[w.heap.size]? = some (.cells #[.int .i64 N,.slice co cn cc,.slice io dn dc,.slice go gn gc,.slice ro rn rc,.bool bad] 26):=alloc_kept (kept b1 (heap_alloc_new w _)) _
 have Z1:(w1.alloc (.cells #[.slice (some ⟨w.heap.size + 1,0,none⟩) rn rn] 55)).heap[w1.heap.size]? = some (.cells #[.slice (some ⟨w.heap.size + 1,0,none⟩) rn rn] 55):=heap_alloc_new w1 _
 have Z2:Below w.heap.size w (w1.alloc (.cells #[.slice (some ⟨w.heap.size + 1,0,none⟩) rn rn] 55)):=(to_call X0 b1).alloc (to_call X0 b1).size _
 have Z3:AcL (w1.alloc (.cells #[.slice (some ⟨w.heap.size + 1,0,none⟩) rn rn] 55)) (w.heap.size + 1) rn p (accB rs):=hp.later ((Below.refl _ w1).alloc (Nat.le_refl _) _) s1
 obtain ⟨X5,hX5⟩:∃ X5,w1.alloc (.cells #[.slice (some ⟨w.heap.size + 1,0,none⟩) rn rn] 55) = X5:=⟨_,rfl⟩
 rw [hX5] at Z0 Z1 Z2 Z3 ⊢
 clear hX5 hp b1 X0 hx0
 go_wp2_with (first
  | (refine wpList_load_row (by rfl) 26 _ (by rfl) w.heap.size _ (by rfl) Z0 _ Tryz.underlying26 rfl 6 Tryz.infoZ (by rfl) ?_)
  | (go_at_call 32;refine Calls.mono (columns_any _ rfl _) ?_;rintro e w' ⟨rfl,hw⟩;rw [hw];clear hw))
 have hab:=blk_lt Z1
 have V1:(X5.alloc (.cells #[.int .i64 N,.slice co cn cc,.slice io dn dc,.slice go gn gc,.slice ro rn rc,.bool bad] 26)).heap[w1.heap.size]? = _:=alloc_kept Z1 _
 have V2:Below w.heap.size w (X5.alloc (.cells #[.int .i64 N,.slice co cn cc,.slice io dn dc,.slice go gn gc,.slice ro rn rc,.bool bad] 26)):=Z2.alloc Z2.size _
 have V3:AcL (X5.alloc (.cells #[.int .i64 N,.slice co cn cc,.slice io dn dc,.slice go gn gc,.slice ro rn rc,.bool bad] 26)) (w.heap.size + 1) rn p (accB rs):=Z3.later ((Below.refl _ X5).alloc (Nat.le_refl _) _) (by omega)
 have V5:(X5.alloc (.cells #[.int .i64 N,.slice co cn cc,.slice io dn dc,.slice go gn gc,.slice ro rn rc,.bool bad] 26)).heap[X5.heap.size]? = _:=heap_alloc_new X5 _
 obtain ⟨X,hX⟩:∃ X,X5.alloc (.cells #[.int .i64 N,.slice co cn cc,.slice io dn dc,.slice go gn gc,.slice ro rn rc,.bool bad] 26) = X:=⟨_,rfl⟩
 rw [hX] at V1 V2 V3 V5 ⊢
 clear hX Z0 Z1 Z2 Z3
 have hxs:=blk_lt V5
 refine (wpIn_wide (n:=3)).1 ?_
 refine wpIn_rangeFunc_ownF rfl (by decide) (gf:=58) (lb:=#[.pointer (some ⟨X5.heap.size,0,none⟩)]) rfl trivial (enters_of Tryz.func58 (by kernel_rfl) rfl)
  (cols_stops Fence.wide 2 trivial rfl (by decide) X5.heap.size ⟨N,co,cn,cc,io,dn,dc,go,gn,gc,ro,rn,rc,bad,cs,ids,gv,gs,rs⟩ hdg w X V2 (HZ.out w (Below.refl _ _)) V5) KpZ.trans (kpZ_b V2.size hxs) (Below.refl _ _) (fun _=>rfl)
  (fun pre W=>(W.heap[w1.heap.size]? = some (.cells #[.slice (some ⟨w.heap.size + 1,0,none⟩) rn rn] 55) /\ W.heap[X5.heap.size]? = some (.cells #[.int .i64 N,.slice co cn cc,.slice io dn dc,.slice go gn gc,.slice ro rn rc,.bool bad] 26) /\ AcL W (w.heap.size + 1) rn p (farC ⟨N,co,cn,cc,io,dn,dc,go,gn,gc,ro,rn,rc,bad,cs,ids,gv,gs,rs⟩ rn (accB rs) pre)) /\ Below w.heap.size w W)
  (fun _ _ _=>False)
  (OwnFrom.and (Own.from (fun s A B row hs hg hr=>⟨heap_keptJ hs.1 hg hr,heap_keptJ hs.2.1 hg hr,hs.2.2.keptJ hg hr⟩) _) (ownFrom_below (Nat.le_refl _) V2.size))
  (fun _ _ _ _ _ hs _ _=>hs)
  ⟨⟨V1,V5,V3⟩,V2⟩
  ?a1 ?assign ?body ?done ?stop
 case assign=>
  intro l x W K hK
  dsimp only [encZ]
  gi_wp2
  exact hK
 case body=>
  rintro l pre x W ⟨⟨h1,h2,h3⟩,hB⟩ hlen
  have hg:∀ W',Below (w.heap.size + 1) W W' -> RdF W' (gv x.val).1 (gv x.val).2.1 (gv x.val).2.2 (gs[x.val]?.getD []):=fun W' hb=>(HZ.out W' (hB.trans (hb.mono (by omega)))).g.each x.val (Nat.lt_of_lt_of_le x.isLt hdg)
  have hgl:=HW.out x.val x.isLt
  have hln:=(hg W (Below.refl _ _)).length
  have HJ:Hid (farC ⟨N,co,cn,cc,io,dn,dc,go,gn,gc,ro,rn,rc,bad,cs,ids,gv,gs,rs⟩ rn (accB rs) (pre ++ [x]) = addJ (gs[x.val]?.getD []) (farC ⟨N,co,cn,cc,io,dn,dc,go,gn,gc,ro,rn,rc,bad,cs,ids,gv,gs,rs⟩ rn (accB rs) pre) rn):=farC_snoc _ _ _ _ _
  have hGW:w.heap.size + 1 < W.heap.size:=by have:=blk_lt h1;omega
  have HC:Hid _:=addSizes_any (w.heap.size + 1) rn rn p _ _ _ _ _ (by omega) W hGW h3 hg
  rw [<- hln,hgl] at HC
  have cs':=cellAtJ h1 0 _ rfl
  have HH:Hid _:=And.intro h1 (And.intro h2 h3)
  rw [<- hln,hgl]
  clear h1 h2 h3 hg hgl
  gi_wp2_with (first
   | (refine (⟨trivial,?_⟩:(Fence.inRound Fence.wide l).fn 35 /\ _);gi_at_call 35;refine (CallsIn.inRound l (callsIn_wide.2 HC.out)).mono ?_;rintro e w7 ⟨rfl,a7,b7,o7⟩))
  have hne:∀ (k:Nat) (c:Array Value) (t:TypeId),W.heap[k]? = some (Obj.cells c t) -> c.size <= 76 -> w7.heap[k]? = some (Obj.cells c t):=fun k c t hk hc=>(o7 k (blk_lt hk) (fun j hj=>acc_ne (HH.out.2.2.acc j hj) hk hc)).trans hk
  have hko:KeepsOthers W w7:=⟨b7.size,fun k o hk hc=>(o7 k (blk_lt hk) (fun j hj e=>by subst e;obtain ⟨y,hy,hy'⟩:=(HH.out.2.2.acc j hj).obj;rw [hk] at hy;cases hy;rw [hc] at hy';cases hy')).trans hk⟩
  have hb7:Below w.heap.size W w7:=b7.mono (by omega)
  exact ⟨hko,⟨hb7,(hne _ _ _ HH.out.2.1 (by simp)).trans HH.out.2.1.symm⟩,⟨hne _ _ _ HH.out.1 (by simp),hne _ _ _ HH.out.2.1 (by simp),by rw [HJ.out];exact a7⟩,hB.trans hb7⟩
 case done=>
  rintro D ys W hD rfl ⟨⟨h1,h2,h3⟩,hB⟩ hK
  rw [HFZ.out] at h3
  have cs':=cellAtJ h1 0 _ rfl
  have hsz:w.heap.size + 1 < W.heap.size:=by have:=blk_lt h1;omega
  have hDw:w.heap.size <= D:=Nat.le_trans V2.size hD
  have HH:Hid _:=h3
  clear h1 h2 h3
  go_wp2_with fail
  refine ⟨by simp,.inl ⟨_,_,rfl,run_takeDeferred hK,?_⟩⟩
  have hgr:=grownBy_putObj' W D (.deferred none)
  have hrr:∀ r,some D = some r -> ∃ o,W.heap[r]? = some o /\ o.isCells = false:=fun r e=>by cases e;exact ⟨_,hK,rfl⟩
  exact ⟨_,results_tmp rfl _ _ _,rfl,⟨p,HH.out.keptJ hgr hrr⟩,hB.trans (belowK_b (w:=w) (Nat.le_refl _) W D _ _ hDw hK rfl rfl),Nat.lt_of_lt_of_le hsz hgr.size⟩
 case stop=>
  rintro D c pre W _ _ h _
  exact h.elim
end Go.Proofs.YtmdjoaipkbnelaaGreat
namespace Go.Proofs.YtmdjoaipkbnelaaGreat
open Go.RowKit
structure RdS (w:World) (ao:Option Addr) (len cap:Nat) (F:Nat -> Nat × Nat × Bool):Prop where
 le:len <= cap
 max:cap <= maxLen
 lt:∀ j,j < len -> (F j).1 < 18446744073709551616 /\ (F j).2.1 < 18446744073709551616
 cells:len = 0 \/ ∃ b off,ao = some ⟨b,off,none⟩ /\ ∀ j,j < len -> w.cell? ⟨b,off + j * 3,none⟩ = some (.float .f64 (F j).1) /\ w.cell? ⟨b,off + j * 3 + 1,none⟩ = some (.float .f64 (F j).2.1) /\ w.cell? ⟨b,off + j * 3 + 2,none⟩ = some (.bool (F j).2.2)
theorem RdS.later {w w':World} {ao:Option Addr} {len cap:Nat} {F:Nat -> Nat × Nat × Bool} (h:RdS w ao len cap F) (hb:Below w.heap.size w w'):RdS w' ao len cap F:=by
 refine ⟨h.le,h.max,h.lt,?_⟩
 rcases h.cells with h0 | ⟨b,off,ha,hc⟩
 ·exact .inl h0
 ·refine .inr ⟨b,off,ha,fun j hj=>?_⟩
  obtain ⟨h1,h2,h3⟩:=hc j hj
  have hl:=World.block_lt_of_cell? w _ h1
  exact ⟨by rw [hb.cell (p:=⟨b,off + j * 3,none⟩) hl];exact h1,by rw [hb.cell (p:=⟨b,off + j * 3 + 1,none⟩) hl];exact h2,by rw [hb.cell (p:=⟨b,off + j * 3 + 2,none⟩) hl];exact h3⟩
def AllGood (F:Nat -> Nat × Nat × Bool) (n:Nat):Prop:=∀ j,j < n -> Good (F j).1 (F j).2.1 (F j).2.2
instance (F:Nat -> Nat × Nat × Bool) (n:Nat):Decidable (AllGood F n):=inferInstanceAs (Decidable (∀ j,j < n -> Good (F j).1 (F j).2.1 (F j).2.2))
theorem side_any (d:Int) (lo hi:Nat) (bad:Bool) (w:World) :
  Calls Tryz.prog 77 #[.int .i64 d,.agg #[.float .f64 lo,.float .f64 hi,.bool bad]] w fun e w'=>e = .returned (.float .f64 (if d = 2 then lo else hi)) /\ Below w.heap.size w w':=by
 by_cases hd:d = 2
 ·subst hd
  go_enter Tryz.func77,Tryz.ntmps77
  go_wp2
  go_ret
  exact ⟨rfl,(Below.refl _ w).alloc (Nat.le_refl _) _⟩
 ·have hdd:(d == 2) = false:=by simpa using hd
  rw [if_neg hd]
  go_enter Tryz.func77,Tryz.ntmps77
  go_wp2
  go_ret
  exact ⟨rfl,(Below.refl _ w).alloc (Nat.le_refl _) _⟩
theorem res_sp (f:Func) (i:Nat) (hf:f.results = #[ResultVar.cell i 47]) (tmps:Array Value) (W:World) (B:Nat) (v0 v1 v2:Value) (hp:tmps[i]? = some (.pointer (some ⟨B,0,none⟩)))
  (h:W.heap[B]? = some (.cells #[v0,v1,v2] 47)):(results f tmps).run Tryz.prog W = .ok (.agg #[v0,v1,v2]) W:=by
 obtain ⟨h0,h1,h2⟩:=cells3 h
 simp [results,hf,go_sem,hp,h0,h1,h2]
theorem run_store_f:∀ (W:World) (a:Addr) (x:Nat),(store a (.float .f64 x)).run Tryz.prog W = stored Tryz.prog W a (.float .f64 x) .plain:=fun W a x=>run_store Tryz.prog W a _ .plain rfl
theorem spBad_any (w:World):Calls Tryz.prog 74 #[] w fun e w'=>e = .returned (.agg #[.float .f64 0,.float .f64 0,.bool true]) /\ Below w.heap.size w w':=by
 have hsf:=run_store_f
 go_enter Tryz.func74,Tryz.ntmps74
 go_wp2
 refine bodyPost_ret (v:=.agg #[.float .f64 0,.float .f64 0,.bool true]) (res_sp _ 0 (by kernel_rfl) _ _ w.heap.size _ _ _ ?_ (heap_alloc_new w _)) rfl ?_
 ·rfl
 ·exact ⟨rfl,(Below.refl _ w).alloc (Nat.le_refl _) _⟩
theorem AllGood.succ {F:Nat -> Nat × Nat × Bool} {k:Nat} (h:AllGood F k) (hg:Good (F k).1 (F k).2.1 (F k).2.2):AllGood F (k + 1):=by
 intro j hj
 rcases Nat.lt_or_ge j k with h1 | h1
 ·exact h j h1
 ·obtain rfl:j = k:=by omega
  exact hg
theorem good_any (ao:Option Addr) (len cap:Nat) (F:Nat -> Nat × Nat × Bool) (w:World) (h:RdS w ao len cap F) :
  Calls Tryz.prog 73 #[.slice ao len cap] w fun e w'=>e = .returned (.bool (decide (AllGood F len))) /\ Below w.heap.size w w':=by
 have HY:Hid (RdS w ao len cap F):=h
 have hmx:=h.max
 have hle:=h.le
 unfold maxLen at hmx
 clear h
 have hsf:=run_store_f
 go_enter Tryz.func73,Tryz.ntmps73
 go_wp2_with fail
 go_loopw [4,7] (fun sv iv wr=>∃ k:Nat,k <= len /\ iv = .int .i64 k /\ Hid (AllGood F k) /\ Hid (Below w.heap.size w wr)) (fun _ iv _=>len - (intOf iv).toNat)
 case atStart=>exact ⟨0,by omega,rfl,fun j hj=>absurd hj (by omega),Below.refl _ _⟩
 case round=>
  obtain ⟨k,hk,rfl,K1,K4⟩:=hrel
  by_cases hlt:k < len
  ·have hd:decide ((k:Int) < (len:Int)) = true:=decide_eq_true (by omega)
   have hr:=HY.out.later K4.out
   rcases hr.cells with h0 | ⟨b,off,rfl,hc⟩
   ·omega
   ·obtain ⟨g0,g1,g2⟩:=hc k hlt
    obtain ⟨b0,b1⟩:=HY.out.lt k hlt
    have i0:(0:Int) <= (k:Int):=by omega
    have i1:(k:Int) < (len:Int):=by omega
    have HG:Hid (Good (F k).1 (F k).2.1 (F k).2.2 \/ ¬ Good (F k).1 (F k).2.1 (F k).2.2):=Decidable.em _
    have HK:Hid (∀ j,j = k -> F j = F k):=fun j hj=>by rw [hj]
    obtain ⟨lo,hlo⟩:∃ a,(F k).1 = a:=⟨_,rfl⟩
    obtain ⟨hi,hhi⟩:∃ a,(F k).2.1 = a:=⟨_,rfl⟩
    obtain ⟨bad,hbad⟩:∃ a,(F k).2.2 = a:=⟨_,rfl⟩
    rw [hlo] at g0 b0
    rw [hhi] at g1 b1
    rw [hbad] at g2
    have HEQ:Hid ((F k).1 = lo /\ (F k).2.1 = hi /\ (F k).2.2 = bad):=⟨hlo,hhi,hbad⟩
    have HN:Hid (¬ Good lo hi bad -> ¬ AllGood F len):=fun hn ha=>by
     have:=ha k hlt;rw [hlo,hhi,hbad] at this;exact hn this
    have HB:Hid (Below w.heap.size w (wr.alloc (.cells #[.float .f64 lo,.float .f64 hi,.bool bad] 47))):=K4.out.alloc K4.out.size _
    clear hr hc hlo hhi hbad
    have hret:∀ (hn:¬ Good lo hi bad),decide (AllGood F len) = false:=fun hn=>decide_eq_false (HN.out hn)
    by_cases hb:bad = true
    ·subst hb
     have HZ:Hid (decide (AllGood F len) = false):=hret (fun h=>by have:=h.1;cases this)
     clear HN hret
     go_wp2_with fail
     go_ret
     exact ⟨by rw [HZ.out];rfl,HB.out⟩
    ·obtain rfl:bad = false:=by simpa using hb
     by_cases f1:Fin lo
     ·have hf1:decide (Fin lo) = true:=decide_eq_true f1
      by_cases f2:Fin hi
      ·have hf2:decide (Fin hi) = true:=decide_eq_true f2
       by_cases hs:srung lo <= srung hi
       ·have hgt:(FloatKind.f64.format.order lo hi == some .gt) = false:=by
         rw [f64_fmt,ord_gt (Nat.le_of_lt f1) (Nat.le_of_lt f2)];exact decide_eq_false (by omega)
        have HGK:Hid (AllGood F (k + 1)):=K1.out.succ (by rw [HEQ.out.1,HEQ.out.2.1,HEQ.out.2.2];exact ⟨rfl,f1,f2,hs⟩)
        clear HN hret hb f1 f2 hs
        go_wp2_with (first | (go_at_call_of 63 (Value.float FloatKind.f64 lo);refine (number_any lo b0 _).mono ?_;rintro e wr2 ⟨rfl,rfl⟩;rw [hf1]) | (go_at_call_of 63 (Value.float FloatKind.f64 hi);refine (number_any hi b1 _).mono ?_;rintro e wr2 ⟨rfl,rfl⟩;rw [hf2]))
        go_roundw
        case rel=>exact ⟨k + 1,by omega,by go_num,HGK,HB⟩
        case measure=>simp [intOf];omega
       ·have hgt:(FloatKind.f64.format.order lo hi == some .gt) = true:=by
         rw [f64_fmt,ord_gt (Nat.le_of_lt f1) (Nat.le_of_lt f2)];exact decide_eq_true (by omega)
        have HZ:Hid (decide (AllGood F len) = false):=hret (fun h=>hs h.2.2.2)
        clear HN hret hb f1 f2 hs
        go_wp2_with (first | (go_at_call_of 63 (Value.float FloatKind.f64 lo);refine (number_any lo b0 _).mono ?_;rintro e wr2 ⟨rfl,rfl⟩;rw [hf1]) | (go_at_call_of 63 (Value.float FloatKind.f64 hi);refine (number_any hi b1 _).mono ?_;rintro e wr2 ⟨rfl,rfl⟩;rw [hf2]))
        go_ret
        exact ⟨by rw [HZ.out];rfl,HB.out⟩
      ·have hf2:decide (Fin hi) = false:=decide_eq_false f2
       have HZ:Hid (decide (AllGood F len) = false):=hret (fun h=>f2 h.2.2.1)
       clear HN hret hb f1 f2
       go_wp2_with (first | (go_at_call_of 63 (Value.float FloatKind.f64 lo);refine (number_any lo b0 _).mono ?_;rintro e wr2 ⟨rfl,rfl⟩;rw [hf1]) | (go_at_call_of 63 (Value.float FloatKind.f64 hi);refine (number_any hi b1 _).mono ?_;rintro e wr2 ⟨rfl,rfl⟩;rw [hf2]))
       go_ret
       exact ⟨by rw [HZ.out];rfl,HB.out⟩
     ·have hf1:decide (Fin lo) = false:=decide_eq_false f1
      have HZ:Hid (decide (AllGood F len) = false):=hret (fun h=>f1 h.2.1)
      clear HN hret hb f1
      go_wp2_with (first | (go_at_call_of 63 (Value.float FloatKind.f64 lo);refine (number_any lo b0 _).mono ?_;rintro e wr2 ⟨rfl,rfl⟩;rw [hf1]))
      go_ret
      exact ⟨by rw [HZ.out];rfl,HB.out⟩
  ·have hd:decide ((k:Int) < (len:Int)) = false:=decide_eq_false (by omega)
   obtain rfl:k = len:=by omega
   have HZ:Hid (decide (AllGood F k) = true):=decide_eq_true K1.out
   go_wp2_with fail
   go_ret
   exact ⟨by rw [HZ.out];rfl,K4.out⟩
def Tells (k:Nat) (caps:Array Value) (w:World) (d:Int) (p:Nat × Bool):Prop:=∀ w',Below w.heap.size w w' -> Calls Tryz.prog k (#[.int .i64 d] ++ caps) w' fun e w2=>e = .returned (.tuple #[.float .f64 p.1,.bool p.2]) /\ Below w'.heap.size w' w2
theorem setsp_heap {w:World} {B:Nat} {t:TypeId} {a b c:Value} (x y z:Value) (h:w.heap[B]? = some (.cells #[a,b,c] t)) :
  (((w.setCell ⟨B,0,none⟩ x).setCell ⟨B,1,none⟩ y).setCell ⟨B,2,none⟩ z).heap[B]? = some (.cells #[x,y,z] t):=by
 have h1:=heap_setCell_same w B 0 _ _ x h
 have h2:=heap_setCell_same _ B 1 _ _ y h1
 exact heap_setCell_same _ B 2 _ _ z h2
theorem below_setsp {w0 w:World} {base B:Nat} (x y z:Value) (h:Below base w0 w) (hB:base <= B):Below base w0 (((w.setCell ⟨B,0,none⟩ x).setCell ⟨B,1,none⟩ y).setCell ⟨B,2,none⟩ z):=
 ((h.setCell (p:=⟨B,0,none⟩) hB x).setCell (p:=⟨B,1,none⟩) hB y).setCell (p:=⟨B,2,none⟩) hB z
theorem spanOf_any (k:Nat) (caps:Array Value) (eg:∀ args w,(callFunc k args).run Tryz.prog w = .ok (.enter k args) w) (w:World) (p q:Nat × Bool) (hp:Tells k caps w 2 p) (hq:Tells k caps w 1 q) :
  Calls Tryz.prog 75 #[.func (.func k) #[] caps] w fun e w'=>e = .returned (.agg #[.float .f64 (spOf p q).1,.float .f64 (spOf p q).2.1,.bool (spOf p q).2.2]) /\ Below w.heap.size w w':=by
 have HP:Hid (Tells k caps w 2 p):=hp
 have HQ:Hid (Tells k caps w 1 q):=hq
 clear hp hq
 have hsf:=run_store_f
 have r0:Hid _:=heap_alloc_new w (.cells #[.float .f64 0,.float .f64 0,.bool false] 47)
 have b0:Hid (Below w.heap.size w (w.alloc (.cells #[.float .f64 0,.float .f64 0,.bool false] 47))):=(Below.refl _ w).alloc (Nat.le_refl _) _
 have z0:Hid ((w.alloc (.cells #[.float .f64 0,.float .f64 0,.bool false] 47)).heap.size = w.heap.size + 1):=by unfold Hid;simp
 go_enter Tryz.func75,Tryz.ntmps75
 go_wp2_with fail
 refine (HP.out _ b0.out).mono ?_
 rintro e w1 ⟨rfl,b1⟩
 have r1:Hid _:=(b1.block w.heap.size (by have:=z0.out;omega)).trans r0.out
 have B1:Hid (Below w.heap.size w w1):=b0.out.trans (b1.mono b0.out.size)
 have z1:Hid (w.heap.size < w1.heap.size):=by have:=b1.size;have:=z0.out;unfold Hid;omega
 clear b1 r0 b0 z0
 go_wp2_with fail
 refine (HQ.out _ B1.out).mono ?_
 rintro e w2 ⟨rfl,b2⟩
 have r2:Hid _:=(b2.block w.heap.size z1.out).trans r1.out
 have B2:Hid (Below w.heap.size w w2):=B1.out.trans (b2.mono B1.out.size)
 have z2:Hid (w.heap.size < w2.heap.size):=by have:=b2.size;have:=z1.out;unfold Hid;omega
 clear b2 r1 B1 z1 HP HQ eg
 by_cases hpq:p.2 = true /\ q.2 = true
 ·have hs:spOf p q = (p.1,q.1,false):=by unfold spOf;rw [if_pos hpq]
  have HS:Hid _:=hs
  obtain ⟨h1,h2⟩:=hpq
  rw [h1,h2]
  clear hs
  obtain ⟨c0,c1,c2⟩:=cells3 r2.out
  have fz:=fun j=>frozen_of_row _ _ j _ _ r2.out
  go_wp2_with fail
  refine bodyPost_ret (v:=.agg #[.float .f64 p.1,.float .f64 q.1,.bool false]) (res_sp _ 2 (by kernel_rfl) _ _ w.heap.size _ _ _ ?_ (setsp_heap _ _ _ r2.out)) rfl ?_
  ·rfl
  ·exact ⟨by rw [HS.out],below_setsp _ _ _ B2.out (Nat.le_refl _)⟩
 ·have hs:spOf p q = (0,0,true):=by unfold spOf;rw [if_neg hpq]
  have HS:Hid _:=hs
  clear hs
  have step:∀ (pb qb:Bool),¬ (pb = true /\ qb = true) -> (pb = false \/ (pb = true /\ qb = false)):=by intro pb qb h;cases pb <;> cases qb <;> simp_all
  rcases step _ _ hpq with h1 | ⟨h1,h2⟩
  ·rw [h1]
   clear step hpq
   go_wp2_with fail
   refine (spBad_any _).mono ?_
   rintro e w3 ⟨rfl,b3⟩
   have r3:Hid _:=(b3.block w.heap.size z2.out).trans r2.out
   have B3:Hid (Below w.heap.size w w3):=B2.out.trans (b3.mono B2.out.size)
   clear b3 r2 B2 z2
   obtain ⟨c0,c1,c2⟩:=cells3 r3.out
   have fz:=fun j=>frozen_of_row _ _ j _ _ r3.out
   go_wp2_with fail
   refine bodyPost_ret (v:=.agg #[.float .f64 0,.float .f64 0,.bool true]) (res_sp _ 2 (by kernel_rfl) _ _ w.heap.size _ _ _ ?_ (setsp_heap _ _ _ r3.out)) rfl ?_
   ·rfl
   ·exact ⟨by rw [HS.out],below_setsp _ _ _ B3.out (Nat.le_refl _)⟩
  ·rw [h1,h2]
   clear step hpq
   go_wp2_with fail
   refine (spBad_any _).mono ?_
   rintro e w3 ⟨rfl,b3⟩
   have r3:Hid _:=(b3.block w.heap.size z2.out).trans r2.out
   have B3:Hid (Below w.heap.size w w3):=B2.out.trans (b3.mono B2.out.size)
   clear b3 r2 B2 z2
   obtain ⟨c0,c1,c2⟩:=cells3 r3.out
   have fz:=fun j=>frozen_of_row _ _ j _ _ r3.out
   go_wp2_with fail
   refine bodyPost_ret (v:=.agg #[.float .f64 0,.float .f64 0,.bool true]) (res_sp _ 2 (by kernel_rfl) _ _ w.heap.size _ _ _ ?_ (setsp_heap _ _ _ r3.out)) rfl ?_
   ·rfl
   ·exact ⟨by rw [HS.out],below_setsp _ _ _ B3.out (Nat.le_refl _)⟩
def cmpN (m n:Nat):Int:=if m < n then -1 else if m = n then 0 else 1
def LevelOf (mx:Nat) (ex:Int) (my:Nat) (ey:Int) (A B:Nat) (e:Int):Prop:=
 (mx = 0 /\ A = 0 /\ B = my /\ e = ey) \/ (mx ≠ 0 /\ my = 0 /\ A = mx /\ B = 0 /\ e = ex) \/ (mx ≠ 0 /\ my ≠ 0 /\ e = min ex ey /\ A = mx * 2 ^ (ex - e).toNat /\ B = my * 2 ^ (ey - e).toNat)
def LevelRes (mx:Nat) (ex:Int) (my:Nat) (ey:Int) (w:World) (e':Ending) (w':World):Prop:=
 ∃ a1 l1 c1 xs a2 l2 c2 ys A B e,e' = .returned (.tuple #[.slice a1 l1 c1,.slice a2 l2 c2,.int .i64 e]) /\ Rd4 w' a1 l1 c1 xs /\ Rd4 w' a2 l2 c2 ys /\ Nm xs /\ Nm ys /\ dig xs = A /\ dig ys = B /\ LevelOf mx ex my ey A B e /\ Below w.heap.size w w'
def NumZ (w:World) (v:Value) (s:Nat) (T:Int) (z:Int):Prop:=∃ neg m e,NumV w v neg m e /\ -(s:Int) <= e /\ (bl m:Int) + e <= T /\ zv s neg m e = z
theorem NumZ.later {w w':World} {v:Value} {s:Nat} {T z:Int} (h:NumZ w v s T z) (hb:Below w.heap.size w w'):NumZ w' v s T z:=by
 obtain ⟨neg,m,e,h1,h2⟩:=h
 exact ⟨neg,m,e,h1.later hb,h2⟩
theorem NumZ.more {w:World} {v:Value} {s:Nat} {T z:Int} (h:NumZ w v s T z) (k:Nat):NumZ w v (s + k) T (z * ((2 ^ k:Nat):Int)):=by
 obtain ⟨neg,m,e,h1,h2,h3,h4⟩:=h
 exact ⟨neg,m,e,h1,by omega,h3,by rw [zv_more k neg m h2,h4]⟩
theorem NumZ.mono {w:World} {v:Value} {s:Nat} {T T' z:Int} (h:NumZ w v s T z) (hT:T <= T'):NumZ w v s T' z:=by
 obtain ⟨neg,m,e,h1,h2,h3,h4⟩:=h
 exact ⟨neg,m,e,h1,h2,by omega,h4⟩
def PlusOk (nx:Bool) (mx:Nat) (ex:Int) (ny:Bool) (my:Nat) (ey:Int) (neg:Bool) (m:Nat) (e:Int):Prop:=
 ∀ (s:Nat) (T:Int),-(s:Int) <= ex -> -(s:Int) <= ey -> (bl mx:Int) + ex <= T -> (bl my:Int) + ey <= T -> 0 <= T -> -(s:Int) <= e /\ (bl m:Int) + e <= T + 1 /\ zv s neg m e = zv s nx mx ex + zv s ny my ey
def PlusRes (nx:Bool) (mx:Nat) (ex:Int) (ny:Bool) (my:Nat) (ey:Int) (w:World) (e':Ending) (w':World):Prop:=
 ∃ v' neg m e,e' = .returned v' /\ NumV w' v' neg m e /\ (PlusOk nx mx ex ny my ey neg m e /\ (m = 0 -> (mx = 0 -> ex = 0) -> (my = 0 -> ey = 0) -> e = 0)) /\ Below w.heap.size w w'
end Go.Proofs.YtmdjoaipkbnelaaGreat
