import Derived.Test.YtmdjoaipkbnelaaGreatPPm
set_option linter.unusedVariables false
set_option linter.unusedSimpArgs false
namespace Go.Proofs.YtmdjoaipkbnelaaGreat
open Go.RowKit Go.Shelf
open Ieee
theorem RndZ.rescale {d V:Int} {D:Nat} {p:Nat × Bool} (h:RndZ d V D p) (c:Nat) (hc:0 < c):RndZ d (V * c) (D * c) p:=by
 have h1:(V * (c:Int)).natAbs = V.natAbs * c:=by rw [Int.natAbs_mul,Int.natAbs_natCast]
 have h2:decide (V * (c:Int) < 0) = decide (V < 0):=by
  have hc':(0:Int) < c:=by omega
  congr 1;apply propext
  constructor
  ·intro h;rcases Int.lt_or_le V 0 with g | g
   ·exact g
   ·have:=Int.mul_nonneg g (Int.le_of_lt hc');omega
  ·intro h;exact Int.mul_neg_of_neg_of_pos h hc'
 unfold RndZ;rw [h1,h2];exact Rnd.scale h c hc
attribute [local go_sem] Oper.semAt_some
attribute [local go_sem] Oper.semAt_some
theorem fval_oneJ {a:Nat} (ha:a = 1074):fval 4607182418800017408 = ((2 ^ a:Nat):Int):=by subst ha;decide +kernel
theorem fval_minusJ {a:Nat} (ha:a = 1074):fval 13830554455654793216 = -((2 ^ a:Nat):Int):=by subst ha;decide +kernel
theorem pow92 {a b:Nat} (ha:a = 1166) (hb:b = 1074):((2 ^ b:Nat):Int) * ((2 ^ ((0:Int) + 92).toNat:Nat):Int) = ((2 ^ a:Nat):Int):=by
 rw [show ((0:Int) + 92).toNat = 92 by decide]
 have:(2:Nat) ^ a = 2 ^ b * 2 ^ 92:=by rw [<- Nat.pow_add,show b + 92 = a by omega]
 rw [this,Int.natCast_mul]
def sgJ (b:Nat) (s:Int):Prop:=(b = 4607182418800017408 /\ s = 1) \/ (b = 13830554455654793216 /\ s = -1)
theorem prodZ_sg {a b u:Nat} {s:Int} (ha:a = 1166) (h:sgJ b s):prodZ b u 0 = s * fval u * ((2 ^ a:Nat):Int):=by
 unfold prodZ
 obtain ⟨c,hc⟩:∃ c:Nat,c = 1074:=⟨_,rfl⟩
 have hp:=pow92 ha hc
 generalize ((2 ^ ((0:Int) + 92).toNat:Nat):Int) = Y at hp ⊢
 rcases h with ⟨rfl,rfl⟩ | ⟨rfl,rfl⟩
 ·rw [fval_oneJ hc,<- hp]
  generalize ((2 ^ c:Nat):Int) = X
  rw [Int.one_mul,Int.mul_comm X,Int.mul_assoc]
 ·rw [fval_minusJ hc,<- hp]
  generalize ((2 ^ c:Nat):Int) = X
  rw [Int.mul_comm (-X),Int.mul_assoc,Int.neg_mul,Int.mul_neg,Int.neg_mul,Int.one_mul,Int.neg_mul]
theorem prodZ_oneJ {a:Nat} (ha:a = 1166) (u:Nat):prodZ u 4607182418800017408 0 = fval u * ((2 ^ a:Nat):Int):=by
 have h:prodZ u 4607182418800017408 0 = prodZ 4607182418800017408 u 0:=by unfold prodZ;rw [Int.mul_comm (fval u)]
 rw [h,prodZ_sg ha (.inl ⟨rfl,rfl⟩),Int.one_mul]
theorem fval_absJ (u:Nat):(fval u).natAbs = rmag (frung u):=by unfold fval;split <;> omega
theorem frung_frung (u:Nat):frung (frung u) = frung u:=by unfold frung;omega
theorem fneg_frung (u:Nat):fneg (frung u) = false:=by unfold fneg frung;simp
theorem fval_frung (u:Nat):fval (frung u) = (rmag (frung u):Int):=by unfold fval;rw [fneg_frung,frung_frung];rfl
theorem fval_ltJ {u E:Nat} (hu:Fin u) (hE:E = 2098):rmag (frung u) < 2 ^ E:=by
 obtain ⟨F,hF⟩:∃ F:Nat,F = 2046:=⟨_,rfl⟩
 have h1:=rmag_lt hu
 rw [rmag_inf hF] at h1
 have h3:(2:Nat) ^ E = 4503599627370496 * 2 ^ F:=by
  rw [show (4503599627370496:Nat) = 2 ^ 52 by decide,<- Nat.pow_add,show 52 + F = E by omega]
 rw [h3];exact h1
theorem hold_sumJ {a E:Nat} {x:Int} (ha:a = 1166) (hE:E = 2140) (hx:x.natAbs < 2 ^ E):holdZ (x * ((2 ^ a:Nat):Int)) = some (x * ((2 ^ a:Nat):Int)):=by
 unfold holdZ
 rw [if_pos]
 obtain ⟨Q,hQ⟩:∃ Q:Nat,Q = 4800:=⟨_,rfl⟩
 have h2:(2:Nat) ^ E * 2 ^ a <= 2 ^ Q:=by rw [<- Nat.pow_add];exact Nat.pow_le_pow_right (by omega) (by omega)
 have h3:(x * ((2 ^ a:Nat):Int)).natAbs < 2 ^ Q:=by
  rw [Int.natAbs_mul,Int.natAbs_natCast]
  exact Nat.lt_of_lt_of_le (Nat.mul_lt_mul_of_pos_right hx (Nat.two_pow_pos _)) h2
 rw [hQ] at h3
 generalize x * ((2 ^ a:Nat):Int) = X at *
 generalize 2 ^ 4800 = L at *
 omega
theorem fin_frung {u:Nat} (h:Fin u):Fin (frung u):=by unfold Fin at *;rw [frung_frung];exact h
theorem prodO_step {a E u b:Nat} {x y:Int} (ha:a = 1166) (hE:E = 2140) (hu:Fin u) (hb:Fin b) (hp:prodZ u b 0 = y * ((2 ^ a:Nat):Int)) (hx:(x + y).natAbs < 2 ^ E):prodO (some (x * ((2 ^ a:Nat):Int))) u b 0 = some ((x + y) * ((2 ^ a:Nat):Int)):=by
 unfold prodO
 simp only [Option.bind_some]
 rw [if_pos ⟨hu,hb,by decide,by decide⟩,hp,<- Int.add_mul,hold_sumJ ha hE hx]
theorem tk_good {z:ZD} (h:(!z.bad && wholeB z) = true):z.bad = false /\ wholeB z = true /\ checkB z = true:=by
 rw [Bool.and_eq_true,Bool.not_eq_true'] at h
 exact ⟨h.1,h.2,by unfold checkB;rw [h.1];exact h.2⟩
def emptyB (bad:Bool) (N:Int) (cn dn gn rn:Nat):Bool:=bad && decide (0 <= N) && decide (N <= 256) && decide (cn + dn + gn + rn = 0)
theorem tk_self {z:ZD} (h:checkB z = true):tkZ z = z:=by unfold tkZ;rw [if_pos h]
theorem RndZ.of_ratio {d V V':Int} {D D':Nat} {p:Nat × Bool} (h:RndZ d V D p) (hD':0 < D') (he:V * (D':Int) = V' * (D:Int)):RndZ d V' D' p:=by
 have hD:=(let ⟨_,hR,_⟩:=h;hR.pos)
 have h1:=h.rescale D' hD'
 rw [he,Nat.mul_comm] at h1
 obtain ⟨R,hR,hp⟩:=h1
 have e1:(V' * (D:Int)).natAbs = V'.natAbs * D:=by rw [Int.natAbs_mul,Int.natAbs_natCast]
 have e2:decide (V' * (D:Int) < 0) = decide (V' < 0):=by
  have hc':(0:Int) < D:=by omega
  congr 1;apply propext
  constructor
  ·intro h;rcases Int.lt_or_le V' 0 with g | g
   ·exact g
   ·have:=Int.mul_nonneg g (Int.le_of_lt hc');omega
  ·intro h;exact Int.mul_neg_of_neg_of_pos h hc'
 rw [e1] at hR hp
 rw [e2] at hp
 exact ⟨R,hR.unscale D,by rw [hp];exact tellK_scale _ _ _ _ _ _ hD⟩
theorem badR (n:Int) (W:World):ZR W (⟨n,none,0,0,none,0,0,none,0,0,none,0,0,true,[],[],fun _=>(none,0,0),[],[]⟩:ZD):=⟨⟨rfl,Nat.zero_le _,fun u hu=>(by cases hu),.inl rfl⟩,⟨rfl,Nat.zero_le _,.inl rfl⟩,⟨rfl,Nat.zero_le _,.inl rfl,fun j hj=>absurd hj (Nat.not_lt_zero _)⟩,⟨rfl,Nat.zero_le _,fun u hu=>(by cases hu),.inl rfl⟩⟩
end Go.Proofs.YtmdjoaipkbnelaaGreat
