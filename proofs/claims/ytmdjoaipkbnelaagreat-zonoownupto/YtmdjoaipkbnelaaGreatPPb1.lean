import Derived.Test.YtmdjoaipkbnelaaGreatTDa
import Derived.Test.YtmdjoaipkbnelaaGreatShelfB
import Derived.Below
import Ieee.Arith
import Derived.Test.YtmdjoaipkbnelaaGreatChecked
import Derived.WalkKit
import Derived.WalkSmall
import Derived.WalkLawsBesides
import Derived.Lib.EndianBits
import Derived.Laws.Bits128
import Derived.Laws.BitsAll
import Derived.Deep.QuietTactic
import Derived.Deep.RegionWith
import Derived.Deep.DeepCutAuto
import Derived.BigQuiet
import Derived.RangeFuncNested
import Derived.RangeFuncBound
import Derived.RangeFuncCalls
import Derived.RangeFuncLeaves
import Derived.RangeFuncFrom
import Derived.RangeFuncWrites
import Derived.Shelf.Abstract
import Derived.Shelf.RegionOpen
import Derived.OwnWalkIn
import Derived.TacticsInMore
import Derived.LoopNIn
import Derived.LoopIn
import Derived.Deep.WholeRow
import Derived.Deep.MidRow
import Derived.Laws.CopyOwn
import Derived.Deep.RegionHeld3
import Derived.Laws.OwnMore
import Derived.OneCell
import Derived.BigRegion
import Derived.BigGuard
import Derived.Laws.Externs
import Derived.Deep.DeepMust
import Derived.Laws.MakeOwn
import Derived.ArgAppend
import Derived.OwnWalk
import Derived.Orders
import Derived.RegionTactic
import Derived.OrdersHeld
import Derived.Deep.CutRange
import Derived.Laws.AppendOwnNone
import Derived.Test.YtmdjoaipkbnelaaGreatRows
import Derived.Deep.Slices
import Derived.OpenShut
import Derived.Lib.SmallJoins
import Derived.ChangeSame
set_option linter.unusedVariables false
set_option linter.unusedSimpArgs false
namespace Go.Proofs.YtmdjoaipkbnelaaGreat
def U4 (xs:List Nat):Prop:=∀ x ∈ xs,x < 4294967296
def dig:List Nat -> Nat
 | []=>0
 | x :: xs=>x + 4294967296 * dig xs
def Nm (xs:List Nat):Prop:=xs = [] \/ xs[xs.length - 1]?.getD 0 ≠ 0
def bl (m:Nat):Nat:=if m = 0 then 0 else m.log2 + 1
def wd (k:Nat):Nat:=2 ^ (32 * k)
theorem U4.at {xs:List Nat} (h:U4 xs) (j:Nat):xs[j]?.getD 0 < 4294967296:=by
 by_cases hj:j < xs.length
 ·rw [List.getElem?_eq_getElem hj];exact h _ (List.getElem_mem hj)
 ·rw [List.getElem?_eq_none (by omega)];simp
theorem U4.take {xs:List Nat} (h:U4 xs) (n:Nat):U4 (xs.take n):=fun y hy=>h y (List.mem_of_mem_take hy)
theorem U4.drop {xs:List Nat} (h:U4 xs) (n:Nat):U4 (xs.drop n):=fun y hy=>h y (List.mem_of_mem_drop hy)
theorem U4.set {xs:List Nat} (h:U4 xs) (k v:Nat) (hv:v < 4294967296):U4 (xs.set k v):=by
 intro y hy
 rcases List.mem_or_eq_of_mem_set hy with h1 | h1
 ·exact h y h1
 ·omega
theorem bl_spec {m:Nat} (h:m ≠ 0):2 ^ (bl m - 1) <= m /\ m < 2 ^ bl m /\ 1 <= bl m:=by
 unfold bl;rw [if_neg h]
 exact ⟨Nat.log2_self_le h,Nat.lt_log2_self,by omega⟩
def shr (s:Nat):List Nat -> List Nat
 | []=>[]
 | d :: ds=>((d + 4294967296 * (ds[0]?.getD 0)) / 2 ^ s % 4294967296) :: shr s ds
def rmag (r:Nat):Nat:=if r < 4503599627370496 then r else (4503599627370496 + r % 4503599627370496) * 2 ^ (r / 4503599627370496 - 1)
theorem rmag_form (e k:Nat) (h:e = 0 \/ 4503599627370496 <= k) (hk:k <= 9007199254740992):rmag (e * 4503599627370496 + k) = k * 2 ^ e:=by
 unfold rmag
 by_cases h1:k < 4503599627370496
 ·have he:e = 0:=by omega
  subst he
  rw [if_pos (by omega)];simp
 ·rw [if_neg (by omega)]
  by_cases h2:k = 9007199254740992
  ·have a1:(e * 4503599627370496 + k) / 4503599627370496 = e + 2:=by omega
   have a2:(e * 4503599627370496 + k) % 4503599627370496 = 0:=by omega
   rw [a1,a2,show e + 2 - 1 = e + 1 from rfl,Nat.pow_succ,h2]
   rw [Nat.mul_comm (2 ^ e) 2,<- Nat.mul_assoc]
  ·have a1:(e * 4503599627370496 + k) / 4503599627370496 = e + 1:=by omega
   have a2:(e * 4503599627370496 + k) % 4503599627370496 = k - 4503599627370496:=by omega
   rw [a1,a2,show e + 1 - 1 = e from rfl,show 4503599627370496 + (k - 4503599627370496) = k by omega]
theorem rmag_parts (r:Nat):∃ e k,r = e * 4503599627370496 + k /\ (e = 0 \/ 4503599627370496 <= k) /\ k < 9007199254740992 /\ e = r / 4503599627370496 - 1:=by
 by_cases h:r < 4503599627370496
 ·exact ⟨0,r,by omega,.inl rfl,by omega,by omega⟩
 ·exact ⟨r / 4503599627370496 - 1,r - (r / 4503599627370496 - 1) * 4503599627370496,by omega,.inr (by omega),by omega,rfl⟩
theorem rmag_succ (r:Nat):rmag (r + 1) = rmag r + 2 ^ (r / 4503599627370496 - 1):=by
 obtain ⟨e,k,hr,h,hk,he⟩:=rmag_parts r
 rw [<- he,hr,Nat.add_assoc,rmag_form e k h (by omega),rmag_form e (k + 1) (by omega) (by omega),Nat.add_mul,Nat.one_mul]
theorem rmag_lt_succ (r:Nat):rmag r < rmag (r + 1):=by
 rw [rmag_succ];have:=Nat.two_pow_pos (r / 4503599627370496 - 1);omega
theorem rmag_lt {r s:Nat} (h:r < s):rmag r < rmag s:=by
 induction s with
 | zero=>omega
 | succ s ih=>
  have:=rmag_lt_succ s
  by_cases h1:r = s
  ·subst h1;exact this
  ·have:=ih (by omega);omega
theorem rmag_le {r s:Nat} (h:r <= s):rmag r <= rmag s:=by
 rcases Nat.lt_or_eq_of_le h with h | h
 ·exact Nat.le_of_lt (rmag_lt h)
 ·rw [h];exact Nat.le_refl _
theorem lt_of_rmag {r s:Nat} (h:rmag r < rmag s):r < s:=by
 rcases Nat.lt_or_ge r s with h1 | h1
 ·exact h1
 ·have:=rmag_le h1;omega
theorem le_of_rmag {r s:Nat} (h:rmag r <= rmag s):r <= s:=by
 rcases Nat.lt_or_ge s r with h1 | h1
 ·have:=rmag_lt h1;omega
 ·exact h1
theorem rmag_inj {r s:Nat} (h:rmag r = rmag s):r = s:=by
 have:=le_of_rmag (Nat.le_of_eq h);have:=le_of_rmag (Nat.le_of_eq h.symm);omega
theorem rmag_zero:rmag 0 = 0:=rfl
theorem le_rmag (r:Nat):r <= rmag r:=by
 induction r with
 | zero=>omega
 | succ r ih=>have:=rmag_lt_succ r;omega
def Fl (n D R:Nat):Prop:=rmag R * D <= n /\ n < rmag (R + 1) * D
theorem Fl.uniq {n D R S:Nat} (h:Fl n D R) (h':Fl n D S):R = S:=by
 have a:rmag R * D < rmag (S + 1) * D:=Nat.lt_of_le_of_lt h.1 h'.2
 have b:rmag S * D < rmag (R + 1) * D:=Nat.lt_of_le_of_lt h'.1 h.2
 have:=lt_of_rmag (Nat.lt_of_mul_lt_mul_right a)
 have:=lt_of_rmag (Nat.lt_of_mul_lt_mul_right b)
 omega
theorem Fl.scale {n D R:Nat} (h:Fl n D R) (c:Nat) (hc:0 < c):Fl (n * c) (D * c) R:=by
 refine ⟨?_,?_⟩
 ·rw [<- Nat.mul_assoc];exact Nat.mul_le_mul_right c h.1
 ·rw [<- Nat.mul_assoc];exact Nat.mul_lt_mul_of_pos_right h.2 hc
theorem Fl.unscale {n D R:Nat} (c:Nat) (h:Fl (n * c) (D * c) R):Fl n D R:=by
 have hc:0 < c:=by
  rcases Nat.eq_zero_or_pos c with h0 | h0
  ·subst h0;have:=h.2;simp at this
  ·exact h0
 refine ⟨?_,?_⟩
 ·have:=h.1;rw [<- Nat.mul_assoc] at this;exact Nat.le_of_mul_le_mul_right this hc
 ·have:=h.2;rw [<- Nat.mul_assoc] at this;exact Nat.lt_of_mul_lt_mul_right this
theorem Fl.pos {n D R:Nat} (h:Fl n D R):0 < D:=by
 rcases Nat.eq_zero_or_pos D with h0 | h0
 ·subst h0;have:=h.2;simp at this
 ·exact h0
theorem Fl.some (n D:Nat) (hD:0 < D):∃ R,Fl n D R:=by
 have key:∀ m,n < rmag m * D -> ∃ R,Fl n D R:=by
  intro m
  induction m with
  | zero=>intro h;simp [rmag_zero] at h
  | succ m ih=>
   intro h
   by_cases h1:n < rmag m * D
   ·exact ih h1
   ·exact ⟨m,by omega,h⟩
 refine key (n + 1) ?_
 have h1:=le_rmag (n + 1)
 have h2:n + 1 <= (n + 1) * D:=Nat.le_mul_of_pos_right _ hD
 have h3:(n + 1) * D <= rmag (n + 1) * D:=Nat.mul_le_mul_right _ h1
 omega
theorem Fl.mono {n D R m E S:Nat} (h:Fl n D R) (h':Fl m E S) (hle:n * E <= m * D):R <= S:=by
 have a:rmag R * D * E <= n * E:=Nat.mul_le_mul_right _ h.1
 have b:m * D < rmag (S + 1) * E * D:=Nat.mul_lt_mul_of_pos_right h'.2 h.pos
 have c:rmag R * (D * E) < rmag (S + 1) * (D * E):=by
  have e1:rmag R * D * E = rmag R * (D * E):=Nat.mul_assoc ..
  have e2:rmag (S + 1) * E * D = rmag (S + 1) * (D * E):=by rw [Nat.mul_assoc,Nat.mul_comm E D]
  omega
 have:=lt_of_rmag (Nat.lt_of_mul_lt_mul_right c)
 omega
def nearK (n D R:Nat):Nat:=if 2 * n < (rmag R + rmag (R + 1)) * D \/ (2 * n = (rmag R + rmag (R + 1)) * D /\ R % 2 = 0) then R else R + 1
def upK (n D R:Nat):Nat:=if n = rmag R * D then R else R + 1
theorem nearK_scale (n D R c:Nat) (hc:0 < c):nearK (n * c) (D * c) R = nearK n D R:=by
 unfold nearK
 have e1:2 * (n * c) = (2 * n) * c:=(Nat.mul_assoc ..).symm
 have e2:(rmag R + rmag (R + 1)) * (D * c) = ((rmag R + rmag (R + 1)) * D) * c:=(Nat.mul_assoc ..).symm
 rw [e1,e2]
 have i1:(2 * n) * c < ((rmag R + rmag (R + 1)) * D) * c ↔ 2 * n < (rmag R + rmag (R + 1)) * D:=Nat.mul_lt_mul_right hc
 have i2:(2 * n) * c = ((rmag R + rmag (R + 1)) * D) * c ↔ 2 * n = (rmag R + rmag (R + 1)) * D:=Nat.mul_left_inj (by omega)
 simp only [i1,i2]
theorem upK_scale (n D R c:Nat) (hc:0 < c):upK (n * c) (D * c) R = upK n D R:=by
 unfold upK
 have e2:rmag R * (D * c) = (rmag R * D) * c:=(Nat.mul_assoc ..).symm
 rw [e2]
 have i2:n * c = (rmag R * D) * c ↔ n = rmag R * D:=Nat.mul_left_inj (by omega)
 simp only [i2]
def infK:Nat:=9218868437227405312
def sgnK (neg:Bool) (k:Nat):Nat:=if neg = true /\ 0 < k then 9223372036854775808 + k else k
def tellK (d:Int) (neg:Bool) (n D R:Nat):Nat × Bool:=
 if d = 0 then (if nearK n D R < infK then (sgnK neg (nearK n D R),true) else (0,false))
 else if d = 1 /\ neg = false \/ d = 2 /\ neg = true then (if upK n D R < infK then (sgnK neg (upK n D R),true) else (0,false))
 else if d = 1 \/ d = 2 then (sgnK neg (min R (infK - 1)),true)
 else (0,false)
def Rnd (d:Int) (neg:Bool) (n D:Nat) (p:Nat × Bool):Prop:=∃ R,Fl n D R /\ p = tellK d neg n D R
theorem Rnd.uniq {d:Int} {neg:Bool} {n D:Nat} {p q:Nat × Bool} (h:Rnd d neg n D p) (h':Rnd d neg n D q):p = q:=by
 obtain ⟨R,h1,rfl⟩:=h
 obtain ⟨S,h2,rfl⟩:=h'
 rw [h1.uniq h2]
theorem tellK_scale (d:Int) (neg:Bool) (n D R c:Nat) (hc:0 < c):tellK d neg (n * c) (D * c) R = tellK d neg n D R:=by
 unfold tellK;rw [nearK_scale _ _ _ _ hc,upK_scale _ _ _ _ hc]
theorem Rnd.scale {d:Int} {neg:Bool} {n D:Nat} {p:Nat × Bool} (h:Rnd d neg n D p) (c:Nat) (hc:0 < c):Rnd d neg (n * c) (D * c) p:=by
 obtain ⟨R,h1,rfl⟩:=h
 exact ⟨R,h1.scale c hc,(tellK_scale d neg n D R c hc).symm⟩
open Ieee
theorem dbl_binade:double.binade = 4503599627370496:=by decide
theorem dbl_inf:double.infRung = infK:=by decide
theorem dbl_sign:double.signWeight = 9223372036854775808:=by decide
theorem dbl_least:double.leastPlace = -1074:=by decide
theorem dbl_frac:double.fractionBits = 52:=rfl
def fneg (x:Nat):Bool:=x / 9223372036854775808 % 2 == 1
def frung (x:Nat):Nat:=x % 9223372036854775808
theorem read_fin {x:Nat} (h:frung x < infK):∃ m p,double.read x = .number (fneg x) m p /\ -1074 <= p /\ m * 2 ^ (p + 1074).toNat = rmag (frung x) /\ m < 9007199254740992 /\ (p = -1074 \/ 4503599627370496 <= m):=by
 unfold Format.read
 simp only [dbl_binade,dbl_inf,dbl_sign,dbl_least]
 have hf:x % 9223372036854775808 = frung x:=rfl
 rw [hf]
 unfold rmag
 by_cases h1:frung x < 4503599627370496
 ·rw [if_pos h1,if_pos h1]
  exact ⟨_,_,rfl,by omega,by simp,by omega,.inl rfl⟩
 ·rw [if_neg h1,if_pos h,if_neg h1]
  refine ⟨_,_,rfl,by omega,?_,by omega,.inr (by omega)⟩
  congr 2
  omega
theorem read_inf {x:Nat} (h:frung x = infK):double.read x = .infinity (fneg x):=by
 unfold Format.read
 simp only [dbl_binade,dbl_inf,dbl_sign,dbl_least]
 have hf:x % 9223372036854775808 = frung x:=rfl
 rw [hf,h]
 rfl
theorem read_nan {x:Nat} (h:infK < frung x):double.read x = .nan (fneg x) (frung x - infK):=by
 unfold Format.read
 simp only [dbl_binade,dbl_inf,dbl_sign,dbl_least]
 have hf:x % 9223372036854775808 = frung x:=rfl
 rw [hf]
 have:infK = 9218868437227405312:=rfl
 rw [if_neg (by omega),if_neg (by omega),if_neg (by omega)]
 rfl
theorem cut_even (neg:Bool) (n drop:Nat) (hn:n ≠ 0):Toward.even.cut neg n drop = n / 2 ^ drop + (if 2 * (n % 2 ^ drop) < 2 ^ drop \/ (2 * (n % 2 ^ drop) = 2 ^ drop /\ n / 2 ^ drop % 2 = 0) then 0 else 1):=by
 unfold Toward.cut
 simp only [Nat.shiftLeft_eq,Nat.one_mul]
 have hl:n < 2 ^ (n.log2 + 1):=Nat.lt_log2_self
 by_cases h:drop <= n.log2 + 2
 ·rw [Nat.min_eq_left h]
  congr 1
  by_cases a:2 * (n % 2 ^ drop) < 2 ^ drop
  ·rw [if_pos (.inl a)]
   have:¬ 2 ^ drop < 2 * (n % 2 ^ drop):=by omega
   have:¬ 2 ^ drop = 2 * (n % 2 ^ drop):=by omega
   simp [*]
  ·by_cases b:2 * (n % 2 ^ drop) = 2 ^ drop
   ·by_cases c:n / 2 ^ drop % 2 = 0
    ·rw [if_pos (.inr ⟨b,c⟩)]
     have:¬ 2 ^ drop < 2 * (n % 2 ^ drop):=by omega
     simp [*]
    ·have c':n / 2 ^ drop % 2 = 1:=by omega
     rw [if_neg (by omega)]
     simp [*]
   ·rw [if_neg (by omega)]
    have:2 ^ drop < 2 * (n % 2 ^ drop):=by omega
    simp [*]
 ·rw [Nat.min_eq_right (by omega)]
  have h2:2 ^ (n.log2 + 2) = 2 * 2 ^ (n.log2 + 1):=by rw [Nat.pow_succ,Nat.mul_comm]
  have h3:2 ^ (n.log2 + 2) <= 2 ^ drop:=Nat.pow_le_pow_right (by omega) (by omega)
  have b1:n < 2 ^ (n.log2 + 2):=by omega
  have b2:n < 2 ^ drop:=by omega
  have b3:2 * n < 2 ^ drop:=by omega
  have b4:2 * n < 2 ^ (n.log2 + 2):=by omega
  generalize 2 ^ (n.log2 + 2) = g at *
  generalize 2 ^ drop = g' at *
  rw [Nat.div_eq_of_lt b1,Nat.mod_eq_of_lt b1,Nat.div_eq_of_lt b2,Nat.mod_eq_of_lt b2,if_pos (.inl b3)]
  have c1:¬ g < 2 * n:=by omega
  simp [c1]
theorem rung_of (m e drop c n D K:Nat) (hn:n = m * c) (hc:0 < c) (hD:2 ^ e * D = 2 ^ drop * c) (hK:K = m / 2 ^ drop) (h:e = 0 \/ 4503599627370496 <= K) (hk:K < 9007199254740992) :
  Fl n D (e * 4503599627370496 + K) /\ nearK n D (e * 4503599627370496 + K) = e * 4503599627370496 + (K + (if 2 * (m % 2 ^ drop) < 2 ^ drop \/ (2 * (m % 2 ^ drop) = 2 ^ drop /\ K % 2 = 0) then 0 else 1)) /\ upK n D (e * 4503599627370496 + K) = e * 4503599627370496 + (K + if m % 2 ^ drop = 0 then 0 else 1):=by
 have r0:=rmag_form e K h (by omega)
 have r1:=rmag_form e (K + 1) (by omega) (by omega)
 rw [<- Nat.add_assoc] at r1
 have hdm:=Nat.div_add_mod m (2 ^ drop)
 rw [<- hK] at hdm
 have hlt:=Nat.mod_lt m (Nat.two_pow_pos drop)
 generalize m % 2 ^ drop = rest at *
 have e0:K * 2 ^ e * D = (2 ^ drop * K) * c:=by rw [Nat.mul_assoc,hD,<- Nat.mul_assoc,Nat.mul_comm K]
 have e1:(K + 1) * 2 ^ e * D = (2 ^ drop * K + 2 ^ drop) * c:=by rw [Nat.mul_assoc,hD,<- Nat.mul_assoc,Nat.mul_comm (K + 1),Nat.mul_add,Nat.mul_one]
 refine ⟨⟨?_,?_⟩,?_,?_⟩
 ·rw [r0,e0,hn];exact Nat.mul_le_mul_right _ (by omega)
 ·rw [r1,e1,hn];exact Nat.mul_lt_mul_of_pos_right (by omega) hc
 ·unfold nearK
  rw [r0,r1,Nat.add_mul,e0,e1,<- Nat.add_mul,hn,<- Nat.mul_assoc]
  have i1:2 * m * c < (2 ^ drop * K + (2 ^ drop * K + 2 ^ drop)) * c ↔ 2 * m < 2 ^ drop * K + (2 ^ drop * K + 2 ^ drop):=Nat.mul_lt_mul_right hc
  have i2:2 * m * c = (2 ^ drop * K + (2 ^ drop * K + 2 ^ drop)) * c ↔ 2 * m = 2 ^ drop * K + (2 ^ drop * K + 2 ^ drop):=Nat.mul_left_inj (by omega)
  simp only [i1,i2]
  by_cases a:2 * rest < 2 ^ drop \/ (2 * rest = 2 ^ drop /\ K % 2 = 0)
  ·rw [if_pos a,if_pos (by omega)];omega
  ·rw [if_neg a,if_neg (by omega)];omega
 ·unfold upK
  rw [r0,e0,hn]
  have i2:m * c = (2 ^ drop * K) * c ↔ m = 2 ^ drop * K:=Nat.mul_left_inj (by omega)
  simp only [i2]
  by_cases a:rest = 0
  ·rw [if_pos a,if_pos (by omega)];omega
  ·rw [if_neg a,if_neg (by omega)];omega
def nume (m:Nat) (p:Int):Nat:=m * 2 ^ (p + 1074).toNat
def deno (p:Int):Nat:=2 ^ (-(p + 1074)).toNat
theorem place_log (m:Nat) (p:Int) (hm:m ≠ 0):∃ e drop K:Nat,((e:Int) = max (p + m.log2 - 52) (-1074) + 1074) /\ K = (m * 2 ^ (p + 1074 - e).toNat) / 2 ^ drop /\ (e:Int) = (p + 1074) + drop - ((p + 1074 - e).toNat:Nat) /\ drop = (e - (p + 1074)).toNat /\ (e = 0 \/ 4503599627370496 <= K) /\ K < 9007199254740992:=by
 have h1:2 ^ m.log2 <= m:=Nat.log2_self_le hm
 have h2:m < 2 ^ (m.log2 + 1):=Nat.lt_log2_self
 obtain ⟨e,he⟩:∃ e:Nat,(e:Int) = max (p + m.log2 - 52) (-1074) + 1074:=⟨(max (p + m.log2 - 52) (-1074) + 1074).toNat,by omega⟩
 refine ⟨e,(e - (p + 1074)).toNat,_,he,rfl,by omega,rfl,?_⟩
 generalize m.log2 = L at *
 by_cases hs:(e:Int) <= p + 1074
 ·have hd:((e:Int) - (p + 1074)).toNat = 0:=by omega
  rw [hd,Nat.pow_zero,Nat.div_one]
  obtain ⟨s,hs⟩:∃ s:Nat,(p + 1074 - e).toNat = s:=⟨_,rfl⟩
  rw [hs]
  have hsl:s + L <= 52:=by omega
  constructor
  ·by_cases h0:e = 0
   ·exact .inl h0
   ·right
    have:s + L = 52:=by omega
    have h3:2 ^ 52 <= m * 2 ^ s:=by rw [<- this,Nat.add_comm,Nat.pow_add];exact Nat.mul_le_mul_right _ h1
    exact h3
  ·have h3:m * 2 ^ s < 2 ^ (L + 1) * 2 ^ s:=Nat.mul_lt_mul_of_pos_right h2 (Nat.two_pow_pos s)
   rw [<- Nat.pow_add] at h3
   have h4:2 ^ (L + 1 + s) <= 2 ^ 53:=Nat.pow_le_pow_right (by omega) (by omega)
   exact Nat.lt_of_lt_of_le h3 h4
 ·have hd:(p + 1074 - (e:Int)).toNat = 0:=by omega
  rw [hd,Nat.pow_zero,Nat.mul_one]
  obtain ⟨s,hs⟩:∃ s:Nat,(e - (p + 1074)).toNat = s:=⟨_,rfl⟩
  rw [hs]
  have hb:L <= s + 52:=by omega
  constructor
  ·by_cases h0:e = 0
   ·exact .inl h0
   ·right
    have hLs:L = 52 + s:=by omega
    rw [Nat.le_div_iff_mul_le (Nat.two_pow_pos s)]
    rw [hLs,Nat.pow_add] at h1
    exact h1
  ·rw [Nat.div_lt_iff_lt_mul (Nat.two_pow_pos s)]
   have h4:2 ^ (L + 1) <= 2 ^ (53 + s):=Nat.pow_le_pow_right (by omega) (by omega)
   rw [Nat.pow_add 2 53 s] at h4
   exact Nat.lt_of_lt_of_le h2 h4
theorem nearest_eq (neg:Bool) (m:Nat) (p:Int) (hm:m ≠ 0):∃ R,Fl (nume m p) (deno p) R /\ double.nearest neg m p = double.word neg (min (nearK (nume m p) (deno p) R) infK):=by
 obtain ⟨e,drop,K,he,hK,hed,hdrop,hform,hk⟩:=place_log m p hm
 have hm1:m * 2 ^ (p + 1074 - e).toNat ≠ 0:=by
  have:=Nat.two_pow_pos (p + 1074 - e).toNat
  exact Nat.mul_ne_zero hm (by omega)
 have hc:2 ^ (p + 1074 - ↑e).toNat * 2 ^ (min ↑e (p + 1074)).toNat = 2 ^ (p + 1074).toNat:=by
  rw [<- Nat.pow_add];congr 1;omega
 have key:=rung_of (m * 2 ^ (p + 1074 - e).toNat) e drop (2 ^ (min (e:Int) (p + 1074)).toNat) (nume m p) (deno p) K
  (by unfold nume;rw [Nat.mul_assoc,hc]) (Nat.two_pow_pos _) (by unfold deno;rw [<- Nat.pow_add,<- Nat.pow_add];congr 1;omega) hK hform hk
 refine ⟨_,key.1,?_⟩
 rw [key.2.1]
 unfold Format.nearest
 rw [if_neg hm]
 simp only [dbl_frac,dbl_least,dbl_binade,dbl_inf]
 have hlast:max (p + (m.log2:Int) - ((52:Nat):Int)) (-1074) = (e:Int) - 1074:=by omega
 rw [hlast,show ((e:Int) - 1074 - -1074).toNat = e by omega,show (p - ((e:Int) - 1074)).toNat = (p + 1074 - e).toNat by congr 1;omega,show ((e:Int) - 1074 - p).toNat = drop by omega]
 rw [Nat.shiftLeft_eq,cut_even _ _ _ hm1,<- hK]
def Fin (x:Nat):Prop:=frung x < infK
instance (x:Nat):Decidable (Fin x):=inferInstanceAs (Decidable (frung x < infK))
def fval (x:Nat):Int:=if fneg x then -(rmag (frung x):Int) else rmag (frung x)
def Rn (neg:Bool) (n D:Nat) (r:Nat):Prop:=∃ R,Fl n D R /\ r = double.word neg (min (nearK n D R) infK)
theorem word_rung (neg:Bool) {k:Nat} (h:k < 9223372036854775808):frung (double.word neg k) = k /\ fneg (double.word neg k) = neg /\ double.word neg k < 18446744073709551616:=by
 unfold frung fneg Format.word
 rw [dbl_sign]
 cases neg
 ·simp only [Bool.false_eq_true,if_false]
  refine ⟨by omega,?_,by omega⟩
  rw [show k / 9223372036854775808 = 0 by omega];rfl
 ·simp only [if_true]
  refine ⟨by omega,?_,by omega⟩
  rw [show (9223372036854775808 + k) / 9223372036854775808 = 1 by omega];rfl
theorem min_inf_lt (k:Nat):min k infK < 9223372036854775808:=by
 have:infK = 9218868437227405312:=rfl
 omega
theorem Rn.rung {neg:Bool} {n D r:Nat} (h:Rn neg n D r):∃ R,Fl n D R /\ frung r = min (nearK n D R) infK /\ fneg r = neg /\ r < 18446744073709551616:=by
 obtain ⟨R,h1,rfl⟩:=h
 have:=word_rung neg (min_inf_lt (nearK n D R))
 exact ⟨R,h1,this⟩
theorem word_parts {x:Nat} (h:x < 18446744073709551616):x = double.word (fneg x) (frung x):=by
 unfold frung fneg Format.word
 rw [dbl_sign]
 by_cases h1:x / 9223372036854775808 % 2 = 1
 ·rw [h1];simp only [beq_self_eq_true,if_true];omega
 ·have:(x / 9223372036854775808 % 2 == 1) = false:=by simp [h1]
  rw [this];simp only [Bool.false_eq_true,if_false];omega
theorem eq_of_parts {x y:Nat} (hx:x < 18446744073709551616) (hy:y < 18446744073709551616) (h1:fneg x = fneg y) (h2:frung x = frung y):x = y:=by
 rw [word_parts hx,word_parts hy,h1,h2]
theorem Rn.scale {neg:Bool} {n D r:Nat} (c:Nat) (hc:0 < c) (h:Rn neg n D r):Rn neg (n * c) (D * c) r:=by
 obtain ⟨R,h1,rfl⟩:=h
 exact ⟨R,h1.scale c hc,by rw [nearK_scale _ _ _ _ hc]⟩
theorem Rn.unscale {neg:Bool} {n D r:Nat} (c:Nat) (h:Rn neg (n * c) (D * c) r):Rn neg n D r:=by
 obtain ⟨R,h1,rfl⟩:=h
 have hc:0 < c:=by
  rcases Nat.eq_zero_or_pos c with h0 | h0
  ·subst h0;have:=h1.2;simp at this
  ·exact h0
 exact ⟨R,h1.unscale c,by rw [nearK_scale _ _ _ _ hc]⟩
theorem Rn.of_eq {neg:Bool} {n D n' D' r:Nat} (h:Rn neg n D r) (hD:0 < D) (hD':0 < D') (he:n * D' = n' * D):Rn neg n' D' r:=by
 have h1:=h.scale D' hD'
 rw [he,Nat.mul_comm D D'] at h1
 exact h1.unscale D
theorem Rn.uniq {neg:Bool} {n D r s:Nat} (h:Rn neg n D r) (h':Rn neg n D s):r = s:=by
 obtain ⟨R,h1,rfl⟩:=h
 obtain ⟨S,h2,rfl⟩:=h'
 rw [h1.uniq h2]
theorem nearK_cases (n D R:Nat):nearK n D R = R \/ nearK n D R = R + 1:=by
 unfold nearK;split <;> simp
theorem nearK_exact {n D R:Nat} (h:n = rmag R * D) (hD:0 < D):nearK n D R = R:=by
 unfold nearK
 have:=rmag_lt_succ R
 rw [if_pos]
 left
 rw [h,<- Nat.mul_assoc]
 exact Nat.mul_lt_mul_of_pos_right (by omega) hD
theorem Fl.exact (k D:Nat) (hD:0 < D):Fl (rmag k * D) D k:=⟨Nat.le_refl _,Nat.mul_lt_mul_of_pos_right (rmag_lt_succ k) hD⟩
theorem Rn.exact (neg:Bool) (k D:Nat) (hD:0 < D):Rn neg (rmag k * D) D (double.word neg (min k infK)):=⟨k,Fl.exact k D hD,by rw [nearK_exact rfl hD]⟩
theorem nearK_pos {n D R:Nat} (h:Fl n D R) (hk:nearK n D R = R + 1):rmag R * D < n:=by
 rcases Nat.lt_or_eq_of_le h.1 with h1 | h1
 ·exact h1
 ·rw [nearK_exact h1.symm h.pos] at hk;omega
theorem nearK_le {n D R j:Nat} (h:Fl n D R) (hj:n <= rmag j * D):nearK n D R <= j:=by
 rcases nearK_cases n D R with h1 | h1
 ·rw [h1]
  have:rmag R * D <= rmag j * D:=Nat.le_trans h.1 hj
  exact le_of_rmag (Nat.le_of_mul_le_mul_right this h.pos)
 ·have h2:=nearK_pos h h1
  have:rmag R * D < rmag j * D:=by omega
  have:=lt_of_rmag (Nat.lt_of_mul_lt_mul_right this)
  omega
theorem le_nearK {n D R j:Nat} (h:Fl n D R) (hj:rmag j * D <= n):j <= nearK n D R:=by
 have:rmag j * D < rmag (R + 1) * D:=Nat.lt_of_le_of_lt hj h.2
 have:=lt_of_rmag (Nat.lt_of_mul_lt_mul_right this)
 rcases nearK_cases n D R with h1 | h1 <;> omega
theorem nearK_best {n D R j:Nat} (h:Fl n D R):((rmag (nearK n D R) * D:Nat) - (n:Int)).natAbs <= ((rmag j * D:Nat) - (n:Int)).natAbs:=by
 have h1:=h.1
 have h2:=h.2
 rcases Nat.lt_or_ge R j with hj | hj
 ·have:rmag (R + 1) * D <= rmag j * D:=Nat.mul_le_mul_right _ (rmag_le hj)
  unfold nearK
  have e:(rmag R + rmag (R + 1)) * D = rmag R * D + rmag (R + 1) * D:=Nat.add_mul ..
  rw [e]
  split <;> omega
 ·have:rmag j * D <= rmag R * D:=Nat.mul_le_mul_right _ (rmag_le hj)
  unfold nearK
  have e:(rmag R + rmag (R + 1)) * D = rmag R * D + rmag (R + 1) * D:=Nat.add_mul ..
  rw [e]
  split <;> omega
theorem rung_some (m e:Nat) (h:m <= 9007199254740992):∃ k,rmag k = m * 2 ^ e:=by
 induction e generalizing m with
 | zero=>exact ⟨0 * 4503599627370496 + m,by rw [rmag_form 0 m (.inl rfl) h]⟩
 | succ e ih=>
  by_cases h1:4503599627370496 <= m
  ·exact ⟨(e + 1) * 4503599627370496 + m,by rw [rmag_form (e + 1) m (.inr h1) h]⟩
  ·obtain ⟨k,hk⟩:=ih (2 * m) (by omega)
   exact ⟨k,by rw [hk,Nat.pow_succ,Nat.mul_comm 2 m,Nat.mul_assoc,Nat.mul_comm 2]⟩
theorem rung_form (k:Nat):∃ m e,rmag k = m * 2 ^ e /\ m < 9007199254740992 /\ (e = 0 \/ 4503599627370496 <= m):=by
 obtain ⟨e,m,hr,h,hk,_⟩:=rmag_parts k
 exact ⟨m,e,by rw [hr,rmag_form e m h (by omega)],hk,h⟩
theorem signed_eq (neg:Bool) (m u:Nat):signed neg m u = if neg then -((m * 2 ^ u:Nat):Int) else ((m * 2 ^ u:Nat):Int):=by
 unfold signed;rw [Nat.shiftLeft_eq]
theorem shifted (m:Nat) (i b:Int) (hb:b <= i) (hi:-1074 <= b):m * 2 ^ (i + 1074).toNat = m * 2 ^ (i - b).toNat * 2 ^ (b + 1074).toNat:=by
 rw [Nat.mul_assoc,<- Nat.pow_add];congr 2;omega
theorem signed_fval {x:Nat} {m:Nat} {p:Int} (hv:m * 2 ^ (p + 1074).toNat = rmag (frung x)) (b:Int) (hb:b <= p) (hb1:-1074 <= b) :
  signed (fneg x) m (p - b).toNat * 2 ^ (b + 1074).toNat = fval x:=by
 rw [signed_eq]
 unfold fval
 rw [<- hv,shifted m p b hb hb1]
 generalize (p - b).toNat = u
 generalize (b + 1074).toNat = v
 cases fneg x
 ·simp only [Bool.false_eq_true,if_false];rw [Int.natCast_mul (m * 2 ^ u),Int.natCast_pow];rfl
 ·simp only [if_true];rw [Int.natCast_mul (m * 2 ^ u),Int.natCast_pow,Int.neg_mul];rfl
theorem natAbs_mul_pow (t:Int) (u:Nat):(t * 2 ^ u).natAbs = t.natAbs * 2 ^ u:=by
 rw [Int.natAbs_mul,Int.natAbs_pow];rfl
theorem write_number (s:Bool) (m:Nat) (p:Int):double.write (.number s m p) = double.nearest s m p:=rfl
theorem sum_fin {s t:Bool} {m n:Nat} {i j:Int} (x:Int) (y:Int) (hi:-1074 <= i) (hj:-1074 <= j)
  (hx:∀ b,b <= i -> -1074 <= b -> signed s m (i - b).toNat * 2 ^ (b + 1074).toNat = x) (hy:∀ b,b <= j -> -1074 <= b -> signed t n (j - b).toNat * 2 ^ (b + 1074).toNat = y) :
  ∃ d,(Datum.number s m i).sum (.number t n j) = some d /\ ∃ g,Rn g (x + y).natAbs 1 (double.write d) /\ (x + y ≠ 0 -> g = decide (x + y < 0)):=by
 have hs:(Datum.number s m i).sum (.number t n j) = some (.number (if signed s m (i - min i j).toNat + signed t n (j - min i j).toNat = 0 then s && t else decide (signed s m (i - min i j).toNat + signed t n (j - min i j).toNat < 0)) (signed s m (i - min i j).toNat + signed t n (j - min i j).toNat).natAbs (min i j)):=by simp only [Datum.sum]
 refine ⟨_,hs,?_⟩
 clear hs
 have hx:=hx (min i j) (by omega) (by omega)
 have hy:=hy (min i j) (by omega) (by omega)
 generalize signed s m (i - min i j).toNat = X at *
 generalize signed t n (j - min i j).toNat = Y at *
 have e:x + y = (X + Y) * 2 ^ (min i j + 1074).toNat:=by rw [<- hx,<- hy,Int.add_mul]
 have hp:(0:Int) < 2 ^ (min i j + 1074).toNat:=Int.pow_pos (by decide)
 rw [write_number]
 by_cases h0:X + Y = 0
 ·have hz:x + y = 0:=by rw [e,h0,Int.zero_mul]
  rw [if_pos h0,h0,hz]
  refine ⟨s && t,?_,fun h=>absurd rfl h⟩
  have:=Rn.exact (s && t) 0 1 (by omega)
  rw [rmag_zero,Nat.zero_mul] at this
  have e0:double.nearest (s && t) (Int.natAbs 0) (min i j) = double.word (s && t) (min 0 infK):=by unfold Format.nearest;rw [if_pos (show Int.natAbs 0 = 0 from rfl),Nat.zero_min]
  rw [e0]
  exact this
 ·rw [if_neg h0]
  obtain ⟨R,hR,hw⟩:=nearest_eq (decide (X + Y < 0)) (X + Y).natAbs (min i j) (by omega)
  have hd:deno (min i j) = 1:=by unfold deno;rw [show (-(min i j + 1074)).toNat = 0 by omega]
  have hn:nume (X + Y).natAbs (min i j) = (x + y).natAbs:=by unfold nume;rw [e,natAbs_mul_pow]
  rw [hd,hn] at hR hw
  refine ⟨_,⟨R,hR,hw⟩,fun _=>?_⟩
  have:X + Y < 0 ↔ x + y < 0:=by
   rw [e]
   constructor
   ·intro h;exact Int.mul_neg_of_neg_of_pos h hp
   ·intro h;rcases Int.lt_or_le (X + Y) 0 with h1 | h1
    ·exact h1
    ·have:=Int.mul_nonneg h1 (Int.le_of_lt hp);omega
  simp only [this]
theorem add_fin {a b:Nat} (ha:Fin a) (hb:Fin b):∃ r,double.add a b = some r /\ ∃ g,Rn g (fval a + fval b).natAbs 1 r /\ (fval a + fval b ≠ 0 -> g = decide (fval a + fval b < 0)):=by
 obtain ⟨m,i,h1,h2,h3,_⟩:=read_fin ha
 obtain ⟨n,j,k1,k2,k3,_⟩:=read_fin hb
 obtain ⟨d,hd,h⟩:=sum_fin (fval a) (fval b) h2 k2 (fun b hb hb1=>signed_fval h3 b hb hb1) (fun b hb hb1=>signed_fval k3 b hb hb1)
 exact ⟨_,by unfold Format.add;rw [h1,k1,hd];rfl,h⟩
theorem sub_fin {a b:Nat} (ha:Fin a) (hb:Fin b):∃ r,double.sub a b = some r /\ ∃ g,Rn g (fval a - fval b).natAbs 1 r /\ (fval a - fval b ≠ 0 -> g = decide (fval a - fval b < 0)):=by
 obtain ⟨m,i,h1,h2,h3,_⟩:=read_fin ha
 obtain ⟨n,j,k1,k2,k3,_⟩:=read_fin hb
 obtain ⟨d,hd,h⟩:=sum_fin (t:=!fneg b) (n:=n) (fval a) (-fval b) h2 k2 (fun b hb hb1=>signed_fval h3 b hb hb1) (fun c hc hc1=>by
  have:=signed_fval k3 c hc hc1
  rw [<- this,signed_eq,signed_eq]
  generalize (c + 1074).toNat = v
  cases fneg b
  ·simp only [Bool.not_false,if_true,Bool.false_eq_true,if_false,Int.neg_mul]
  ·simp only [Bool.not_true,if_true,Bool.false_eq_true,if_false,Int.neg_mul,Int.neg_neg])
 exact ⟨_,by unfold Format.sub;rw [h1,k1];simp only [Datum.opposite];rw [hd];rfl,h⟩
theorem mul_fin {a b E:Nat} (hE:E = 1074) (ha:Fin a) (hb:Fin b):∃ r,double.mul a b = some r /\ Rn (fneg a ^^ fneg b) (rmag (frung a) * rmag (frung b)) (2 ^ E) r:=by
 obtain ⟨m,i,h1,h2,h3,_⟩:=read_fin ha
 obtain ⟨n,j,k1,k2,k3,_⟩:=read_fin hb
 have hU0:0 < 2 ^ E:=Nat.two_pow_pos _
 refine ⟨double.nearest (fneg a ^^ fneg b) (m * n) (i + j),by unfold Format.mul;rw [h1,k1];rfl,?_⟩
 rw [<- h3,<- k3]
 by_cases h0:m * n = 0
 ·have e:m * 2 ^ (i + 1074).toNat * (n * 2 ^ (j + 1074).toNat) = 0:=by
   rcases Nat.mul_eq_zero.1 h0 with h | h
   ·rw [h,Nat.zero_mul,Nat.zero_mul]
   ·rw [h,Nat.zero_mul,Nat.mul_zero]
  have e0:double.nearest (fneg a ^^ fneg b) (m * n) (i + j) = double.word (fneg a ^^ fneg b) (min 0 infK):=by unfold Format.nearest;rw [if_pos h0,Nat.zero_min]
  rw [e,e0]
  have:=Rn.exact (fneg a ^^ fneg b) 0 (2 ^ E) hU0
  rw [rmag_zero,Nat.zero_mul] at this
  exact this
 ·obtain ⟨R,hR,hw⟩:=nearest_eq (fneg a ^^ fneg b) (m * n) (i + j) h0
  refine Rn.of_eq (n:=nume (m * n) (i + j)) (D:=deno (i + j)) ⟨R,hR,hw⟩ (Nat.two_pow_pos _) hU0 ?_
  unfold nume deno
  obtain ⟨x,hx⟩:∃ x:Nat,(i + 1074).toNat = x:=⟨_,rfl⟩
  obtain ⟨y,hy⟩:∃ y:Nat,(j + 1074).toNat = y:=⟨_,rfl⟩
  obtain ⟨z,hz⟩:∃ z:Nat,(i + j + 1074).toNat = z:=⟨_,rfl⟩
  obtain ⟨z',hz'⟩:∃ z:Nat,(-(i + j + 1074)).toNat = z:=⟨_,rfl⟩
  rw [hx,hy,hz,hz',show E = x + y + z' - z by omega]
  have e1:m * 2 ^ x * (n * 2 ^ y) = m * n * 2 ^ (x + y):=by
   rw [Nat.mul_assoc,Nat.mul_left_comm (2 ^ x),<- Nat.mul_assoc,Nat.pow_add]
  rw [e1,Nat.mul_assoc (m * n),Nat.mul_assoc (m * n),<- Nat.pow_add,<- Nat.pow_add,show z + (x + y + z' - z) = x + y + z' by omega]
def srung (x:Nat):Int:=if fneg x then -(frung x:Int) else frung x
def fopp (x:Nat):Nat:=x ^^^ 9223372036854775808
theorem fopp_parts {x:Nat} (h:x < 18446744073709551616):frung (fopp x) = frung x /\ fneg (fopp x) = !fneg x /\ fopp x < 18446744073709551616:=by
 have h1:fopp x % 2 ^ 63 = x % 2 ^ 63:=by
  unfold fopp;rw [Nat.xor_mod_two_pow,show 9223372036854775808 % 2 ^ 63 = 0 by decide,Nat.xor_zero]
 have h2:fopp x / 2 ^ 63 = (x / 2 ^ 63) ^^^ 1:=by
  unfold fopp;rw [Nat.xor_div_two_pow]
 have hp:(2:Nat) ^ 63 = 9223372036854775808:=by decide
 rw [hp] at h1 h2
 have h3:x / 9223372036854775808 = 0 \/ x / 9223372036854775808 = 1:=by omega
 refine ⟨h1,?_,?_⟩
 ·unfold fneg;rw [h2]
  rcases h3 with h3 | h3 <;> rw [h3] <;> decide
 ·rcases h3 with h3 | h3
  ·rw [h3] at h2;have:(0 ^^^ 1:Nat) = 1:=by decide
   omega
  ·rw [h3] at h2;have:(1 ^^^ 1:Nat) = 0:=by decide
   omega
theorem fopp_srung {x:Nat} (h:x < 18446744073709551616):srung (fopp x) = -srung x:=by
 unfold srung;rw [(fopp_parts h).1,(fopp_parts h).2.1];cases fneg x <;> simp
theorem icmp (x y:Int):compare x y = if x < y then .lt else if x = y then .eq else .gt:=rfl
theorem fval_srung (x y:Nat):compare (fval x) (fval y) = compare (srung x) (srung y):=by
 have key:(fval x < fval y ↔ srung x < srung y) /\ (fval x = fval y ↔ srung x = srung y):=by
  unfold fval srung
  have l1:rmag (frung x) < rmag (frung y) ↔ frung x < frung y:=⟨lt_of_rmag,rmag_lt⟩
  have l2:rmag (frung y) < rmag (frung x) ↔ frung y < frung x:=⟨lt_of_rmag,rmag_lt⟩
  have z1:frung x <= rmag (frung x):=le_rmag _
  have z2:frung y <= rmag (frung y):=le_rmag _
  have z3:rmag (frung x) = 0 ↔ frung x = 0:=⟨fun h=>by omega,fun h=>by rw [h];rfl⟩
  have z4:rmag (frung y) = 0 ↔ frung y = 0:=⟨fun h=>by omega,fun h=>by rw [h];rfl⟩
  generalize rmag (frung x) = a at *
  generalize rmag (frung y) = b at *
  cases fneg x <;> cases fneg y <;> simp only [Bool.false_eq_true,if_false,if_true] <;> omega
 rw [icmp,icmp]
 simp only [key.1,key.2]
theorem compare_scale (x y:Int) (c:Int) (hc:0 < c):compare (x * c) (y * c) = compare x y:=by
 have h1:x * c < y * c ↔ x < y:=⟨fun h=>Int.lt_of_mul_lt_mul_right h (Int.le_of_lt hc),fun h=>Int.mul_lt_mul_of_pos_right h hc⟩
 have h2:x * c = y * c ↔ x = y:=⟨fun h=>Int.eq_of_mul_eq_mul_right (by omega) h,fun h=>by rw [h]⟩
 rw [icmp,icmp]
 simp only [h1,h2]
theorem order_rung {x y:Nat} (hx:frung x <= infK) (hy:frung y <= infK):double.order x y = some (compare (srung x) (srung y)):=by
 unfold Format.order
 rcases Nat.lt_or_eq_of_le hx with fx | fx <;> rcases Nat.lt_or_eq_of_le hy with fy | fy
 ·obtain ⟨m,i,h1,h2,h3,_⟩:=read_fin fx
  obtain ⟨n,j,k1,k2,k3,_⟩:=read_fin fy
  rw [h1,k1,<- fval_srung]
  simp only [Datum.order]
  rw [<- signed_fval h3 (min i j) (by omega) (by omega),<- signed_fval k3 (min i j) (by omega) (by omega),compare_scale _ _ _ (Int.pow_pos (by decide))]
 ·obtain ⟨m,i,h1,h2,h3,_⟩:=read_fin fx
  rw [h1,read_inf fy]
  simp only [Datum.order,srung]
  have:infK = 9218868437227405312:=rfl
  cases fneg x <;> cases fneg y <;> simp only [Bool.false_eq_true,if_false,if_true,icmp]
  all_goals first | (rw [if_pos (by omega)]) | (rw [if_neg (by omega),if_neg (by omega)])
 ·obtain ⟨n,j,k1,k2,k3,_⟩:=read_fin fy
  rw [k1,read_inf fx]
  simp only [Datum.order,srung]
  have:infK = 9218868437227405312:=rfl
  cases fneg x <;> cases fneg y <;> simp only [Bool.false_eq_true,if_false,if_true,icmp]
  all_goals first | (rw [if_pos (by omega)]) | (rw [if_neg (by omega),if_neg (by omega)])
 ·rw [read_inf fx,read_inf fy]
  simp only [Datum.order,srung,fx,fy]
  cases fneg x <;> cases fneg y <;> decide
theorem order_nan {x y:Nat} (h:infK < frung x \/ infK < frung y):double.order x y = none:=by
 unfold Format.order
 rcases h with h | h
 ·rw [read_nan h];rfl
 ·rw [read_nan h];cases double.read x <;> rfl
def aboveM (a:Nat):Nat:=if srung a = 0 then 1 else if 0 < srung a then a + 1 else a - 1
def plainM (a:Nat):Nat:=if srung a = 0 then 0 else a
def movedM (d:Int) (near rest:Nat):Nat:=
 if d = 2 then (if srung rest < 0 then fopp (aboveM (fopp near)) else near)
 else if d = 1 then (if 0 < srung rest then aboveM near else near) else near
def toldM (d:Int) (near rest:Nat):Nat × Bool:=
 if (d = 0 \/ d = 1 \/ d = 2) /\ Fin (movedM d near rest) then (plainM (movedM d near rest),true) else (0,false)
def Away (n D near:Nat):Prop:=frung near < infK /\ rmag (frung near) * D < n
def Toward (n D near:Nat):Prop:=frung near = infK \/ n < rmag (frung near) * D
structure Sides (neg:Bool) (n D near rest:Nat):Prop where
 num:frung rest <= infK
 pos:0 < srung rest ↔ (neg = false /\ Away n D near) \/ (neg = true /\ Toward n D near)
 neg:srung rest < 0 ↔ (neg = false /\ Toward n D near) \/ (neg = true /\ Away n D near)
theorem above_pos {a:Nat} (h:a < 18446744073709551616) (hr:frung a < infK) (hn:fneg a = false):aboveM a = double.word false (frung a + 1):=by
 have hp:=word_parts h
 rw [hn] at hp
 have:infK = 9218868437227405312:=rfl
 unfold aboveM srung
 rw [hn]
 simp only [Bool.false_eq_true,if_false,Format.word] at hp ⊢
 by_cases h0:frung a = 0
 ·rw [if_pos (by omega),h0]
 ·rw [if_neg (by omega),if_pos (by omega)];omega
theorem above_zero {a:Nat} (hr:frung a = 0):aboveM a = 1:=by
 unfold aboveM srung;rw [hr];simp
theorem above_neg {a:Nat} (h:a < 18446744073709551616) (hr:0 < frung a) (hn:fneg a = true):aboveM a = double.word true (frung a - 1):=by
 have hp:=word_parts h
 rw [hn] at hp
 unfold aboveM srung
 rw [hn]
 simp only [if_true,Format.word] at hp ⊢
 rw [if_neg (by omega),if_neg (by omega)];omega
theorem plain_word {neg:Bool} {k:Nat} (h:k < infK):plainM (double.word neg k) = sgnK neg k:=by
 have:infK = 9218868437227405312:=rfl
 have hw:=word_rung neg (k:=k) (by omega)
 unfold plainM srung sgnK
 rw [hw.1,hw.2.1]
 unfold Format.word
 rw [dbl_sign]
 cases neg
 ·simp only [Bool.false_eq_true,if_false,false_and]
  by_cases h0:k = 0
  ·rw [if_pos (by omega),h0]
  ·rw [if_neg (by omega)]
 ·simp only [if_true,true_and]
  by_cases h0:k = 0
  ·rw [if_pos (by omega),if_neg (by omega),h0]
  ·rw [if_neg (by omega),if_pos (by omega)]
theorem fin_word {neg:Bool} {k:Nat} (h:k <= infK):Fin (double.word neg k) ↔ k < infK:=by
 have:infK = 9218868437227405312:=rfl
 unfold Fin
 rw [(word_rung neg (k:=k) (by omega)).1]
theorem fopp_word (neg:Bool) {k:Nat} (h:k <= infK):fopp (double.word neg k) = double.word (!neg) k:=by
 have:infK = 9218868437227405312:=rfl
 have hw:=word_rung neg (k:=k) (by omega)
 have hw':=word_rung (!neg) (k:=k) (by omega)
 have ho:=fopp_parts hw.2.2
 exact eq_of_parts ho.2.2 hw'.2.2 (by rw [ho.2.1,hw.2.1,hw'.2.1]) (by rw [ho.1,hw.1,hw'.1])
theorem moved_word {neg:Bool} {n D near rest R:Nat} (d:Int) (hd:d = 0 \/ d = 1 \/ d = 2) (hR:Fl n D R) (hn:near = double.word neg (min (nearK n D R) infK)) (hs:Sides neg n D near rest) :
  ∃ g k,movedM d near rest = double.word g k /\ k <= infK /\ (k ≠ 0 -> g = neg) ∧
   k = (if d = 0 then min (nearK n D R) infK else if d = 1 /\ neg = false \/ d = 2 /\ neg = true then min (upK n D R) infK else min R (infK - 1)):=by
 have hinf:0 < infK:=by decide
 have hpos:=hs.pos
 have hneg:=hs.neg
 have above_pos:∀ {a:Nat},a < 18446744073709551616 -> frung a < infK -> fneg a = false -> aboveM a = double.word false (frung a + 1):=above_pos
 have fopp_word:∀ (neg:Bool) {k:Nat},k <= infK -> fopp (double.word neg k) = double.word (!neg) k:=fopp_word
 have hw:=word_rung neg (min_inf_lt (nearK n D R))
 rw [<- hn] at hw
 have hkle:min (nearK n D R) infK <= infK:=Nat.min_le_right ..
 obtain ⟨hr0,hr1⟩:=hR
 have hD:=Fl.pos ⟨hr0,hr1⟩
 have hFl:Fl n D R:=⟨hr0,hr1⟩
 clear hs
 unfold Away Toward at hpos hneg
 generalize infK = I at *
 have hA:(frung near < I /\ rmag (frung near) * D < n) ↔ (nearK n D R = R /\ R < I /\ n ≠ rmag R * D):=by
  rw [hw.1]
  rcases nearK_cases n D R with h | h
  ·rw [h]
   constructor
   ·rintro ⟨a,b⟩
    have hlt:R < I:=by omega
    rw [Nat.min_eq_left (by omega)] at b
    exact ⟨rfl,hlt,by omega⟩
   ·rintro ⟨_,a,b⟩
    rw [Nat.min_eq_left (by omega)]
    exact ⟨a,by omega⟩
  ·rw [h]
   constructor
   ·rintro ⟨a,b⟩
    rw [Nat.min_eq_left (by omega)] at b
    omega
   ·rintro ⟨a,_⟩;omega
 have hT:(frung near = I \/ n < rmag (frung near) * D) ↔ (nearK n D R = R + 1 \/ I <= nearK n D R):=by
  rw [hw.1]
  constructor
  ·rintro (a | a)
   ·right;omega
   ·rcases nearK_cases n D R with h | h
    ·rw [h] at a
     by_cases hb:R <= I
     ·rw [Nat.min_eq_left hb] at a;omega
     ·right;omega
    ·exact .inl h
  ·rintro (a | a)
   ·by_cases hb:R + 1 < I
    ·right;rw [a,Nat.min_eq_left (by omega)];exact hr1
    ·left;omega
   ·left;omega
 have hup:upK n D R = if n = rmag R * D then R else R + 1:=rfl
 have hex:n = rmag R * D -> nearK n D R = R:=fun h=>nearK_exact h hD
 have hcs:=nearK_cases n D R
 rw [hA,hT] at hpos hneg
 clear hA hT
 unfold movedM
 rcases hd with rfl | rfl | rfl
 ·-- near
  refine ⟨neg,_,hn,hkle,fun _=>rfl,rfl⟩
 ·-- up
  rw [if_neg (show ¬ ((1:Int) = 2) by decide),if_pos (show (1:Int) = 1 from rfl),if_neg (show ¬ ((1:Int) = 0) by decide)]
  cases neg
  ·rw [if_pos (show (1:Int) = 1 /\ false = false \/ (1:Int) = 2 /\ false = true from .inl ⟨rfl,rfl⟩)]
   by_cases h:0 < srung rest
   ·rw [if_pos h]
    have h':=hpos.1 h
    simp only [Bool.false_eq_true,true_and,false_and,or_false] at h'
    rw [above_pos hw.2.2 (by rw [hw.1,h'.1];omega) hw.2.1,hw.1,h'.1,hup,if_neg h'.2.2]
    exact ⟨false,_,rfl,by omega,fun _=>rfl,by omega⟩
   ·rw [if_neg h]
    have h':¬ (nearK n D R = R /\ R < I /\ n ≠ rmag R * D):=fun c=>h (hpos.2 (.inl ⟨rfl,c⟩))
    refine ⟨false,_,hn,hkle,fun _=>rfl,?_⟩
    rw [hup]
    by_cases he:n = rmag R * D
    ·rw [if_pos he,hex he]
    ·rw [if_neg he];omega
  ·rw [if_neg (show ¬ ((1:Int) = 1 /\ true = false \/ (1:Int) = 2 /\ true = true) by simp)]
   by_cases h:0 < srung rest
   ·rw [if_pos h]
    have h':=hpos.1 h
    simp only [Bool.true_eq_false,true_and,false_and,false_or] at h'
    have hk0:0 < min (nearK n D R) I:=by omega
    rw [above_neg hw.2.2 (by rw [hw.1];exact hk0) hw.2.1,hw.1]
    exact ⟨true,_,rfl,by omega,fun _=>rfl,by omega⟩
   ·rw [if_neg h]
    have h':¬ (nearK n D R = R + 1 \/ I <= nearK n D R):=fun c=>h (hpos.2 (.inr ⟨rfl,c⟩))
    exact ⟨true,_,hn,hkle,fun _=>rfl,by omega⟩
 ·-- down
  rw [if_pos (show (2:Int) = 2 from rfl),if_neg (show ¬ ((2:Int) = 0) by decide)]
  have hf:fopp near = double.word (!neg) (min (nearK n D R) I):=by rw [hn,fopp_word _ hkle]
  have hw':=fopp_parts hw.2.2
  rw [hw.1,hw.2.1] at hw'
  cases neg
  ·rw [if_neg (show ¬ ((2:Int) = 1 /\ false = false \/ (2:Int) = 2 /\ false = true) by simp)]
   by_cases h:srung rest < 0
   ·rw [if_pos h]
    have h':=hneg.1 h
    simp only [Bool.false_eq_true,true_and,false_and,or_false] at h'
    have hk0:0 < min (nearK n D R) I:=by omega
    rw [above_neg hw'.2.2 (by rw [hw'.1];exact hk0) hw'.2.1,hw'.1,fopp_word _ (by omega)]
    exact ⟨false,_,rfl,by omega,fun _=>rfl,by omega⟩
   ·rw [if_neg h]
    have h':¬ (nearK n D R = R + 1 \/ I <= nearK n D R):=fun c=>h (hneg.2 (.inl ⟨rfl,c⟩))
    exact ⟨false,_,hn,hkle,fun _=>rfl,by omega⟩
  ·rw [if_pos (show (2:Int) = 1 /\ true = false \/ (2:Int) = 2 /\ true = true from .inr ⟨rfl,rfl⟩)]
   by_cases h:srung rest < 0
   ·rw [if_pos h]
    have h':=hneg.1 h
    simp only [Bool.true_eq_false,true_and,false_and,false_or] at h'
    rw [above_pos hw'.2.2 (by rw [hw'.1,h'.1];omega) hw'.2.1,hw'.1,h'.1,fopp_word _ (by omega),hup,if_neg h'.2.2]
    exact ⟨true,_,rfl,by omega,fun _=>rfl,by omega⟩
   ·rw [if_neg h]
    have h':¬ (nearK n D R = R /\ R < I /\ n ≠ rmag R * D):=fun c=>h (hneg.2 (.inr ⟨rfl,c⟩))
    refine ⟨true,_,hn,hkle,fun _=>rfl,?_⟩
    rw [hup]
    by_cases he:n = rmag R * D
    ·rw [if_pos he,hex he]
    ·rw [if_neg he];omega
theorem plain_word' {g neg:Bool} {k:Nat} (h:k < infK) (hg:k ≠ 0 -> g = neg):plainM (double.word g k) = sgnK neg k:=by
 rw [plain_word h]
 by_cases h0:k = 0
 ·subst h0;unfold sgnK;simp
 ·rw [hg h0]
theorem told_rnd {neg:Bool} {n D near rest:Nat} (d:Int) (hn:Rn neg n D near) (hs:Sides neg n D near rest):Rnd d neg n D (toldM d near rest):=by
 obtain ⟨R,hR,he⟩:=hn
 refine ⟨R,hR,?_⟩
 have hinf:0 < infK:=by decide
 by_cases hd:d = 0 \/ d = 1 \/ d = 2
 ·obtain ⟨g,k,h1,h2,h3,h4⟩:=moved_word d hd hR he hs
  unfold toldM tellK
  rw [h1]
  have hfin:=fin_word (neg:=g) h2
  rcases hd with rfl | rfl | rfl
  ·rw [if_pos rfl] at h4 ⊢
   by_cases hb:nearK n D R < infK
   ·rw [Nat.min_eq_left (by omega)] at h4
    rw [if_pos ⟨.inl rfl,hfin.2 (by omega)⟩,if_pos hb,plain_word' (by omega) h3,h4]
   ·rw [if_neg hb,if_neg (fun c=>by have:=hfin.1 c.2;omega)]
  ·rw [if_neg (show ¬ ((1:Int) = 0) by decide)] at h4
   rw [if_neg (show ¬ ((1:Int) = 0) by decide)]
   by_cases hc:(1:Int) = 1 /\ neg = false \/ (1:Int) = 2 /\ neg = true
   ·rw [if_pos hc] at h4 ⊢
    by_cases hb:upK n D R < infK
    ·rw [Nat.min_eq_left (by omega)] at h4
     rw [if_pos ⟨.inr (.inl rfl),hfin.2 (by omega)⟩,if_pos hb,plain_word' (by omega) h3,h4]
    ·rw [if_neg hb,if_neg (fun c=>by have:=hfin.1 c.2;omega)]
   ·rw [if_neg hc] at h4 ⊢
    rw [if_pos (show ((1:Int) = 0 \/ (1:Int) = 1 \/ (1:Int) = 2) /\ Fin (double.word g k) from ⟨.inr (.inl rfl),hfin.2 (by omega)⟩),if_pos (show (1:Int) = 1 \/ (1:Int) = 2 from .inl rfl),plain_word' (by omega) h3,h4]
  ·rw [if_neg (show ¬ ((2:Int) = 0) by decide)] at h4
   rw [if_neg (show ¬ ((2:Int) = 0) by decide)]
   by_cases hc:(2:Int) = 1 /\ neg = false \/ (2:Int) = 2 /\ neg = true
   ·rw [if_pos hc] at h4 ⊢
    by_cases hb:upK n D R < infK
    ·rw [Nat.min_eq_left (by omega)] at h4
     rw [if_pos ⟨.inr (.inr rfl),hfin.2 (by omega)⟩,if_pos hb,plain_word' (by omega) h3,h4]
    ·rw [if_neg hb,if_neg (fun c=>by have:=hfin.1 c.2;omega)]
   ·rw [if_neg hc] at h4 ⊢
    rw [if_pos (show ((2:Int) = 0 \/ (2:Int) = 1 \/ (2:Int) = 2) /\ Fin (double.word g k) from ⟨.inr (.inr rfl),hfin.2 (by omega)⟩),if_pos (show (2:Int) = 1 \/ (2:Int) = 2 from .inr rfl),plain_word' (by omega) h3,h4]
 ·unfold toldM tellK
  rw [if_neg (fun c=>hd c.1),if_neg (fun c=>hd (.inl c)),if_neg (by omega),if_neg (by omega)]
theorem dvd_of_ge {k i:Nat} (h:4503599627370496 * 2 ^ i <= rmag k):2 ^ i ∣ rmag k:=by
 obtain ⟨m,e,hm,hm1,_⟩:=rung_form k
 rw [hm] at h ⊢
 by_cases hi:i <= e
 ·exact Nat.dvd_trans (Nat.pow_dvd_pow 2 hi) (Nat.dvd_mul_left ..)
 ·exfalso
  have h1:2 ^ (e + 1) <= 2 ^ i:=Nat.pow_le_pow_right (by omega) (by omega)
  rw [Nat.pow_succ] at h1
  have h2:m * 2 ^ e < 9007199254740992 * 2 ^ e:=Nat.mul_lt_mul_of_pos_right hm1 (Nat.two_pow_pos e)
  omega
theorem rung_dvd {n i:Nat} (hd:2 ^ i ∣ n) (hn:n <= 9007199254740992 * 2 ^ i):∃ k,rmag k = n:=by
 obtain ⟨c,rfl⟩:=hd
 have:c <= 9007199254740992:=by
  rw [Nat.mul_comm] at hn;exact Nat.le_of_mul_le_mul_right hn (Nat.two_pow_pos i)
 obtain ⟨k,hk⟩:=rung_some c i this
 exact ⟨k,by rw [hk,Nat.mul_comm]⟩
theorem near_one {n R j:Nat} (h:Fl n 1 R) (hj:rmag j = n):rmag (nearK n 1 R) = n:=by
 have h1:=nearK_le h (j:=j) (by omega)
 have h2:=le_nearK h (j:=j) (by omega)
 rw [show nearK n 1 R = j by omega,hj]
theorem left_plus {x y a b R:Nat} (ha:rmag a = x) (hb:rmag b = y) (hab:b <= a) (hR:Fl (x + y) 1 R) :
  x <= rmag (nearK (x + y) 1 R) /\ (∃ t,rmag t = rmag (nearK (x + y) 1 R) - x) /\ (∃ e,rmag e = ((x + y:Nat) - (rmag (nearK (x + y) 1 R):Int)).natAbs /\ e <= b):=by
 have hx:x <= rmag (nearK (x + y) 1 R):=by
  have:=rmag_le (le_nearK hR (j:=a) (by omega));omega
 have hbest:∀ j,((rmag (nearK (x + y) 1 R):Nat) - ((x + y:Nat):Int)).natAbs <= ((rmag j:Nat) - ((x + y:Nat):Int)).natAbs:=by
  intro j;have:=nearK_best hR (j:=j);rw [Nat.mul_one,Nat.mul_one] at this;exact this
 have hE:((x + y:Nat) - (rmag (nearK (x + y) 1 R):Int)).natAbs <= y:=by have:=hbest a;omega
 have hexact:=fun j=>near_one (j:=j) hR
 have hge:∀ j,rmag j <= x + y -> rmag j <= rmag (nearK (x + y) 1 R):=fun j h=>rmag_le (le_nearK hR (by omega))
 have hdv:∀ i,4503599627370496 * 2 ^ i <= rmag (nearK (x + y) 1 R) -> 2 ^ i ∣ rmag (nearK (x + y) 1 R):=fun i h=>dvd_of_ge h
 generalize rmag (nearK (x + y) 1 R) = u at *
 obtain ⟨i,ma,hra,hfa,hka,_⟩:=rmag_parts a
 obtain ⟨j,mb,hrb,hfb,hkb,_⟩:=rmag_parts b
 have hji:j <= i:=by omega
 have xa:x = ma * 2 ^ i:=by rw [<- ha,hra,rmag_form i ma hfa (by omega)]
 have yb:y = mb * 2 ^ j:=by rw [<- hb,hrb,rmag_form j mb hfb (by omega)]
 obtain ⟨c,hc⟩:∃ c,2 ^ i = c * 2 ^ j:=⟨2 ^ (i - j),by rw [<- Nat.pow_add];congr 1;omega⟩
 have hdx:2 ^ j ∣ x + y:=by rw [xa,yb,hc,<- Nat.mul_assoc,<- Nat.add_mul];exact Nat.dvd_mul_left ..
 by_cases hw:x + y <= 9007199254740992 * 2 ^ j
 ·obtain ⟨k,hk⟩:=rung_dvd hdx hw
  have:=hexact k hk
  subst this
  exact ⟨hx,⟨b,by omega⟩,⟨0,by rw [rmag_zero];omega,by omega⟩⟩
 ·have hyx:y <= x:=by rw [<- ha,<- hb];exact rmag_le hab
  have pj:=Nat.two_pow_pos j
  have pi:=Nat.two_pow_pos i
  have hu:9007199254740992 * 2 ^ j <= u:=by
   obtain ⟨k,hk⟩:=rung_some 9007199254740992 j (Nat.le_refl _)
   have:=hge k (by omega);omega
  have hdu:2 ^ j ∣ u:=hdv j (by omega)
  have hyb:y < 9007199254740992 * 2 ^ j:=by rw [yb];exact Nat.mul_lt_mul_of_pos_right hkb pj
  refine ⟨hx,?_,?_⟩
  ·have hiu:2 ^ i ∣ u:=by
    rcases hfa with h0 | h0
    ·subst h0;simp
    ·refine hdv i (Nat.le_trans ?_ hx)
     rw [xa];exact Nat.mul_le_mul_right _ h0
   have hix:2 ^ i ∣ x:=by rw [xa];exact Nat.dvd_mul_left ..
   refine rung_dvd (Nat.dvd_sub hiu hix) ?_
   have hxm:x <= 9007199254740991 * 2 ^ i:=by rw [xa];exact Nat.mul_le_mul_right _ (by omega)
   have hq:(x + y) / 2 ^ (i + 1) <= 9007199254740991:=by
    have h1:(x + y) / 2 ^ (i + 1) < 9007199254740992:=by
     rw [Nat.div_lt_iff_lt_mul (Nat.two_pow_pos _),Nat.pow_succ];omega
    omega
   have hdm:=Nat.div_add_mod (x + y) (2 ^ (i + 1))
   have hlt:=Nat.mod_lt (x + y) (Nat.two_pow_pos (i + 1))
   obtain ⟨k1,hk1⟩:=rung_some ((x + y) / 2 ^ (i + 1)) (i + 1) (by omega)
   obtain ⟨k2,hk2⟩:=rung_some ((x + y) / 2 ^ (i + 1) + 1) (i + 1) (by omega)
   have b1:=hbest k1
   have b2:=hbest k2
   rw [Nat.add_mul,Nat.one_mul] at hk2
   rw [Nat.mul_comm] at hdm
   generalize (x + y) / 2 ^ (i + 1) * 2 ^ (i + 1) = Q at *
   generalize (x + y) % 2 ^ (i + 1) = r at *
   have h2:2 ^ (i + 1) = 2 * 2 ^ i:=by rw [Nat.pow_succ,Nat.mul_comm]
   omega
  ·have hde:2 ^ j ∣ ((x + y:Nat) - (u:Int)).natAbs:=by
    rcases Nat.le_total u (x + y) with h | h
    ·rw [show ((x + y:Nat) - (u:Int)).natAbs = x + y - u by omega];exact Nat.dvd_sub hdx hdu
    ·rw [show ((x + y:Nat) - (u:Int)).natAbs = u - (x + y) by omega];exact Nat.dvd_sub hdu hdx
   obtain ⟨e,he⟩:=rung_dvd hde (by omega)
   exact ⟨e,he,le_of_rmag (by omega)⟩
theorem left_minus {x y a b R:Nat} (ha:rmag a = x) (hb:rmag b = y) (hab:b <= a) (hR:Fl (x - y) 1 R) :
  rmag (nearK (x - y) 1 R) <= x /\ (∃ t,rmag t = x - rmag (nearK (x - y) 1 R)) /\ (∃ e,rmag e = ((x - y:Nat) - (rmag (nearK (x - y) 1 R):Int)).natAbs /\ e <= b):=by
 have hyx:y <= x:=by rw [<- ha,<- hb];exact rmag_le hab
 have hx:rmag (nearK (x - y) 1 R) <= x:=by
  have:=rmag_le (nearK_le hR (j:=a) (by omega));omega
 have hbest:∀ j,((rmag (nearK (x - y) 1 R):Nat) - ((x - y:Nat):Int)).natAbs <= ((rmag j:Nat) - ((x - y:Nat):Int)).natAbs:=by
  intro j;have:=nearK_best hR (j:=j);rw [Nat.mul_one,Nat.mul_one] at this;exact this
 have hE:((x - y:Nat) - (rmag (nearK (x - y) 1 R):Int)).natAbs <= y:=by have:=hbest a;omega
 have hexact:=fun j=>near_one (j:=j) hR
 have hge:∀ j,rmag j <= x - y -> rmag j <= rmag (nearK (x - y) 1 R):=fun j h=>rmag_le (le_nearK hR (by omega))
 have hdv:∀ i,4503599627370496 * 2 ^ i <= rmag (nearK (x - y) 1 R) -> 2 ^ i ∣ rmag (nearK (x - y) 1 R):=fun i h=>dvd_of_ge h
 generalize rmag (nearK (x - y) 1 R) = u at *
 obtain ⟨i,ma,hra,hfa,hka,_⟩:=rmag_parts a
 obtain ⟨j,mb,hrb,hfb,hkb,_⟩:=rmag_parts b
 have hji:j <= i:=by omega
 have xa:x = ma * 2 ^ i:=by rw [<- ha,hra,rmag_form i ma hfa (by omega)]
 have yb:y = mb * 2 ^ j:=by rw [<- hb,hrb,rmag_form j mb hfb (by omega)]
 obtain ⟨c,hc⟩:∃ c,2 ^ i = c * 2 ^ j:=⟨2 ^ (i - j),by rw [<- Nat.pow_add];congr 1;omega⟩
 have hdjx:2 ^ j ∣ x:=by rw [xa,hc,<- Nat.mul_assoc];exact Nat.dvd_mul_left ..
 have hdjy:2 ^ j ∣ y:=by rw [yb];exact Nat.dvd_mul_left ..
 have hdx:2 ^ j ∣ x - y:=Nat.dvd_sub hdjx hdjy
 have pj:=Nat.two_pow_pos j
 have hyb:y < 9007199254740992 * 2 ^ j:=by rw [yb];exact Nat.mul_lt_mul_of_pos_right hkb pj
 by_cases hw:x - y <= 9007199254740992 * 2 ^ j
 ·obtain ⟨k,hk⟩:=rung_dvd hdx hw
  have:=hexact k hk
  subst this
  exact ⟨hx,⟨b,by omega⟩,⟨0,by rw [rmag_zero];omega,by omega⟩⟩
 ·have hi:i ≠ 0:=by
   intro h0
   have hj0:j = 0:=by omega
   subst h0 hj0
   omega
  have hma:4503599627370496 <= ma:=by omega
  have hu:9007199254740992 * 2 ^ j <= u:=by
   obtain ⟨k,hk⟩:=rung_some 9007199254740992 j (Nat.le_refl _)
   have:=hge k (by omega);omega
  have hdu:2 ^ j ∣ u:=hdv j (by omega)
  refine ⟨hx,?_,?_⟩
  ·obtain ⟨i',rfl⟩:∃ i',i = i' + 1:=⟨i - 1,by omega⟩
   have xa':x = 2 * (ma * 2 ^ i'):=by rw [xa,Nat.pow_succ,<- Nat.mul_assoc,Nat.mul_comm]
   have hm:ma * 2 ^ i' <= u:=by
    obtain ⟨k,hk⟩:=rung_some ma i' (by omega)
    have:=hge k (by omega);omega
   have hiu:2 ^ i' ∣ u:=by
    refine hdv i' (Nat.le_trans ?_ hm)
    exact Nat.mul_le_mul_right _ hma
   have hix:2 ^ i' ∣ x:=by rw [xa',<- Nat.mul_assoc];exact Nat.dvd_mul_left ..
   refine rung_dvd (Nat.dvd_sub hix hiu) ?_
   have:ma * 2 ^ i' <= 9007199254740992 * 2 ^ i':=Nat.mul_le_mul_right _ (by omega)
   omega
  ·have hde:2 ^ j ∣ ((x - y:Nat) - (u:Int)).natAbs:=by
    rcases Nat.le_total u (x - y) with h | h
    ·rw [show ((x - y:Nat) - (u:Int)).natAbs = x - y - u by omega];exact Nat.dvd_sub hdx hdu
    ·rw [show ((x - y:Nat) - (u:Int)).natAbs = u - (x - y) by omega];exact Nat.dvd_sub hdu hdx
   obtain ⟨e,he⟩:=rung_dvd hde (by omega)
   exact ⟨e,he,le_of_rmag (by omega)⟩
theorem sub_exact {a b k:Nat} (ha:Fin a) (hb:Fin b) (hk:rmag k = (fval a - fval b).natAbs) (hf:k < infK):∃ r,double.sub a b = some r /\ Fin r /\ fval r = fval a - fval b:=by
 obtain ⟨r,hr,g,hg,hs⟩:=sub_fin ha hb
 refine ⟨r,hr,?_⟩
 obtain ⟨R,hR,h1,h2,_⟩:=hg.rung
 have h3:nearK (fval a - fval b).natAbs 1 R = k:=by
  have:=near_one hR hk
  rw [<- hk] at this
  rw [<- hk]
  exact rmag_inj this
 rw [h3,Nat.min_eq_left (Nat.le_of_lt hf)] at h1
 refine ⟨by unfold Fin;rw [h1];exact hf,?_⟩
 have fr:fval r = if fneg r then -(rmag (frung r):Int) else rmag (frung r):=rfl
 rw [fr,h1,h2,hk]
 clear fr hk hg hR h3 hr
 generalize fval a - fval b = V at *
 by_cases h0:V = 0
 ·rw [h0];cases g <;> rfl
 ·rw [hs h0]
  by_cases h5:V < 0
  ·simp only [h5,decide_true,if_true];omega
  ·simp only [h5,decide_false,Bool.false_eq_true,if_false];omega
theorem fval_abs (x:Nat):(fval x).natAbs = rmag (frung x):=by
 unfold fval;cases fneg x <;> simp
theorem Rn.fval_of {g:Bool} {V:Int} {s R:Nat} (hR:Fl V.natAbs 1 R) (h:Rn g V.natAbs 1 s) (hs:V ≠ 0 -> g = decide (V < 0)) (hf:Fin s) :
  fval s = (if V < 0 then -(rmag (nearK V.natAbs 1 R):Int) else rmag (nearK V.natAbs 1 R)) /\ nearK V.natAbs 1 R < infK:=by
 obtain ⟨R',hR',h1,h2,_⟩:=h.rung
 rw [hR'.uniq hR] at h1
 unfold Fin at hf
 have hlt:nearK V.natAbs 1 R < infK:=by omega
 rw [Nat.min_eq_left (by omega)] at h1
 refine ⟨?_,hlt⟩
 unfold fval
 rw [h1,h2]
 by_cases h0:V = 0
 ·have hz:rmag (nearK V.natAbs 1 R) = 0:=by rw [near_one (j:=0) hR (by rw [h0];rfl),h0];rfl
  rw [hz,h0];cases g <;> rfl
 ·rw [hs h0];simp only [decide_eq_true_eq]
theorem sum_rest_v {a b s s2:Nat} (ha:Fin a) (hb:Fin b) (hab:frung b <= frung a) (hs:double.add a b = some s) (hf:Fin s) (hf2:Fin s2) (hv2:fval s2 = fval s) :
  ∃ t r,double.sub s2 a = some t /\ double.sub b t = some r /\ Fin r /\ fval r = fval a + fval b - fval s:=by
 obtain ⟨s',hs',g,hg,hsg⟩:=add_fin ha hb
 rw [hs] at hs'
 cases hs'
 obtain ⟨R,hR,-⟩:=id hg
 obtain ⟨hS,hk⟩:=hg.fval_of hR hsg hf
 have hA:=fval_abs a
 have hB:=fval_abs b
 have hle:rmag (frung b) <= rmag (frung a):=rmag_le hab
 have main:∃ t,rmag t = (fval s - fval a).natAbs /\ t < infK /\ ∃ e,rmag e = (fval a + fval b - fval s).natAbs /\ e < infK:=by
  have bb:frung b < infK:=hb
  have aa:frung a < infK:=ha
  by_cases same:0 <= fval a /\ 0 <= fval b \/ fval a <= 0 /\ fval b <= 0
  ·have hv:(fval a + fval b).natAbs = rmag (frung a) + rmag (frung b):=by omega
   rw [hv] at hR hS hk
   obtain ⟨h1,⟨t,ht⟩,e,he,hb'⟩:=left_plus rfl rfl hab hR
   refine ⟨t,?_,?_,e,?_,by omega⟩
   ·rw [ht,hS];split <;> omega
   ·exact Nat.lt_of_le_of_lt (le_of_rmag (by omega)) hk
   ·rw [he,hS];split <;> omega
  ·have hv:(fval a + fval b).natAbs = rmag (frung a) - rmag (frung b):=by omega
   rw [hv] at hR hS hk
   have hz:rmag (frung a) - rmag (frung b) = 0 -> rmag (nearK (rmag (frung a) - rmag (frung b)) 1 R) = 0:=fun h0=>by rw [near_one (j:=0) hR (by rw [h0];rfl),h0]
   obtain ⟨h1,⟨t,ht⟩,e,he,hb'⟩:=left_minus rfl rfl hab hR
   refine ⟨t,?_,?_,e,?_,by omega⟩
   ·rw [ht,hS];split <;> omega
   ·exact Nat.lt_of_le_of_lt (le_of_rmag (by omega)) aa
   ·rw [he,hS];split <;> omega
 obtain ⟨t,ht,htf,e,he,hef⟩:=main
 obtain ⟨t',h1,h2,h3⟩:=sub_exact hf2 ha (by rw [hv2];exact ht) htf
 rw [hv2] at h3
 have he':rmag e = (fval b - fval t').natAbs:=by rw [h3,he];congr 1;omega
 obtain ⟨r,k1,k2,k3⟩:=sub_exact hb h2 he' hef
 exact ⟨t',r,h1,k1,k2,by omega⟩
theorem sum_rest {a b s:Nat} (ha:Fin a) (hb:Fin b) (hab:frung b <= frung a) (hs:double.add a b = some s) (hf:Fin s) :
  ∃ t r,double.sub s a = some t /\ double.sub b t = some r /\ Fin r /\ fval r = fval a + fval b - fval s:=sum_rest_v ha hb hab hs hf hf rfl
theorem sub_inf_l {s a:Nat} (hs:frung s = infK) (ha:Fin a):double.sub s a = some (double.word (fneg s) infK):=by
 obtain ⟨m,i,h1,_⟩:=read_fin ha
 unfold Format.sub;rw [read_inf hs,h1];rfl
theorem sub_inf_r {s a:Nat} (hs:frung s = infK) (ha:Fin a):double.sub a s = some (double.word (!fneg s) infK):=by
 obtain ⟨m,i,h1,_⟩:=read_fin ha
 unfold Format.sub;rw [read_inf hs,h1];rfl
theorem inf_word (g:Bool):frung (double.word g infK) = infK /\ fneg (double.word g infK) = g:=by
 have:=word_rung g (k:=infK) (by decide)
 exact ⟨this.1,this.2.1⟩
theorem sum_rest_inf {a b s:Nat} (ha:Fin a) (hb:Fin b) (hs:frung s = infK) :
  ∃ t r,double.sub s a = some t /\ double.sub b t = some r /\ frung r = infK /\ fneg r = !fneg s:=by
 have h:=inf_word (fneg s)
 refine ⟨_,_,sub_inf_l hs ha,sub_inf_r h.1 hb,?_,?_⟩
 ·exact (inf_word _).1
 ·rw [(inf_word _).2,h.2]
theorem srung_pos (x:Nat):0 < srung x ↔ 0 < fval x:=by
 have h:=fval_srung 0 x
 have z1:fval 0 = 0:=rfl
 have z2:srung 0 = 0:=rfl
 rw [z1,z2,icmp,icmp] at h
 by_cases h1:0 < fval x <;> by_cases h2:0 < srung x <;> simp [h1,h2] at h ⊢
 all_goals (split at h <;> cases h)
theorem srung_neg (x:Nat):srung x < 0 ↔ fval x < 0:=by
 have h:=fval_srung x 0
 have z1:fval 0 = 0:=rfl
 have z2:srung 0 = 0:=rfl
 rw [z1,z2,icmp,icmp] at h
 by_cases h1:fval x < 0 <;> by_cases h2:srung x < 0 <;> simp [h1,h2] at h ⊢
 all_goals (split at h <;> cases h)
theorem sum_sides {a b s r:Nat} {g:Bool} (hg:Rn g (fval a + fval b).natAbs 1 s) (hsg:fval a + fval b ≠ 0 -> g = decide (fval a + fval b < 0))
  (hr:(Fin s /\ Fin r /\ fval r = fval a + fval b - fval s) \/ (frung s = infK /\ frung r = infK /\ fneg r = !fneg s)):Sides g (fval a + fval b).natAbs 1 s r:=by
 obtain ⟨R,hR,h1,h2,_⟩:=hg.rung
 rcases hr with ⟨hf,hfr,hv⟩ | ⟨hi,hri,hrn⟩
 ·obtain ⟨hS,hk⟩:=hg.fval_of hR hsg hf
  have hfr':frung r < infK:=hfr
  have hf':frung s < infK:=hf
  rw [Nat.min_eq_left (by omega)] at h1
  have hne:frung s ≠ infK:=by omega
  have zero:fval a + fval b = 0 -> rmag (nearK (fval a + fval b).natAbs 1 R) = 0:=fun h0=>by rw [near_one (j:=0) hR (by rw [h0];rfl),h0];rfl
  unfold Fin at hfr
  refine ⟨by omega,?_,?_⟩
  ·rw [srung_pos,hv,hS]
   unfold Away Toward
   rw [h1,Nat.mul_one]
   generalize rmag (nearK (fval a + fval b).natAbs 1 R) = u at *
   generalize fval a + fval b = V at *
   rw [h1] at hne hf'
   generalize nearK V.natAbs 1 R = kk at *
   by_cases h0:V = 0
   ·have:=zero h0;subst this;subst h0
    cases g <;> simp <;> omega
   ·rw [hsg h0]
    by_cases hn:V < 0 <;> simp [hn] <;> omega
  ·rw [srung_neg,hv,hS]
   unfold Away Toward
   rw [h1,Nat.mul_one]
   generalize rmag (nearK (fval a + fval b).natAbs 1 R) = u at *
   generalize fval a + fval b = V at *
   rw [h1] at hne hf'
   generalize nearK V.natAbs 1 R = kk at *
   by_cases h0:V = 0
   ·have:=zero h0;subst this;subst h0
    cases g <;> simp <;> omega
   ·rw [hsg h0]
    by_cases hn:V < 0 <;> simp [hn] <;> omega
 ·have hp:0 < infK:=by decide
  refine ⟨by omega,?_,?_⟩
  all_goals
   unfold srung Away Toward
   rw [hri,hrn,h2,hi]
   generalize infK = I at *
   cases g <;> simp <;> omega
theorem rung_one {e E:Nat} (he:e = 1022) (hE:E = 1074):rmag 4607182418800017408 = 2 ^ E:=by
 have h:=rmag_form e 4503599627370496 (.inr (Nat.le_refl _)) (by omega)
 rw [show e * 4503599627370496 + 4503599627370496 = 4607182418800017408 by omega] at h
 have h2:4503599627370496 * 2 ^ e = 2 ^ E:=by
  rw [show (4503599627370496:Nat) = 2 ^ 52 by decide,<- Nat.pow_add,show 52 + e = E by omega]
 rw [h,h2]
theorem mul_unit {g:Bool} {x:Nat} (hx:x < 18446744073709551616) (hn:frung x <= infK):double.mul (double.word g 4607182418800017408) x = some (double.word (g ^^ fneg x) (frung x)):=by
 have hw:=word_rung g (k:=4607182418800017408) (by decide)
 rcases Nat.lt_or_eq_of_le hn with h | h
 ·obtain ⟨e,he⟩:∃ e:Nat,e = 1022:=⟨_,rfl⟩
  obtain ⟨E,hE⟩:∃ e:Nat,e = 1074:=⟨_,rfl⟩
  obtain ⟨r,hr,hR⟩:=mul_fin (a:=double.word g 4607182418800017408) (b:=x) hE (by unfold Fin;rw [hw.1];decide) h
  rw [hr,hw.1,hw.2.1,rung_one he hE,Nat.mul_comm] at *
  have:=(Rn.exact (g ^^ fneg x) (frung x) (2 ^ E) (Nat.two_pow_pos _))
  rw [Nat.min_eq_left (Nat.le_of_lt h)] at this
  rw [hR.uniq this]
 ·obtain ⟨m,p,h1,-,-,h4,h5⟩:=read_fin (x:=double.word g 4607182418800017408) (by rw [hw.1];decide)
  have hm:m ≠ 0:=by
   intro h0;subst h0
   rcases h5 with h5 | h5
   ·subst h5
    have:double.read (double.word g 4607182418800017408) ≠ Datum.number (fneg (double.word g 4607182418800017408)) 0 (-1074):=by cases g <;> decide
    exact this h1
   ·omega
  unfold Format.mul
  rw [h1,read_inf h]
  simp only [Datum.product,hm,if_false,Option.map_some,Format.write]
  rw [h,hw.2.1,Bool.xor_comm,dbl_inf]
theorem mul_one_l {x:Nat} (hx:x < 18446744073709551616) (hn:frung x <= infK):double.mul 4607182418800017408 x = some x:=by
 have:=mul_unit (g:=false) hx hn
 rw [Bool.false_xor,<- word_parts hx] at this
 exact this
theorem mul_neg_l {x:Nat} (hx:x < 18446744073709551616) (hn:frung x <= infK):double.mul 13830554455654793216 x = some (fopp x):=by
 have h:=mul_unit (g:=true) hx hn
 have hp:=fopp_parts hx
 have e:fopp x = double.word (true ^^ fneg x) (frung x):=by
  have:=word_parts hp.2.2
  rw [hp.1,hp.2.1] at this
  rw [Bool.true_xor];exact this
 rw [e];exact h
theorem above_lt {a:Nat} (h:a < 18446744073709551616) (hn:frung a <= infK) (hh:¬ (fneg a = false /\ frung a = infK)):aboveM a < 18446744073709551616 /\ frung (aboveM a) <= infK:=by
 have hi:infK = 9218868437227405312:=rfl
 by_cases h0:frung a = 0
 ·rw [above_zero h0];exact ⟨by decide,by decide⟩
 ·cases hb:fneg a
  ·have hlt:frung a < infK:=by
    rcases Nat.lt_or_eq_of_le hn with h1 | h1
    ·exact h1
    ·exact absurd ⟨hb,h1⟩ hh
   rw [above_pos h hlt hb]
   have:=word_rung false (k:=frung a + 1) (by omega)
   exact ⟨this.2.2,by rw [this.1];omega⟩
  ·rw [above_neg h (by omega) hb]
   have:=word_rung true (k:=frung a - 1) (by omega)
   exact ⟨this.2.2,by rw [this.1];omega⟩
theorem Sides.up_ok {neg:Bool} {n D near rest:Nat} (hn:Rn neg n D near) (hs:Sides neg n D near rest) (h:0 < srung rest):¬ (fneg near = false /\ frung near = infK):=by
 rintro ⟨h1,h2⟩
 obtain ⟨R,_,_,h3,_⟩:=hn.rung
 rw [h1] at h3
 subst h3
 have:=hs.pos.1 h
 unfold Away at this
 simp [h2] at this
theorem Sides.down_ok {neg:Bool} {n D near rest:Nat} (hn:Rn neg n D near) (hs:Sides neg n D near rest) (h:srung rest < 0):¬ (fneg (fopp near) = false /\ frung (fopp near) = infK):=by
 rintro ⟨h1,h2⟩
 obtain ⟨R,_,_,h3,hlt⟩:=hn.rung
 have hp:=fopp_parts hlt
 rw [hp.2.1,h3] at h1
 rw [hp.1] at h2
 have:neg = true:=by cases neg <;> simp_all
 subst this
 have:=hs.neg.1 h
 unfold Away at this
 simp [h2] at this
theorem told_nought {a:Nat} (d:Int) (rest:Nat) (g:Bool) (h:frung a = 0) (ha:a < 18446744073709551616):toldM d a rest = toldM d (double.word g 0) rest:=by
 have h1:∀ x,x < 18446744073709551616 -> frung x = 0 -> srung x = 0 /\ srung (fopp x) = 0 /\ Fin x:=by
  intro x hx h0
  have hp:=fopp_parts hx
  refine ⟨?_,?_,?_⟩
  ·unfold srung;rw [h0];split <;> rfl
  ·unfold srung;rw [hp.1,h0];split <;> rfl
  ·unfold Fin;rw [h0];decide
 have hw:=word_rung g (k:=0) (by decide)
 obtain ⟨a1,a2,a3⟩:=h1 a ha h
 obtain ⟨b1,b2,b3⟩:=h1 _ hw.2.2 hw.1
 generalize double.word g 0 = b at *
 have hm:movedM d a rest = movedM d b rest \/ (movedM d a rest = a /\ movedM d b rest = b):=by
  unfold movedM aboveM
  rw [a1,a2,b1,b2,if_pos rfl,if_pos rfl,if_pos rfl,if_pos rfl]
  by_cases h2:d = 2
  ·rw [if_pos h2,if_pos h2]
   by_cases h3:srung rest < 0
   ·rw [if_pos h3,if_pos h3];exact .inl rfl
   ·rw [if_neg h3,if_neg h3];exact .inr ⟨rfl,rfl⟩
  ·rw [if_neg h2,if_neg h2]
   by_cases h3:d = 1
   ·rw [if_pos h3,if_pos h3]
    by_cases h4:0 < srung rest
    ·rw [if_pos h4,if_pos h4];exact .inl rfl
    ·rw [if_neg h4,if_neg h4];exact .inr ⟨rfl,rfl⟩
   ·rw [if_neg h3,if_neg h3];exact .inr ⟨rfl,rfl⟩
 unfold toldM
 rcases hm with hm | ⟨e1,e2⟩
 ·rw [hm]
 ·rw [e1,e2]
  have p1:plainM a = 0:=by unfold plainM;rw [if_pos a1]
  have p2:plainM b = 0:=by unfold plainM;rw [if_pos b1]
  rw [p1,p2]
  by_cases hd:d = 0 \/ d = 1 \/ d = 2
  ·rw [if_pos ⟨hd,a3⟩,if_pos ⟨hd,b3⟩]
  ·rw [if_neg (fun c=>hd c.1),if_neg (fun c=>hd c.1)]
theorem frung_pos_rmag {k:Nat} (h:k ≠ 0):0 < rmag k:=by have:=le_rmag k;omega
theorem next_rnd {a:Nat} (d δ:Int) (hδ:δ = 1 \/ δ = -1 \/ δ = 0) (rest:Nat) (ha:a < 18446744073709551616) (hf:Fin a) (hn:frung rest <= infK) (h1:0 < srung rest ↔ δ = 1) (h2:srung rest < 0 ↔ δ = -1) :
  Rnd d (decide (fval a * 64 + δ < 0)) (fval a * 64 + δ).natAbs 64 (toldM d a rest):=by
 have hi:0 < infK:=by decide
 obtain ⟨near,hnear,hg,hR⟩:∃ near,toldM d a rest = toldM d near rest /\ frung near = frung a /\ Rn (decide (fval a * 64 + δ < 0)) (fval a * 64 + δ).natAbs 64 near:=by
  by_cases h0:frung a = 0
  ·refine ⟨_,told_nought d rest (decide (fval a * 64 + δ < 0)) h0 ha,?_,0,?_,?_⟩
   ·rw [(word_rung _ (by decide)).1,h0]
   ·have hv:fval a = 0:=by unfold fval;rw [h0,rmag_zero];split <;> rfl
    rw [hv]
    refine ⟨by rw [rmag_zero,Nat.zero_mul];omega,?_⟩
    rw [show rmag (0 + 1) = 1 by decide];omega
   ·have hv:fval a = 0:=by unfold fval;rw [h0,rmag_zero];split <;> rfl
    have hk:nearK (fval a * 64 + δ).natAbs 64 0 = 0:=by
     unfold nearK
     rw [rmag_zero,show rmag (0 + 1) = 1 by decide,hv,if_pos (.inl (by omega))]
    rw [hk,Nat.zero_min]
  ·have hp:=frung_pos_rmag h0
   refine ⟨a,rfl,rfl,?_⟩
   have hF:∃ R,Fl (fval a * 64 + δ).natAbs 64 R /\ nearK (fval a * 64 + δ).natAbs 64 R = frung a:=by
    have habs:=fval_abs a
    rcases Nat.lt_or_ge (fval a * 64 + δ).natAbs (rmag (frung a) * 64) with hlt | hge
    ·obtain ⟨k,hk⟩:∃ k,frung a = k + 1:=⟨frung a - 1,by omega⟩
     have hs:=rmag_lt_succ k
     refine ⟨k,⟨?_,?_⟩,?_⟩
     ·rw [<- hk] at hs;omega
     ·rw [<- hk];exact hlt
     ·unfold nearK
      rw [<- hk] at hs ⊢
      rw [if_neg (by omega)]
    ·have hs:=rmag_lt_succ (frung a)
     refine ⟨frung a,⟨hge,?_⟩,?_⟩
     ·omega
     ·unfold nearK
      rw [if_pos (.inl (by omega))]
   obtain ⟨R,hR1,hR2⟩:=hF
   refine ⟨R,hR1,?_⟩
   have hfl:frung a < infK:=hf
   rw [hR2,Nat.min_eq_left (by omega)]
   have hsg:decide (fval a * 64 + δ < 0) = fneg a:=by
    unfold fval
    cases hh:fneg a
    ·simp only [Bool.false_eq_true,if_false];exact decide_eq_false (by omega)
    ·simp only [if_true];exact decide_eq_true (by omega)
   rw [hsg];exact word_parts ha
 rw [hnear]
 refine told_rnd d hR ⟨hn,?_,?_⟩
 ·rw [h1]
  have hfl:frung a < infK:=hf
  have habs:=fval_abs a
  unfold Away Toward
  rw [hg]
  by_cases hv:fval a * 64 + δ < 0
  ·simp only [hv,decide_true]
   constructor
   ·intro h;right;exact ⟨by simp,.inr (by omega)⟩
   ·rintro (⟨h,-⟩ | ⟨-,h | h⟩)
    ·cases h
    ·omega
    ·omega
  ·simp only [hv,decide_false]
   constructor
   ·intro h;left;exact ⟨by simp,hfl,by omega⟩
   ·rintro (⟨-,-,h⟩ | ⟨h,-⟩)
    ·omega
    ·cases h
 ·rw [h2]
  have hfl:frung a < infK:=hf
  have habs:=fval_abs a
  unfold Away Toward
  rw [hg]
  by_cases hv:fval a * 64 + δ < 0
  ·simp only [hv,decide_true]
   constructor
   ·intro h;right;exact ⟨by simp,hfl,by omega⟩
   ·rintro (⟨h,-⟩ | ⟨-,-,h⟩)
    ·cases h
    ·omega
  ·simp only [hv,decide_false]
   constructor
   ·intro h;left;exact ⟨by simp,.inr (by omega)⟩
   ·rintro (⟨-,h | h⟩ | ⟨h,-⟩)
    ·omega
    ·omega
    ·cases h
end Go.Proofs.YtmdjoaipkbnelaaGreat
namespace Go.Proofs.YtmdjoaipkbnelaaGreat
def RndZ (d:Int) (V:Int) (D:Nat) (p:Nat × Bool):Prop:=Rnd d (decide (V < 0)) V.natAbs D p
theorem fl_zero {D R:Nat} (h:Fl 0 D R):R = 0:=by
 have h1:=h.1
 have h2:=le_rmag R
 rcases Nat.eq_zero_or_pos R with h0 | h0
 ·exact h0
 ·have:0 < rmag R * D:=Nat.mul_pos (by omega) h.pos
  omega
theorem tell_zero (d:Int) (g g':Bool) (D:Nat) (hD:0 < D):tellK d g 0 D 0 = tellK d g' 0 D 0:=by
 have h1:nearK 0 D 0 = 0:=nearK_exact (by rw [rmag_zero,Nat.zero_mul]) hD
 have h2:upK 0 D 0 = 0:=by unfold upK;rw [rmag_zero,Nat.zero_mul,if_pos rfl]
 have h3:∀ g,sgnK g 0 = 0:=fun g=>by unfold sgnK;simp
 have h4:min 0 (infK - 1) = 0:=Nat.zero_min _
 have h5:0 < infK:=by decide
 unfold tellK
 rw [h1,h2,h4,h3,h3,if_pos h5]
 by_cases e0:d = 0
 ·simp [e0]
 ·by_cases e1:d = 1
  ·subst e1;cases g <;> cases g' <;> simp
  ·by_cases e2:d = 2
   ·subst e2;cases g <;> cases g' <;> simp
   ·simp [e0,e1,e2]
theorem Rnd.toZ {d:Int} {g:Bool} {V:Int} {D:Nat} {p:Nat × Bool} (h:Rnd d g V.natAbs D p) (hg:V ≠ 0 -> g = decide (V < 0)):RndZ d V D p:=by
 by_cases h0:V = 0
 ·subst h0
  obtain ⟨R,h1,rfl⟩:=h
  have hz:Int.natAbs 0 = 0:=rfl
  rw [hz] at h1 ⊢
  have:=fl_zero h1
  subst this
  exact ⟨0,h1,tell_zero _ _ _ _ h1.pos⟩
 ·rw [hg h0] at h;exact h
theorem RndZ.uniq {d:Int} {V:Int} {D:Nat} {p q:Nat × Bool} (h:RndZ d V D p) (h':RndZ d V D q):p = q:=Rnd.uniq h h'
theorem sgn_parts (neg:Bool) {k:Nat} (h:k < infK):frung (sgnK neg k) = k /\ sgnK neg k < 18446744073709551616 /\ (k ≠ 0 -> fneg (sgnK neg k) = neg) /\ srung (sgnK neg k) = (if neg then -(k:Int) else k):=by
 have hi:infK = 9218868437227405312:=rfl
 by_cases h0:k = 0
 ·subst h0
  have:sgnK neg 0 = 0:=by unfold sgnK;simp
  rw [this]
  refine ⟨rfl,by decide,fun h=>absurd rfl h,?_⟩
  cases neg <;> rfl
 ·have hw:=word_rung neg (k:=k) (by omega)
  have e:sgnK neg k = Ieee.double.word neg k:=by
   unfold sgnK Ieee.Format.word
   rw [dbl_sign]
   cases neg <;> simp
   omega
  rw [e]
  refine ⟨hw.1,hw.2.2,fun _=>hw.2.1,?_⟩
  unfold srung;rw [hw.1,hw.2.1]
theorem tell_fin {d:Int} {neg:Bool} {n D:Nat} {p:Nat × Bool} (h:Rnd d neg n D p):Fin p.1 /\ p.1 < 18446744073709551616:=by
 obtain ⟨R,hR,rfl⟩:=h
 have h0:Fin 0 /\ 0 < 18446744073709551616:=by decide
 have hk:∀ k,k < infK -> Fin (sgnK neg k) /\ sgnK neg k < 18446744073709551616:=fun k hk=>by
  have:=sgn_parts neg hk
  exact ⟨by unfold Fin;rw [this.1];exact hk,this.2.1⟩
 have hi:0 < infK:=by decide
 unfold tellK
 split
 ·split
  ·exact hk _ (by assumption)
  ·exact h0
 ·split
  ·split
   ·exact hk _ (by assumption)
   ·exact h0
  ·split
   ·exact hk _ (by omega)
   ·exact h0
theorem rnd_exact {d:Int} {neg:Bool} {k D:Nat} {p:Nat × Bool} (hk:k < infK) (h:Rnd d neg (rmag k * D) D p):p = if d = 0 \/ d = 1 \/ d = 2 then (sgnK neg k,true) else (0,false):=by
 obtain ⟨R,hR,rfl⟩:=h
 have hD:=hR.pos
 have hRk:=hR.uniq (Fl.exact k D hD)
 rw [hRk]
 have h1:nearK (rmag k * D) D k = k:=nearK_exact rfl hD
 have h2:upK (rmag k * D) D k = k:=by unfold upK;rw [if_pos rfl]
 unfold tellK
 rw [h1,h2,if_pos hk,Nat.min_eq_left (by omega)]
 by_cases e0:d = 0
 ·simp [e0]
 ·by_cases e1:d = 1
  ·subst e1;cases neg <;> simp
  ·by_cases e2:d = 2
   ·subst e2;cases neg <;> simp
   ·simp [e0,e1,e2]
theorem rnd_none (d:Int) (neg:Bool) (n D:Nat) (hD:0 < D) (hd:¬ (d = 0 \/ d = 1 \/ d = 2)):Rnd d neg n D (0,false):=by
 obtain ⟨R,hR⟩:=Fl.some n D hD
 refine ⟨R,hR,?_⟩
 unfold tellK
 rw [if_neg (fun c=>hd (.inl c)),if_neg (by omega),if_neg (by omega)]
theorem rnd_nought (d:Int) (neg:Bool) (D:Nat) (hD:0 < D) (hd:d = 0 \/ d = 1 \/ d = 2):Rnd d neg 0 D (0,true):=by
 have hf:Fl 0 D 0:=by have:=Fl.exact 0 D hD;rw [rmag_zero,Nat.zero_mul] at this;exact this
 have:=rnd_exact (d:=d) (neg:=neg) (k:=0) (D:=D) (by decide) (p:=tellK d neg 0 D 0) ⟨0,by rw [rmag_zero,Nat.zero_mul];exact hf,by rw [rmag_zero,Nat.zero_mul]⟩
 rw [if_pos hd,show sgnK neg 0 = 0 by unfold sgnK;simp] at this
 exact ⟨0,hf,this.symm⟩
theorem Rnd.of_eq {d:Int} {neg:Bool} {n D n' D':Nat} {p:Nat × Bool} (h:Rnd d neg n D p) (hD':0 < D') (he:n * D' = n' * D):Rnd d neg n' D' p:=by
 obtain ⟨R,hR,rfl⟩:=h
 have hD:=hR.pos
 have h1:=hR.scale D' hD'
 rw [he,Nat.mul_comm D D'] at h1
 refine ⟨R,h1.unscale D,?_⟩
 rw [<- tellK_scale d neg n D R D' hD',he,Nat.mul_comm D D',tellK_scale _ _ _ _ _ _ hD]
def smag (r:Int):Int:=if r < 0 then -(rmag (-r).toNat:Int) else (rmag r.toNat:Int)
theorem smag_nat (k:Nat):smag (k:Int) = rmag k:=by unfold smag;rw [if_neg (by omega),Int.toNat_natCast]
theorem smag_neg (k:Nat):smag (-(k:Int)) = -(rmag k:Int):=by
 rcases Nat.eq_zero_or_pos k with h | h
 ·subst h;rfl
 ·unfold smag;rw [if_pos (by omega),Int.neg_neg,Int.toNat_natCast]
theorem smag_lt {r s:Int} (h:r < s):smag r < smag s:=by
 unfold smag
 by_cases h1:r < 0
 ·rw [if_pos h1]
  by_cases h2:s < 0
  ·rw [if_pos h2];have:=rmag_lt (r:=(-s).toNat) (s:=(-r).toNat) (by omega);omega
  ·rw [if_neg h2];have:=le_rmag (-r).toNat;omega
 ·rw [if_neg h1,if_neg (by omega)];have:=rmag_lt (r:=r.toNat) (s:=s.toNat) (by omega);omega
theorem smag_le {r s:Int} (h:r <= s):smag r <= smag s:=by
 rcases Int.lt_or_eq_of_le h with h1 | h1
 ·exact Int.le_of_lt (smag_lt h1)
 ·rw [h1];exact Int.le_refl _
theorem lt_of_smag {r s:Int} (h:smag r < smag s):r < s:=by
 rcases Int.lt_or_le r s with h1 | h1
 ·exact h1
 ·have:=smag_le h1;omega
theorem le_of_smag {r s:Int} (h:smag r <= smag s):r <= s:=by
 rcases Int.lt_or_le s r with h1 | h1
 ·have:=smag_lt h1;omega
 ·exact h1
theorem fval_smag (x:Nat):fval x = smag (srung x):=by
 unfold fval srung
 cases fneg x
 ·simp only [Bool.false_eq_true,if_false];rw [smag_nat]
 ·simp only [if_true];rw [smag_neg]
def Sf (V:Int) (D:Nat) (f:Int):Prop:=smag f * D <= V /\ V < smag (f + 1) * D
theorem Sf.uniq {V:Int} {D:Nat} {f g:Int} (hD:0 < D) (h:Sf V D f) (h':Sf V D g):f = g:=by
 have hD':(0:Int) < D:=by omega
 have h1:f < g + 1:=lt_of_smag (Int.lt_of_mul_lt_mul_right (Int.lt_of_le_of_lt h.1 h'.2) (by omega))
 have h2:g < f + 1:=lt_of_smag (Int.lt_of_mul_lt_mul_right (Int.lt_of_le_of_lt h'.1 h.2) (by omega))
 omega
theorem sf_pos {V:Int} {D R:Nat} (hV:0 <= V) (h:Fl V.natAbs D R):Sf V D (R:Int):=by
 have h1:=h.1
 have h2:=h.2
 refine ⟨?_,?_⟩
 ·rw [smag_nat,<- Int.natCast_mul];omega
 ·rw [show (R:Int) + 1 = ((R + 1:Nat):Int) by omega,smag_nat,<- Int.natCast_mul];omega
theorem sf_neg {V:Int} {D R:Nat} (hV:V < 0) (h:Fl V.natAbs D R):Sf V D (-(upK V.natAbs D R:Int)):=by
 have h1:=h.1
 have h2:=h.2
 unfold upK
 by_cases he:V.natAbs = rmag R * D
 ·rw [if_pos he]
  have hR:R ≠ 0:=by rintro rfl;rw [rmag_zero,Nat.zero_mul] at he;omega
  obtain ⟨k,rfl⟩:∃ k,R = k + 1:=⟨R - 1,by omega⟩
  refine ⟨?_,?_⟩
  ·rw [smag_neg,Int.neg_mul,<- Int.natCast_mul];omega
  ·rw [show -((k + 1:Nat):Int) + 1 = -(k:Int) by omega,smag_neg,Int.neg_mul,<- Int.natCast_mul]
   have:=Nat.mul_lt_mul_of_pos_right (rmag_lt_succ k) h.pos
   omega
 ·rw [if_neg he]
  refine ⟨?_,?_⟩
  ·rw [smag_neg,Int.neg_mul,<- Int.natCast_mul];omega
  ·rw [show -((R + 1:Nat):Int) + 1 = -(R:Int) by omega,smag_neg,Int.neg_mul,<- Int.natCast_mul];omega
theorem Sf.some (V:Int) {D:Nat} (hD:0 < D):∃ f,Sf V D f:=by
 obtain ⟨R,hR⟩:=Fl.some V.natAbs D hD
 by_cases h:V < 0
 ·exact ⟨_,sf_neg h hR⟩
 ·exact ⟨_,sf_pos (by omega) hR⟩
theorem srung_sgn (neg:Bool) {k:Nat} (h:k < infK):srung (sgnK neg k) = (if neg then -(k:Int) else k):=(sgn_parts neg h).2.2.2
theorem rz_down {V:Int} {D:Nat} {f:Int} {p:Nat × Bool} (h:RndZ 2 V D p) (hf:Sf V D f):(p.2 = true /\ -(infK:Int) < f /\ srung p.1 = min f ((infK:Int) - 1)) \/ (p = (0,false) /\ f <= -(infK:Int)):=by
 obtain ⟨R,hR,rfl⟩:=h
 have hi:0 < infK:=by decide
 unfold tellK
 rw [if_neg (show ¬ ((2:Int) = 0) by decide)]
 by_cases hV:V < 0
 ·have e:=hf.uniq hR.pos (sf_neg hV hR)
  rw [if_pos (.inr ⟨rfl,decide_eq_true hV⟩),decide_eq_true hV]
  by_cases hb:upK V.natAbs D R < infK
  ·left;rw [if_pos hb];refine ⟨rfl,by omega,?_⟩
   rw [srung_sgn _ hb,if_pos rfl];omega
  ·right;rw [if_neg hb];exact ⟨rfl,by omega⟩
 ·have e:=hf.uniq hR.pos (sf_pos (by omega) hR)
  rw [decide_eq_false hV,if_neg (by simp),if_pos (.inr rfl)]
  left
  refine ⟨rfl,by omega,?_⟩
  rw [srung_sgn _ (by omega)];simp only [Bool.false_eq_true,if_false];omega
def ceilK (V:Int) (D:Nat) (f:Int):Int:=if V = smag f * D then f else f + 1
theorem rz_up {V:Int} {D:Nat} {f:Int} {p:Nat × Bool} (h:RndZ 1 V D p) (hf:Sf V D f):(p.2 = true /\ ceilK V D f < (infK:Int) /\ srung p.1 = max (ceilK V D f) (1 - (infK:Int))) \/ (p = (0,false) /\ (infK:Int) <= ceilK V D f):=by
 obtain ⟨R,hR,rfl⟩:=h
 have hi:0 < infK:=by decide
 unfold tellK
 rw [if_neg (show ¬ ((1:Int) = 0) by decide)]
 by_cases hV:V < 0
 ·have e:=hf.uniq hR.pos (sf_neg hV hR)
  rw [decide_eq_true hV,if_neg (by simp),if_pos (.inl rfl)]
  left
  have hc:ceilK V D f = -(R:Int):=by
   unfold ceilK;rw [e];unfold upK
   by_cases he:V.natAbs = rmag R * D
   ·rw [if_pos he,if_pos (by rw [smag_neg,Int.neg_mul,<- Int.natCast_mul];omega)]
   ·rw [if_neg he,if_neg (by rw [smag_neg,Int.neg_mul,<- Int.natCast_mul];have:=hR.2;omega)];omega
  rw [hc]
  refine ⟨rfl,by omega,?_⟩
  rw [srung_sgn _ (by omega),if_pos rfl];omega
 ·have e:=hf.uniq hR.pos (sf_pos (by omega) hR)
  rw [if_pos (.inl ⟨rfl,decide_eq_false hV⟩),decide_eq_false hV]
  have hc:ceilK V D f = (upK V.natAbs D R:Int):=by
   unfold ceilK;rw [e,smag_nat,<- Int.natCast_mul];unfold upK
   by_cases he:V.natAbs = rmag R * D
   ·rw [if_pos he,if_pos (by omega)]
   ·rw [if_neg he,if_neg (by omega)];omega
  rw [hc]
  by_cases hb:upK V.natAbs D R < infK
  ·left;rw [if_pos hb];refine ⟨rfl,by omega,?_⟩
   rw [srung_sgn _ hb];simp only [Bool.false_eq_true,if_false];omega
  ·right;rw [if_neg hb];exact ⟨rfl,by omega⟩
def nearS (V:Int) (D:Nat) (f:Int):Int:=if 2 * V < (smag f + smag (f + 1)) * D \/ (2 * V = (smag f + smag (f + 1)) * D /\ f % 2 = 0) then f else f + 1
def sv (neg:Bool) (m:Nat):Int:=if neg then -(m:Int) else (m:Int)
def zv (s:Nat) (neg:Bool) (m:Nat) (e:Int):Int:=sv neg m * ((2 ^ (e + s).toNat:Nat):Int)
def sgi (z:Int):Int:=if z < 0 then -1 else if z = 0 then 0 else 1
theorem sv_abs (neg:Bool) (m:Nat):(sv neg m).natAbs = m:=by unfold sv;split <;> simp
theorem zv_abs (s:Nat) (neg:Bool) (m:Nat) (e:Int):(zv s neg m e).natAbs = m * 2 ^ (e + s).toNat:=by
 unfold zv;rw [Int.natAbs_mul,sv_abs,Int.natAbs_natCast]
theorem zv_more {s:Nat} {e:Int} (k:Nat) (neg:Bool) (m:Nat) (h:-(s:Int) <= e):zv (s + k) neg m e = zv s neg m e * ((2 ^ k:Nat):Int):=by
 unfold zv;rw [Int.mul_assoc,<- Int.natCast_mul,<- Nat.pow_add]
 congr 3;congr 1;omega
theorem lt_bl (m:Nat):m < 2 ^ bl m:=by
 rcases Nat.eq_zero_or_pos m with h0 | h0
 ·rw [h0];exact Nat.two_pow_pos _
 ·exact (bl_spec (by omega)).2.1
theorem mul_cast_pos {D:Nat} (hD:0 < D):(0:Int) < (D:Int):=by omega
theorem floor_le {V:Int} {D:Nat} {f:Int} (hD:0 < D) (h:Sf V D f) (r:Int):smag r * D <= V ↔ r <= f:=by
 have hD':=mul_cast_pos hD
 constructor
 ·intro h1
  have h2:smag r * D < smag (f + 1) * D:=Int.lt_of_le_of_lt h1 h.2
  have:=lt_of_smag (Int.lt_of_mul_lt_mul_right h2 (by omega));omega
 ·intro h1
  have:=Int.mul_le_mul_of_nonneg_right (smag_le h1) (show (0:Int) <= D by omega)
  have:=h.1;omega
theorem ceil_le {V:Int} {D:Nat} {f:Int} (hD:0 < D) (h:Sf V D f) (r:Int):V <= smag r * D ↔ ceilK V D f <= r:=by
 have hD':=mul_cast_pos hD
 have h1:=floor_le hD h r
 unfold ceilK
 by_cases he:V = smag f * D
 ·rw [if_pos he]
  constructor
  ·intro h2
   rw [he] at h2
   exact le_of_smag (Int.le_of_mul_le_mul_right h2 hD')
  ·intro h2
   rw [he];exact Int.mul_le_mul_of_nonneg_right (smag_le h2) (by omega)
 ·rw [if_neg he]
  constructor
  ·intro h2
   rcases Int.lt_or_le f r with h3 | h3
   ·omega
   ·have h4:=Int.mul_le_mul_of_nonneg_right (smag_le h3) (show (0:Int) <= D by omega)
    have h5:=h.1
    omega
  ·intro h2
   have h4:=Int.mul_le_mul_of_nonneg_right (smag_le h2) (show (0:Int) <= D by omega)
   have h5:=h.2
   omega
theorem ceil_or (V:Int) (D:Nat) (f:Int):(V = smag f * D /\ ceilK V D f = f) \/ (V ≠ smag f * D /\ ceilK V D f = f + 1):=by
 unfold ceilK
 by_cases he:V = smag f * D
 ·left;rw [if_pos he];exact ⟨he,rfl⟩
 ·right;rw [if_neg he];exact ⟨he,rfl⟩
def maxV:Int:=smag ((infK:Int) - 1)
theorem smag_min:smag (1 - (infK:Int)) = -maxV:=by
 unfold maxV
 have h:((infK:Int) - 1) = ((infK - 1:Nat):Int):=by decide
 rw [h,show (1 - (infK:Int)) = -((infK - 1:Nat):Int) by decide,smag_neg,smag_nat]
theorem maxV_pos:0 < maxV:=by
 have:smag 0 < maxV:=smag_lt (by decide)
 have h0:smag 0 = 0:=rfl
 omega
structure Held (X:Int) (D:Nat) (f:Int) (lo hi m:Nat × Bool):Prop where
 pos:0 < D
 fl:Sf X D f
 dn:RndZ 2 X D lo
 up:RndZ 1 X D hi
 nr:RndZ 0 X D m
theorem Held.beyond {X:Int} {D:Nat} {f:Int} {lo hi m:Nat × Bool} (h:Held X D f lo hi m) (hb:lo.2 = false \/ hi.2 = false) :
  Fin lo.1 /\ Fin hi.1 /\ lo.1 < 18446744073709551616 /\ hi.1 < 18446744073709551616 /\ (fval lo.1 + fval hi.1 = maxV \/ fval lo.1 + fval hi.1 = -maxV) /\ maxV * D < (X.natAbs:Int):=by
 have f1:=tell_fin h.dn
 have f2:=tell_fin h.up
 have hD:=mul_cast_pos h.pos
 have hm:=Int.mul_pos maxV_pos hD
 have hc:=ceil_or X D f
 refine ⟨f1.1,f2.1,f1.2,f2.2,?_⟩
 have g1:=floor_le h.pos h.fl (1 - (infK:Int))
 have g2:=ceil_le h.pos h.fl ((infK:Int) - 1)
 rw [smag_min,Int.neg_mul] at g1
 have g2':X <= maxV * D ↔ ceilK X D f <= (infK:Int) - 1:=g2
 have z0:fval 0 = 0:=rfl
 rcases rz_down h.dn h.fl with ⟨a1,a2,a3⟩ | ⟨a1,a2⟩
 ·rcases rz_up h.up h.fl with ⟨b1,b2,b3⟩ | ⟨b1,b2⟩
  ·rw [a1,b1] at hb;simp at hb
  ·refine ⟨.inl ?_,by omega⟩
   rw [b1,z0,fval_smag,a3]
   rw [show min f ((infK:Int) - 1) = (infK:Int) - 1 by omega];unfold maxV;omega
 ·rcases rz_up h.up h.fl with ⟨b1,b2,b3⟩ | ⟨b1,b2⟩
  ·refine ⟨.inr ?_,by omega⟩
   rw [a1,z0,fval_smag hi.1,b3]
   rw [show max (ceilK X D f) (1 - (infK:Int)) = 1 - (infK:Int) by omega,smag_min];omega
  ·have:0 < infK:=by decide
   omega
structure Tight (X:Int) (D:Nat) (f c:Int) (lo hi m:Nat × Bool):Prop where
 flo:Fin lo.1 /\ lo.1 < 18446744073709551616
 fhi:Fin hi.1 /\ hi.1 < 18446744073709551616
 fm:Fin m.1 /\ m.1 < 18446744073709551616
 near:m.2 = true
 loS:srung lo.1 = f
 hiS:srung hi.1 = c
 mS:(srung m.1 = f \/ srung m.1 = c)
 below:smag f * D <= X
 above:X <= smag c * D
 ends:(c = f /\ X = smag f * D) \/ (c = f + 1 /\ smag f * D < X /\ X < smag c * D)
 small:-(infK:Int) < f /\ f < infK /\ -(infK:Int) < c /\ c < infK
 best:c = f \/ (2 * X < (smag f + smag c) * D -> srung m.1 = f) /\ ((smag f + smag c) * D < 2 * X -> srung m.1 = c) /\ (2 * X = (smag f + smag c) * D -> srung m.1 % 2 = 0)
open Ieee
def Sc (c:Nat) (X:Int) (x:Nat):Prop:=Fin x /\ x < 18446744073709551616 /\ fval x = X * 2 ^ c
theorem rmag_inf {e:Nat} (he:e = 2046):rmag infK = 4503599627370496 * 2 ^ e:=by
 have h:=rmag_form e 4503599627370496 (.inr (Nat.le_refl _)) (by omega)
 rw [show e * 4503599627370496 + 4503599627370496 = infK by unfold infK;omega] at h
 exact h
theorem lt_inf {k t:Nat} (h:rmag k <= 9007199254740992 * 2 ^ t) (ht:t < 2045):k < infK:=by
 obtain ⟨e,he⟩:∃ e:Nat,e = 2046:=⟨_,rfl⟩
 refine lt_of_rmag ?_
 rw [rmag_inf he]
 have h1:2 ^ (t + 2) <= 2 ^ e:=Nat.pow_le_pow_right (by omega) (by omega)
 rw [Nat.pow_succ,Nat.pow_succ] at h1
 have:=Nat.two_pow_pos t
 omega
theorem abs_scaled (V:Int) (c:Nat):(V * 2 ^ c).natAbs = V.natAbs * 2 ^ c:=natAbs_mul_pow V c
theorem scaled_neg (V:Int) (c:Nat):V * 2 ^ c < 0 ↔ V < 0:=by
 have hp:(0:Int) < 2 ^ c:=Int.pow_pos (by decide)
 constructor
 ·intro h;rcases Int.lt_or_le V 0 with h1 | h1
  ·exact h1
  ·have:=Int.mul_nonneg h1 (Int.le_of_lt hp);omega
 ·intro h;exact Int.mul_neg_of_neg_of_pos h hp
theorem Rn.sc {g:Bool} {V:Int} {c t r:Nat} (h:Rn g (V * 2 ^ c).natAbs 1 r) (hs:V ≠ 0 -> g = decide (V < 0)) (hV:V.natAbs <= 9007199254740992 * 2 ^ t) (hb:c + t < 2045) :
  ∃ W:Int,Sc c W r /\ 2 * (W - V).natAbs <= 2 ^ t /\ (∀ t',4503599627370496 * 2 ^ t' <= V.natAbs -> (2 ^ t':Nat) ∣ W.natAbs) /\ (∀ t',(2 ^ t':Nat) ∣ V.natAbs -> V.natAbs <= 9007199254740992 * 2 ^ t' -> W = V) /\ (0 <= V -> 0 <= W) /\ (V <= 0 -> W <= 0):=by
 rw [abs_scaled] at h
 obtain ⟨R,hR,h1,h2,hlt⟩:=h.rung
 have p2:(2:Nat) ^ c * 2 ^ t = 2 ^ (c + t):=(Nat.pow_add ..).symm
 have pc:=Nat.two_pow_pos c
 obtain ⟨k0,hk0⟩:=rung_some 9007199254740992 (c + t) (Nat.le_refl _)
 have hup:nearK (V.natAbs * 2 ^ c) 1 R <= k0:=by
  refine nearK_le hR ?_
  rw [hk0,Nat.mul_one,<- p2,Nat.mul_comm (2 ^ c),<- Nat.mul_assoc]
  exact Nat.mul_le_mul_right _ hV
 have hk0i:=lt_inf (Nat.le_of_eq hk0) hb
 have hfin:nearK (V.natAbs * 2 ^ c) 1 R < infK:=by omega
 rw [Nat.min_eq_left (by omega)] at h1
 have hbest:∀ m j,m <= 9007199254740992 -> ((rmag (nearK (V.natAbs * 2 ^ c) 1 R):Nat) - ((V.natAbs * 2 ^ c:Nat):Int)).natAbs <= ((m * 2 ^ j * 2 ^ c:Nat) - ((V.natAbs * 2 ^ c:Nat):Int)).natAbs:=by
  intro m j hm
  obtain ⟨k,hk⟩:=rung_some m (j + c) hm
  have:=nearK_best hR (j:=k)
  rw [Nat.mul_one,Nat.mul_one,hk,Nat.pow_add,<- Nat.mul_assoc] at this
  exact this
 have hexact:∀ t',(2 ^ t':Nat) ∣ V.natAbs -> V.natAbs <= 9007199254740992 * 2 ^ t' -> rmag (nearK (V.natAbs * 2 ^ c) 1 R) = V.natAbs * 2 ^ c:=by
  intro t' hd hle
  have:∃ k,rmag k = V.natAbs * 2 ^ c:=by
   refine rung_dvd (i:=t' + c) ?_ ?_
   ·rw [Nat.pow_add];exact Nat.mul_dvd_mul hd (Nat.dvd_refl _)
   ·rw [Nat.pow_add,<- Nat.mul_assoc];exact Nat.mul_le_mul_right _ hle
  obtain ⟨k,hk⟩:=this
  exact near_one hR hk
 have hdv:∀ t',4503599627370496 * 2 ^ t' <= V.natAbs -> 2 ^ (t' + c) ∣ rmag (nearK (V.natAbs * 2 ^ c) 1 R):=by
  intro t' ht'
  refine dvd_of_ge ?_
  obtain ⟨k,hk⟩:=rung_some 4503599627370496 (t' + c) (by omega)
  have:k <= nearK (V.natAbs * 2 ^ c) 1 R:=by
   refine le_nearK hR ?_
   rw [hk,Nat.mul_one,Nat.pow_add,<- Nat.mul_assoc]
   exact Nat.mul_le_mul_right _ ht'
  have:=rmag_le this
  omega
 obtain ⟨u,hu⟩:∃ u,rmag (nearK (V.natAbs * 2 ^ c) 1 R) = u * 2 ^ c:=by
  by_cases hsm:V.natAbs <= 9007199254740992 * 2 ^ 0
  ·exact ⟨V.natAbs,hexact 0 (by simp) hsm⟩
  ·have:=hdv 0 (by omega)
   rw [Nat.zero_add] at this
   obtain ⟨q,hq⟩:=this
   exact ⟨q,by rw [hq,Nat.mul_comm]⟩
 rw [hu] at hexact hdv hbest
 have hexact':∀ t',(2 ^ t':Nat) ∣ V.natAbs -> V.natAbs <= 9007199254740992 * 2 ^ t' -> u = V.natAbs:=fun t' a b=>Nat.eq_of_mul_eq_mul_right pc (hexact t' a b)
 have hdv':∀ t',4503599627370496 * 2 ^ t' <= V.natAbs -> 2 ^ t' ∣ u:=by
  intro t' ht'
  have:=hdv t' ht'
  rw [Nat.pow_add] at this
  exact Nat.dvd_of_mul_dvd_mul_right pc this
 have hbest':∀ m j,m <= 9007199254740992 -> ((u:Int) - V.natAbs).natAbs <= ((m * 2 ^ j:Nat) - (V.natAbs:Int)).natAbs:=by
  intro m j hm
  have:=hbest m j hm
  rw [show ((u * 2 ^ c:Nat):Int) - ((V.natAbs * 2 ^ c:Nat):Int) = ((u:Int) - V.natAbs) * 2 ^ c by rw [Int.natCast_mul,Int.natCast_mul,Int.natCast_pow,<- Int.sub_mul];rfl,
   show ((m * 2 ^ j * 2 ^ c:Nat):Int) - ((V.natAbs * 2 ^ c:Nat):Int) = (((m * 2 ^ j:Nat):Int) - V.natAbs) * 2 ^ c by rw [Int.natCast_mul (m * 2 ^ j),Int.natCast_mul V.natAbs,Int.natCast_pow,<- Int.sub_mul];rfl,natAbs_mul_pow,natAbs_mul_pow] at this
  exact Nat.le_of_mul_le_mul_right this pc
 have herr:2 * ((u:Int) - V.natAbs).natAbs <= 2 ^ t:=by
  have hdm:=Nat.div_add_mod V.natAbs (2 ^ t)
  have hml:=Nat.mod_lt V.natAbs (Nat.two_pow_pos t)
  have hq:V.natAbs / 2 ^ t <= 9007199254740992:=by
   exact Nat.div_le_of_le_mul (by rw [Nat.mul_comm];exact hV)
  have b1:=hbest' (V.natAbs / 2 ^ t) t hq
  rw [Nat.mul_comm] at b1
  by_cases hq1:V.natAbs / 2 ^ t = 9007199254740992
  ·rw [hq1] at hdm b1
   rw [Nat.mul_comm] at hV
   omega
  ·have b2:=hbest' (V.natAbs / 2 ^ t + 1) t (by omega)
   rw [Nat.add_mul,Nat.one_mul,Nat.mul_comm] at b2
   omega
 have hz:V = 0 -> u = 0:=by
  intro h0
  have:=hexact' 0 (Nat.one_dvd _) (by rw [h0];exact Nat.zero_le _)
  rw [this,h0];rfl
 refine ⟨if V < 0 then -(u:Int) else u,⟨?_,hlt,?_⟩,?_,?_,?_,?_,?_⟩
 ·unfold Fin;rw [h1];exact hfin
 ·unfold fval
  rw [h1,h2,hu,Int.natCast_mul,Int.natCast_pow]
  by_cases h0:V = 0
  ·have:=hz h0
   rw [this,h0];cases g <;> simp
  ·rw [hs h0]
   by_cases hn:V < 0
   ·simp only [hn,decide_true,if_true,Int.neg_mul];rfl
   ·simp only [hn,decide_false,Bool.false_eq_true,if_false];rfl
 ·split <;> omega
 ·intro t' ht'
  have:=hdv' t' ht'
  split
  ·rw [Int.natAbs_neg];exact this
  ·exact this
 ·intro t' a b
  have:=hexact' t' a b
  split <;> omega
 ·intro h;split <;> omega
 ·intro h;split <;> omega
theorem fval_signs (x:Nat):(fneg x = true -> fval x <= 0) /\ (fneg x = false -> 0 <= fval x):=by
 unfold fval;constructor <;> intro h <;> rw [h] <;> simp
theorem sc_mul {c e E t b':Nat} {X Y:Int} {x y:Nat} (hE:E = 1074) (hce:c + e = b' + E) (hx:Sc c X x) (hy:Sc e Y y) (hV:(X * Y).natAbs <= 9007199254740992 * 2 ^ t) (hb:b' + t < 2045) :
  ∃ r W,double.mul x y = some r /\ Sc b' W r /\ 2 * (W - (X * Y)).natAbs <= 2 ^ t /\ (∀ t',4503599627370496 * 2 ^ t' <= (X * Y).natAbs -> (2 ^ t':Nat) ∣ W.natAbs) /\ (∀ t',(2 ^ t':Nat) ∣ (X * Y).natAbs -> (X * Y).natAbs <= 9007199254740992 * 2 ^ t' -> W = X * Y) ∧
   Rn (fneg x ^^ fneg y) ((X * Y) * 2 ^ b').natAbs 1 r:=by
 obtain ⟨r,hr,hg⟩:=mul_fin hE hx.1 hy.1
 have ax:=fval_abs x
 have ay:=fval_abs y
 rw [hx.2.2,abs_scaled] at ax
 rw [hy.2.2,abs_scaled] at ay
 have hmul:rmag (frung x) * rmag (frung y) = ((X * Y) * 2 ^ b').natAbs * 2 ^ E:=by
  rw [<- ax,<- ay,abs_scaled,Int.natAbs_mul,Nat.mul_assoc (X.natAbs * Y.natAbs),<- Nat.pow_add,<- hce,Nat.pow_add]
  rw [Nat.mul_assoc,Nat.mul_left_comm (2 ^ c),<- Nat.mul_assoc]
 rw [hmul] at hg
 have hg':Rn (fneg x ^^ fneg y) ((X * Y) * 2 ^ b').natAbs 1 r:=by
  exact Rn.of_eq hg (Nat.two_pow_pos _) (by omega) (Nat.mul_one _)
 have hs':X * Y ≠ 0 -> (fneg x ^^ fneg y) = decide (X * Y < 0):=by
  intro h
  have sx:=fval_signs x
  have sy:=fval_signs y
  rw [hx.2.2] at sx
  rw [hy.2.2] at sy
  have hX:X ≠ 0:=fun h0=>h (by rw [h0,Int.zero_mul])
  have hY:Y ≠ 0:=fun h0=>h (by rw [h0,Int.mul_zero])
  have nx:fneg x = true -> X < 0:=fun h1=>by
   have:=sx.1 h1
   rcases Int.lt_or_le X 0 with h2 | h2
   ·exact h2
   ·have h3:0 < X * 2 ^ c:=Int.mul_pos (by omega) (Int.pow_pos (by decide));omega
  have px:fneg x = false -> 0 < X:=fun h1=>by
   have:=sx.2 h1
   rcases Int.lt_or_le 0 X with h2 | h2
   ·exact h2
   ·have:=(scaled_neg X c).2 (by omega);omega
  have ny:fneg y = true -> Y < 0:=fun h1=>by
   have:=sy.1 h1
   rcases Int.lt_or_le Y 0 with h2 | h2
   ·exact h2
   ·have h3:0 < Y * 2 ^ e:=Int.mul_pos (by omega) (Int.pow_pos (by decide));omega
  have py:fneg y = false -> 0 < Y:=fun h1=>by
   have:=sy.2 h1
   rcases Int.lt_or_le 0 Y with h2 | h2
   ·exact h2
   ·have:=(scaled_neg Y e).2 (by omega);omega
  cases h1:fneg x <;> cases h2:fneg y
  ·have:=Int.mul_pos (px h1) (py h2);simp;omega
  ·have:=Int.mul_neg_of_pos_of_neg (px h1) (ny h2);simp;omega
  ·have:=Int.mul_neg_of_neg_of_pos (nx h1) (py h2);simp;omega
  ·have:=Int.mul_pos_of_neg_of_neg (nx h1) (ny h2);simp;omega
 obtain ⟨W,h1,h2,h3,h4,_⟩:=hg'.sc hs' hV hb
 exact ⟨r,W,hr,h1,h2,h3,h4,hg'⟩
theorem sc_mul_exact {c e E t b':Nat} {X Y:Int} {x y:Nat} (hE:E = 1074) (hce:c + e = b' + E) (hx:Sc c X x) (hy:Sc e Y y) (hd:(2 ^ t:Nat) ∣ (X * Y).natAbs) (hV:(X * Y).natAbs <= 9007199254740992 * 2 ^ t) (hb:b' + t < 2045) :
  ∃ r,double.mul x y = some r /\ Sc b' (X * Y) r:=by
 obtain ⟨r,W,h1,h2,_,_,h5,_⟩:=sc_mul hE hce hx hy hV hb
 rw [h5 t hd hV] at h2
 exact ⟨r,h1,h2⟩
theorem and_field {y:Nat} (hy:y < 18446744073709551616):y &&& 9227875636482146303 = y / 9223372036854775808 * 9223372036854775808 + y % 4503599627370496:=by
 have h1:(y &&& 9227875636482146303) % 2 ^ 52 = y % 2 ^ 52:=by
  rw [Nat.and_mod_two_pow,show 9227875636482146303 % 2 ^ 52 = 2 ^ 52 - 1 by decide,Nat.and_two_pow_sub_one_eq_mod,Nat.mod_mod]
 have h2:(y &&& 9227875636482146303) / 2 ^ 52 = y / 2 ^ 52 &&& 2048:=by
  rw [Nat.and_div_two_pow]
 have key:∀ a,a < 4096 -> a &&& 2048 = a / 2048 * 2048:=by
  intro a ha
  have h1:(a &&& 2048) % 2 ^ 11 = 0:=by rw [Nat.and_mod_two_pow,show 2048 % 2 ^ 11 = 0 by decide,Nat.and_zero]
  have h2:(a &&& 2048) / 2 ^ 11 = a / 2 ^ 11 &&& 1:=by rw [Nat.and_div_two_pow]
  have hp:(2:Nat) ^ 11 = 2048:=by decide
  rw [hp] at h1 h2
  have h3:a / 2048 = 0 \/ a / 2048 = 1:=by omega
  rcases h3 with h3 | h3
  ·rw [h3] at h2 ⊢;have:(0 &&& 1:Nat) = 0:=by decide
   omega
  ·rw [h3] at h2 ⊢;have:(1 &&& 1:Nat) = 1:=by decide
   omega
 have hp:(2:Nat) ^ 52 = 4503599627370496:=by decide
 rw [hp] at h1 h2
 rw [key _ (by omega)] at h2
 omega
theorem or_field {s k f:Nat} (hs:s < 2) (hk:k < 2048) (hf:f < 4503599627370496):(s * 9223372036854775808 + f) ||| (k * 4503599627370496) = s * 9223372036854775808 + k * 4503599627370496 + f:=by
 have hp:(2:Nat) ^ 52 = 4503599627370496:=by decide
 have h1:((s * 9223372036854775808 + f) ||| (k * 4503599627370496)) % 2 ^ 52 = f:=by
  rw [Nat.or_mod_two_pow,hp,show (s * 9223372036854775808 + f) % 4503599627370496 = f by omega,show k * 4503599627370496 % 4503599627370496 = 0 by omega,Nat.or_zero]
 have h2:((s * 9223372036854775808 + f) ||| (k * 4503599627370496)) / 2 ^ 52 = s * 2048 + k:=by
  rw [Nat.or_div_two_pow,hp,show (s * 9223372036854775808 + f) / 4503599627370496 = s * 2048 by omega,show k * 4503599627370496 / 4503599627370496 = k by omega]
  have:=Nat.two_pow_add_eq_or_of_lt (i:=11) (b:=k) (by omega) s
  rw [show (2:Nat) ^ 11 = 2048 by decide] at this
  rw [Nat.mul_comm]
  omega
 rw [hp] at h1 h2
 omega
theorem and_2047 {y:Nat}:y &&& 2047 = y % 2048:=by
 have:=Nat.and_two_pow_sub_one_eq_mod y 11
 rw [show (2:Nat) ^ 11 - 1 = 2047 by decide,show (2:Nat) ^ 11 = 2048 by decide] at this
 exact this
theorem and_sign {y:Nat} (hy:y < 18446744073709551616):y &&& 9223372036854775808 = y / 9223372036854775808 * 9223372036854775808:=by
 have h1:(y &&& 9223372036854775808) % 2 ^ 63 = 0:=by
  rw [Nat.and_mod_two_pow,show 9223372036854775808 % 2 ^ 63 = 0 by decide,Nat.and_zero]
 have h2:(y &&& 9223372036854775808) / 2 ^ 63 = y / 2 ^ 63 &&& 1:=by
  rw [Nat.and_div_two_pow]
 have hp:(2:Nat) ^ 63 = 9223372036854775808:=by decide
 rw [hp] at h1 h2
 have h3:y / 9223372036854775808 = 0 \/ y / 9223372036854775808 = 1:=by omega
 rcases h3 with h3 | h3
 ·rw [h3] at h2 ⊢;have:(0 &&& 1:Nat) = 0:=by decide
  omega
 ·rw [h3] at h2 ⊢;have:(1 &&& 1:Nat) = 1:=by decide
  omega
structure Norm (x y ee Eb f:Nat):Prop where
 lt:y < 18446744073709551616
 sgn:fneg y = fneg x
 word:frung y = Eb * 4503599627370496 + f
 eb0:1 <= Eb
 eb1:Eb <= 2046
 f1:f < 4503599627370496
 val:rmag (frung x) * 2 ^ ee = (4503599627370496 + f) * 2 ^ (Eb - 1)
 e52:ee = 0 \/ ee = 52
theorem norm_same {x:Nat} (hx:x < 18446744073709551616) (hf:Fin x) (hn:4503599627370496 <= frung x):Norm x x 0 (frung x / 4503599627370496) (frung x % 4503599627370496):=by
 unfold Fin infK at hf
 refine ⟨hx,rfl,by omega,by omega,by omega,by omega,?_,.inl rfl⟩
 rw [Nat.pow_zero,Nat.mul_one]
 have h:=rmag_form (frung x / 4503599627370496 - 1) (4503599627370496 + frung x % 4503599627370496) (.inr (by omega)) (by omega)
 rw [show (frung x / 4503599627370496 - 1) * 4503599627370496 + (4503599627370496 + frung x % 4503599627370496) = frung x by omega] at h
 exact h
theorem rung_p52 {e E:Nat} (he:e = 1074) (hE:E = 1074):Sc E 4503599627370496 4841369599423283200:=by
 have hr:frung 4841369599423283200 = 4841369599423283200:=by decide
 refine ⟨by unfold Fin;rw [hr];decide,by decide,?_⟩
 have hn:fneg 4841369599423283200 = false:=by decide
 have h:=rmag_form e 4503599627370496 (.inr (Nat.le_refl _)) (by omega)
 rw [show e * 4503599627370496 + 4503599627370496 = 4841369599423283200 by omega] at h
 have hv:=fval_signs 4841369599423283200
 unfold fval
 obtain rfl:e = E:=by omega
 rw [hn,hr,h,Int.natCast_mul,Int.natCast_pow]
 rfl
theorem norm_sub {x:Nat} (hx:x < 18446744073709551616) (hf:frung x < 4503599627370496) (h0:frung x ≠ 0):∃ y Eb f,double.mul x 4841369599423283200 = some y /\ Norm x y 52 Eb f:=by
 obtain ⟨E,hE⟩:∃ e:Nat,e = 1074:=⟨_,rfl⟩
 have hfx:Fin x:=by unfold Fin infK;omega
 have hm:rmag (frung x) = frung x:=by unfold rmag;rw [if_pos hf]
 have hsx:Sc 0 (fval x) x:=⟨hfx,hx,by rw [Int.pow_zero,Int.mul_one]⟩
 have hab:(fval x).natAbs = frung x:=by rw [fval_abs,hm]
 obtain ⟨y,hy,hyS⟩:=sc_mul_exact (t:=52) (b':=0) hE (by omega) hsx (rung_p52 hE hE) (by rw [Int.natAbs_mul];exact ⟨(fval x).natAbs,by rw [Nat.mul_comm];rfl⟩) (by rw [Int.natAbs_mul,hab];show frung x * 4503599627370496 <= 9007199254740992 * 4503599627370496;omega) (by omega)
 have hyv:fval y = fval x * 4503599627370496:=by have:=hyS.2.2;rw [Int.pow_zero,Int.mul_one] at this;exact this
 have hyr:rmag (frung y) = frung x * 4503599627370496:=by rw [<- fval_abs,hyv,Int.natAbs_mul,hab];rfl
 have hge:4503599627370496 <= frung y:=by
  refine le_of_rmag ?_
  rw [hyr,show rmag 4503599627370496 = 4503599627370496 by decide]
  omega
 have hsg:fneg y = fneg x:=by
  have sx:=fval_signs x
  have sy:=fval_signs y
  have hp:0 < frung x:=by omega
  cases h1:fneg x <;> cases h2:fneg y
  ·rfl
  ·have:=sx.2 h1;have:=sy.1 h2;omega
  ·have:=sx.1 h1;have:=sy.2 h2;omega
  ·rfl
 have hN:=norm_same hyS.2.1 hyS.1 hge
 refine ⟨y,_,_,hy,⟨hyS.2.1,hsg,hN.word,hN.eb0,hN.eb1,hN.f1,?_,.inr rfl⟩⟩
 have:=hN.val
 rw [Nat.pow_zero,Nat.mul_one,hyr] at this
 rw [hm,<- this]
theorem norm_frac {x y ee Eb f:Nat} (h:Norm x y ee Eb f) (n X:Int) (hX:X = n - ee + Eb - 1) :
  ((4503599627370496 + f) * 2 ^ X.toNat) * 2 ^ (-n).toNat = (rmag (frung x) * 2 ^ n.toNat) * 2 ^ (-X).toNat:=by
 have hv:=h.val
 have he:=h.eb0
 refine Nat.eq_of_mul_eq_mul_right (Nat.two_pow_pos ee) ?_
 rw [show rmag (frung x) * 2 ^ n.toNat * 2 ^ (-X).toNat * 2 ^ ee = (rmag (frung x) * 2 ^ ee) * (2 ^ n.toNat * 2 ^ (-X).toNat) by
  rw [Nat.mul_assoc,Nat.mul_assoc,Nat.mul_assoc];congr 1;rw [<- Nat.mul_assoc,Nat.mul_comm]]
 rw [hv,Nat.mul_assoc,Nat.mul_assoc,Nat.mul_assoc,<- Nat.pow_add,<- Nat.pow_add,<- Nat.pow_add,<- Nat.pow_add]
 congr 2
 omega
def Pow (x:Nat) (n:Int) (r:Nat):Prop:=Rn (fneg x) (rmag (frung x) * 2 ^ n.toNat) (2 ^ (-n).toNat) r
theorem Pow.of {x y ee Eb f:Nat} (h:Norm x y ee Eb f) {n X:Int} (hX:X = n - ee + Eb - 1) {r:Nat} (hr:Rn (fneg x) ((4503599627370496 + f) * 2 ^ X.toNat) (2 ^ (-X).toNat) r):Pow x n r:=
 hr.of_eq (Nat.two_pow_pos _) (Nat.two_pow_pos _) (norm_frac h n X hX)
theorem pow_zero {x:Nat} (hx:x < 18446744073709551616) (h:frung x = 0) (n:Int):Pow x n x:=by
 unfold Pow
 rw [h,rmag_zero,Nat.zero_mul]
 have:=Rn.exact (fneg x) 0 (2 ^ (-n).toNat) (Nat.two_pow_pos _)
 rw [rmag_zero,Nat.zero_mul,Nat.zero_min] at this
 have e:=word_parts hx
 rw [h] at e
 rw [<- e] at this
 exact this
theorem pow_under {x y ee Eb f:Nat} (h:Norm x y ee Eb f) {n X:Int} (hX:X = n - ee + Eb - 1) (hb:X < -53):Pow x n (double.word (fneg x) 0):=by
 refine Pow.of h hX ⟨0,⟨?_,?_⟩,?_⟩
 ·rw [rmag_zero,Nat.zero_mul];exact Nat.zero_le _
 ·have h1:=h.f1
  rw [show X.toNat = 0 by omega,Nat.pow_zero,Nat.mul_one,show rmag (0 + 1) = 1 by decide,Nat.one_mul]
  have h2:2 ^ 54 <= 2 ^ (-X).toNat:=Nat.pow_le_pow_right (by omega) (by omega)
  have h3:(2:Nat) ^ 54 = 18014398509481984:=by decide
  omega
 ·unfold nearK
  have h1:=h.f1
  rw [show X.toNat = 0 by omega,Nat.pow_zero,Nat.mul_one,show rmag (0 + 1) = 1 by decide,rmag_zero,Nat.zero_add,Nat.one_mul]
  have h2:2 ^ 54 <= 2 ^ (-X).toNat:=Nat.pow_le_pow_right (by omega) (by omega)
  have h3:(2:Nat) ^ 54 = 18014398509481984:=by decide
  rw [if_pos (.inl (by omega)),Nat.zero_min]
theorem pow_over {x y ee Eb f:Nat} (h:Norm x y ee Eb f) {n X:Int} (hX:X = n - ee + Eb - 1) (hb:2045 < X):Pow x n (double.word (fneg x) infK):=by
 obtain ⟨e,he⟩:∃ e:Nat,e = 2046:=⟨_,rfl⟩
 obtain ⟨R,hR⟩:=Fl.some ((4503599627370496 + f) * 2 ^ X.toNat) (2 ^ (-X).toNat) (Nat.two_pow_pos _)
 refine Pow.of h hX ⟨R,hR,?_⟩
 have:infK <= nearK ((4503599627370496 + f) * 2 ^ X.toNat) (2 ^ (-X).toNat) R:=by
  refine le_nearK hR ?_
  rw [rmag_inf he,show (-X).toNat = 0 by omega,Nat.pow_zero,Nat.mul_one]
  exact Nat.mul_le_mul (by omega) (Nat.pow_le_pow_right (by omega) (by omega))
 rw [Nat.min_eq_right this]
theorem pow_exact {x y ee Eb f:Nat} (h:Norm x y ee Eb f) {n X:Int} (hX:X = n - ee + Eb - 1) (h0:0 <= X) (h1:X <= 2045):Pow x n (double.word (fneg x) ((X.toNat + 1) * 4503599627370496 + f)):=by
 have hf:=h.f1
 have hr:=rmag_form X.toNat (4503599627370496 + f) (.inr (by omega)) (by omega)
 have e:X.toNat * 4503599627370496 + (4503599627370496 + f) = (X.toNat + 1) * 4503599627370496 + f:=by omega
 rw [e] at hr
 have:=Rn.exact (fneg x) ((X.toNat + 1) * 4503599627370496 + f) (2 ^ (-X).toNat) (Nat.two_pow_pos _)
 rw [hr,show (-X).toNat = 0 by omega,Nat.pow_zero,Nat.mul_one,Nat.min_eq_left (by unfold infK;omega)] at this
 refine Pow.of h hX ?_
 rw [show (-X).toNat = 0 by omega,Nat.pow_zero]
 exact this
theorem rung_m53 {e E:Nat} (he:e = 969) (hE:E = 1021):rmag 4368491638549381120 = 2 ^ E:=by
 have h:=rmag_form e 4503599627370496 (.inr (Nat.le_refl _)) (by omega)
 rw [show e * 4503599627370496 + 4503599627370496 = 4368491638549381120 by omega] at h
 rw [h,show (4503599627370496:Nat) = 2 ^ 52 by decide,<- Nat.pow_add,show 52 + e = E by omega]
theorem pow_small {x y ee Eb f:Nat} (h:Norm x y ee Eb f) {n X:Int} (hX:X = n - ee + Eb - 1) (h0:-53 <= X) (h1:X < 0) :
  ∃ r,double.mul 4368491638549381120 (double.word (fneg x) ((X + 54).toNat * 4503599627370496 + f)) = some r /\ Pow x n r /\ r < 18446744073709551616:=by
 have hf:=h.f1
 have hw:=word_rung (fneg x) (k:=(X + 54).toNat * 4503599627370496 + f) (by omega)
 obtain ⟨E,hE⟩:∃ e:Nat,e = 1074:=⟨_,rfl⟩
 obtain ⟨e,he⟩:∃ e:Nat,e = 969:=⟨_,rfl⟩
 obtain ⟨E',hE'⟩:∃ e:Nat,e = 1021:=⟨_,rfl⟩
 obtain ⟨r,hr,hR⟩:=mul_fin (a:=4368491638549381120) (b:=double.word (fneg x) ((X + 54).toNat * 4503599627370496 + f)) hE (by unfold Fin;decide) (by unfold Fin infK;rw [hw.1];omega)
 refine ⟨r,hr,?_,by obtain ⟨_,_,_,_,hl⟩:=hR.rung;exact hl⟩
 rw [hw.1,hw.2.1,show fneg 4368491638549381120 = false by decide,Bool.false_xor,show frung 4368491638549381120 = 4368491638549381120 by decide,rung_m53 he hE'] at hR
 have hz:=rmag_form (X + 53).toNat (4503599627370496 + f) (.inr (by omega)) (by omega)
 rw [show (X + 53).toNat * 4503599627370496 + (4503599627370496 + f) = (X + 54).toNat * 4503599627370496 + f by omega] at hz
 rw [hz] at hR
 refine Pow.of h hX (hR.of_eq (Nat.two_pow_pos _) (Nat.two_pow_pos _) ?_)
 rw [show X.toNat = 0 by omega,Nat.pow_zero,Nat.mul_one,Nat.mul_left_comm,Nat.mul_assoc,<- Nat.pow_add,<- Nat.pow_add]
 congr 2
 omega
end Go.Proofs.YtmdjoaipkbnelaaGreat
namespace Go.Proofs.YtmdjoaipkbnelaaGreat
theorem halves_quot {n D e h:Nat} {rest:Bool} (hD:0 < D) (hh:h = 2 * n / (D * 2 ^ e)) (hr:rest = true ↔ 2 * n % (D * 2 ^ e) ≠ 0) (hf:e = 0 \/ 4503599627370496 <= h / 2) (hl:h < 18014398509481984) :
  Fl n D (e * 4503599627370496 + h / 2) /\ nearK n D (e * 4503599627370496 + h / 2) = e * 4503599627370496 + (h / 2 + (decide (h % 2 = 1) && (rest || decide (h / 2 % 2 = 1))).toNat) /\ upK n D (e * 4503599627370496 + h / 2) = e * 4503599627370496 + (h / 2 + (decide (h % 2 = 1) || rest).toNat):=by
 have hM:0 < D * 2 ^ e:=Nat.mul_pos hD (Nat.two_pow_pos _)
 have e1:=rmag_form e (h / 2) hf (by omega)
 have e2:=rmag_form e (h / 2 + 1) (by omega) (by omega)
 have d1:=Nat.div_add_mod (2 * n) (D * 2 ^ e)
 have d2:=Nat.mod_lt (2 * n) hM
 rw [<- hh] at d1
 have m1:rmag (e * 4503599627370496 + h / 2) * D = (D * 2 ^ e) * (h / 2):=by rw [e1,Nat.mul_assoc,Nat.mul_comm (2 ^ e) D,Nat.mul_comm]
 have m2:rmag (e * 4503599627370496 + h / 2 + 1) * D = (D * 2 ^ e) * (h / 2) + D * 2 ^ e:=by
  rw [Nat.add_assoc,e2,Nat.mul_assoc,Nat.mul_comm (2 ^ e) D,Nat.mul_comm,Nat.mul_succ]
 have hK:h = 2 * (h / 2) + h % 2:=by omega
 generalize hq:h / 2 = K at *
 have par:(e * 4503599627370496 + K) % 2 = K % 2:=by omega
 generalize e * 4503599627370496 = eb at *
 generalize D * 2 ^ e = M at *
 generalize 2 * n % M = r at *
 have hb:h % 2 = 0 \/ h % 2 = 1:=by omega
 have d3:M * h = 2 * (M * K) + M * (h % 2):=by
  rw [hK,Nat.mul_add,Nat.mul_left_comm];congr 2;omega
 clear e1 e2
 have hr0:rest = false ↔ r = 0:=by
  cases rest
  ·simp at hr;simp [hr]
  ·simp at hr;simp [hr]
 rcases hb with hb | hb
 ·rw [hb,Nat.mul_zero] at d3
  refine ⟨⟨by rw [m1];omega,by rw [m2];omega⟩,?_,?_⟩
  ·unfold nearK
   rw [if_pos (.inl (by rw [Nat.add_mul,m1,m2];omega)),hb];simp
  ·unfold upK
   rw [m1,hb]
   by_cases c:r = 0
   ·rw [if_pos (by omega),hr0.2 c];simp
   ·rw [if_neg (by omega),hr.2 c];simp;omega
 ·rw [hb,Nat.mul_one] at d3
  refine ⟨⟨by rw [m1];omega,by rw [m2];omega⟩,?_,?_⟩
  ·unfold nearK
   rw [Nat.add_mul,m1,m2,par,hb]
   by_cases c:r = 0
   ·by_cases c2:K % 2 = 0
    ·rw [if_pos (.inr ⟨by omega,c2⟩),hr0.2 c,c2];simp
    ·have c3:K % 2 = 1:=by omega
     rw [if_neg (by omega),c3];simp;omega
   ·rw [if_neg (by omega),hr.2 c];simp;omega
  ·unfold upK
   rw [m1,hb,if_neg (by omega)];simp;omega
theorem plain_canon {r:Nat} (hr:r < 18446744073709551616) (hf:Fin r):plainM r = sgnK (decide (fval r < 0)) (frung r):=by
 have h:=word_parts hr
 have hp:=plain_word (neg:=fneg r) (k:=frung r) hf
 rw [<- h] at hp
 rw [hp]
 by_cases h0:frung r = 0
 ·rw [h0];unfold sgnK;simp
 ·congr 1
  have hpos:=frung_pos_rmag h0
  unfold fval
  cases fneg r
  ·simp only [Bool.false_eq_true,if_false];exact (decide_eq_false (by omega)).symm
  ·simp only [if_true];exact (decide_eq_true (by omega)).symm
theorem canon_rnd {d:Int} {r D:Nat} {p:Nat × Bool} (hr:r < 18446744073709551616) (hf:Fin r) (hD:0 < D) (hd:d = 0 \/ d = 1 \/ d = 2) (h:RndZ d (fval r * D) D p):p = (plainM r,true):=by
 have hD':(0:Int) < D:=by omega
 unfold RndZ at h
 have hs:decide (fval r * D < 0) = decide (fval r < 0):=by
  by_cases c:fval r < 0
  ·rw [decide_eq_true c];exact decide_eq_true (Int.mul_neg_of_neg_of_pos c hD')
  ·rw [decide_eq_false c];exact decide_eq_false (by have:=Int.mul_nonneg (show 0 <= fval r by omega) (show (0:Int) <= D by omega);omega)
 rw [hs,Int.natAbs_mul,fval_abs,Int.natAbs_natCast] at h
 rw [rnd_exact hf h,if_pos hd,plain_canon hr hf]
def Rest (z:Int) (D:Nat) (u v:Nat) (b:Bool):Prop:=
 (∃ p,RndZ 0 z D (p,false) /\ u = 0 /\ v = 0 /\ b = false) ∨
 (∃ p v1 o1 v2 o2,RndZ 0 z D (p,true) /\ RndZ 1 (z - fval p * D) D (v1,o1) /\ RndZ 2 (z - fval p * D) D (v2,o2) /\ ((o1 = true /\ o2 = true /\ v1 = v2 /\ u = p /\ v = v1 /\ b = true) \/ (¬ (o1 = true /\ o2 = true /\ v1 = v2) /\ u = 0 /\ v = 0 /\ b = false)))
theorem Rest.uniq {z:Int} {D u v u' v':Nat} {b b':Bool} (h:Rest z D u v b) (h':Rest z D u' v' b'):u = u' /\ v = v' /\ b = b':=by
 rcases h with ⟨p,h1,rfl,rfl,rfl⟩ | ⟨p,v1,o1,v2,o2,h1,h2,h3,h4⟩
 ·rcases h' with ⟨q,k1,rfl,rfl,rfl⟩ | ⟨q,w1,q1,w2,q2,k1,k2,k3,k4⟩
  ·exact ⟨rfl,rfl,rfl⟩
  ·have:=h1.uniq k1;simp at this
 ·rcases h' with ⟨q,k1,rfl,rfl,rfl⟩ | ⟨q,w1,q1,w2,q2,k1,k2,k3,k4⟩
  ·have:=h1.uniq k1;simp at this
  ·have e1:=h1.uniq k1
   simp only [Prod.mk.injEq,and_true] at e1
   subst e1
   have e2:=h2.uniq k2
   have e3:=h3.uniq k3
   simp only [Prod.mk.injEq] at e2 e3
   obtain ⟨rfl,rfl⟩:=e2
   obtain ⟨rfl,rfl⟩:=e3
   rcases h4 with ⟨a1,a2,a3,rfl,rfl,rfl⟩ | ⟨a1,rfl,rfl,rfl⟩
   ·rcases k4 with ⟨c1,c2,c3,rfl,rfl,rfl⟩ | ⟨c1,-⟩
    ·exact ⟨rfl,rfl,rfl⟩
    ·exact absurd ⟨a1,a2,a3⟩ c1
   ·rcases k4 with ⟨c1,c2,c3,-⟩ | ⟨c1,rfl,rfl,rfl⟩
    ·exact absurd ⟨c1,c2,c3⟩ a1
    ·exact ⟨rfl,rfl,rfl⟩
def wv (f:Nat -> Nat):Nat -> Nat
 | 0=>0
 | n + 1=>wv f n + f n * 2 ^ (64 * n)
def upd (f:Nat -> Nat) (i v:Nat):Nat -> Nat:=fun j=>if j = i then v else f j
theorem upd_same (f:Nat -> Nat) (i v:Nat):upd f i v i = v:=if_pos rfl
theorem upd_other {f:Nat -> Nat} {i v j:Nat} (h:j ≠ i):upd f i v j = f j:=if_neg h
theorem wv_congr {f g:Nat -> Nat}:∀ {n:Nat},(∀ j,j < n -> f j = g j) -> wv f n = wv g n
 | 0,_=>rfl
 | n + 1,h=>by
  unfold wv
  rw [wv_congr (fun j hj=>h j (by omega)),h n (by omega)]
theorem pow_step (n:Nat):(2:Nat) ^ (64 * (n + 1)) = 18446744073709551616 * 2 ^ (64 * n):=by
 rw [show 64 * (n + 1) = 64 + 64 * n by omega,Nat.pow_add]
theorem wv_lt {f:Nat -> Nat}:∀ {n:Nat},(∀ j,j < n -> f j < 18446744073709551616) -> wv f n < 2 ^ (64 * n)
 | 0,_=>by unfold wv;simp
 | n + 1,h=>by
  unfold wv
  have h1:=wv_lt (n:=n) (fun j hj=>h j (by omega))
  have h2:f n * 2 ^ (64 * n) <= 18446744073709551615 * 2 ^ (64 * n):=Nat.mul_le_mul_right _ (by have:=h n (by omega);omega)
  rw [pow_step]
  omega
theorem wv_upd_le {f:Nat -> Nat} {i v:Nat}:∀ {n:Nat},n <= i -> wv (upd f i v) n = wv f n:=fun {n} h=>wv_congr (fun j hj=>upd_other (by omega))
theorem wv_flip {f:Nat -> Nat}:∀ {n:Nat},(∀ j,j < n -> f j < 18446744073709551616) -> wv (fun j=>18446744073709551615 - f j) n + wv f n + 1 = 2 ^ (64 * n)
 | 0,_=>by unfold wv;simp
 | n + 1,h=>by
  unfold wv
  have h1:=wv_flip (n:=n) (fun j hj=>h j (by omega))
  have h2:=h n (by omega)
  have h3:(18446744073709551615 - f n) * 2 ^ (64 * n) + f n * 2 ^ (64 * n) = 18446744073709551615 * 2 ^ (64 * n):=by
   rw [<- Nat.add_mul];congr 1;omega
  rw [pow_step]
  omega
theorem wv_zero_iff {f:Nat -> Nat}:∀ {n:Nat},wv f n = 0 ↔ ∀ j,j < n -> f j = 0
 | 0=>by unfold wv;simp
 | n + 1=>by
  unfold wv
  have hp:=Nat.two_pow_pos (64 * n)
  constructor
  ·intro h j hj
   have h1:wv f n = 0:=by omega
   have h2:f n * 2 ^ (64 * n) = 0:=by omega
   rcases Nat.lt_or_ge j n with h3 | h3
   ·exact (wv_zero_iff.1 h1) j h3
   ·obtain rfl:j = n:=by omega
    rcases Nat.mul_eq_zero.1 h2 with h4 | h4 <;> omega
  ·intro h
   rw [wv_zero_iff.2 (fun j hj=>h j (by omega)),h n (by omega),Nat.zero_mul]
theorem wv_split (f:Nat -> Nat) (k:Nat):∀ n:Nat,wv f (k + n) = wv f k + 2 ^ (64 * k) * wv (fun j=>f (k + j)) n
 | 0=>by show wv f k = wv f k + _ * 0;rw [Nat.mul_zero,Nat.add_zero]
 | n + 1=>by
  rw [<- Nat.add_assoc]
  show wv f (k + n) + f (k + n) * 2 ^ (64 * (k + n)) = _ + _ * (wv (fun j=>f (k + j)) n + f (k + n) * 2 ^ (64 * n))
  rw [wv_split f k n,Nat.mul_add,Nat.mul_add,Nat.pow_add,Nat.add_assoc];congr 2
  rw [Nat.mul_left_comm]
theorem wv_top {f:Nat -> Nat} {k n:Nat} (hk:k <= n) (h:∀ j,k <= j -> j < n -> f j = 0):wv f n = wv f k:=by
 obtain ⟨m,rfl⟩:∃ m,n = k + m:=⟨n - k,by omega⟩
 rw [wv_split,(wv_zero_iff (f:=fun j=>f (k + j)) (n:=m)).2 (fun j hj=>h (k + j) (by omega) (by omega)),Nat.mul_zero,Nat.add_zero]
theorem wv_const_zero:∀ n:Nat,wv (fun _=>0) n = 0:=fun n=>wv_zero_iff.2 (fun _ _=>rfl)
theorem add_step {f g h:Nat -> Nat} {i c c' c0 v:Nat} (hi:wv h i + c * 2 ^ (64 * i) = wv f i + wv g i + c0) (hv:v + 18446744073709551616 * c' = f i + g i + c) :
  wv (upd h i v) (i + 1) + c' * 2 ^ (64 * (i + 1)) = wv f (i + 1) + wv g (i + 1) + c0:=by
 show wv (upd h i v) i + upd h i v i * 2 ^ (64 * i) + _ = (wv f i + f i * 2 ^ (64 * i)) + (wv g i + g i * 2 ^ (64 * i)) + c0
 rw [wv_upd_le (Nat.le_refl _),upd_same,pow_step]
 have h1:v * 2 ^ (64 * i) + c' * (18446744073709551616 * 2 ^ (64 * i)) = f i * 2 ^ (64 * i) + g i * 2 ^ (64 * i) + c * 2 ^ (64 * i):=by
  rw [show c' * (18446744073709551616 * 2 ^ (64 * i)) = (18446744073709551616 * c') * 2 ^ (64 * i) by ac_rfl,<- Nat.add_mul,<- Nat.add_mul,<- Nat.add_mul,hv]
 omega
structure Tc (f:Nat -> Nat) (z:Int):Prop where
 lt:∀ j,j < 76 -> f j < 18446744073709551616
 lo:-((2 ^ 4863:Nat):Int) <= z
 hi:z < ((2 ^ 4863:Nat):Int)
 eq:(wv f 76:Int) = z \/ (wv f 76:Int) = z + ((2 ^ 4864:Nat):Int)
theorem pow_parts {a b c:Nat} (h:a = b + c):(2:Nat) ^ a = 2 ^ b * 2 ^ c:=by subst h;rw [Nat.pow_add]
theorem pow_half:(2:Nat) ^ 4864 = 2 * 2 ^ 4863:=by rw [pow_parts (a:=4864) (b:=1) (c:=4863) (by omega),Nat.pow_one]
theorem Tc.sum {f g h:Nat -> Nat} {x y z:Int} {c c0:Nat} (hf:Tc f x) (hg:(wv g 76:Int) + c0 = y \/ (wv g 76:Int) + c0 = y + ((2 ^ 4864:Nat):Int)) (hh:∀ j,j < 76 -> h j < 18446744073709551616) (hs:wv h 76 + c * 2 ^ 4864 = wv f 76 + wv g 76 + c0)
  (hz:z = x + y) (h1:-((2 ^ 4863:Nat):Int) <= z) (h2:z < ((2 ^ 4863:Nat):Int)):Tc h z:=by
 refine ⟨hh,h1,h2,?_⟩
 have hl:=wv_lt hh
 have e:=hf.eq
 rw [show 64 * 76 = 4864 by omega] at hl
 have h12:=hf.lo
 have h13:=hf.hi
 have hf2:=wv_lt hf.lt
 rw [show 64 * 76 = 4864 by omega] at hf2
 rw [pow_half] at *
 generalize 2 ^ 4863 = L at *
 generalize wv f 76 = F at *
 generalize wv g 76 = G at *
 generalize wv h 76 = K at *
 have hc:c = 0 \/ c = 1 \/ c = 2 \/ 3 <= c:=by omega
 rcases hc with rfl | rfl | rfl | hc
 ·omega
 ·omega
 ·omega
 ·have:3 * (2 * L) <= c * (2 * L):=Nat.mul_le_mul_right _ hc
  omega
theorem wv_succ (f:Nat -> Nat) (n:Nat):wv f (n + 1) = wv f n + f n * 2 ^ (64 * n):=by rw [wv]
theorem wv_at (f:Nat -> Nat) (n m k:Nat) (h:m = n + 1) (hk:k = 64 * n):wv f m = wv f n + f n * 2 ^ k:=by subst h hk;exact wv_succ f n
theorem wv_76 (f:Nat -> Nat):wv f 76 = wv f 75 + f 75 * 2 ^ 4800:=wv_at f 75 76 4800 (by omega) (by omega)
theorem pow_top:(2:Nat) ^ 4863 = 9223372036854775808 * 2 ^ 4800:=by rw [pow_parts (a:=4863) (b:=63) (c:=4800) (by omega),show (2:Nat) ^ 63 = 9223372036854775808 by decide]
theorem Tc.neg_iff {f:Nat -> Nat} {z:Int} (h:Tc f z):z < 0 ↔ 9223372036854775808 <= f 75:=by
 have e:=h.eq
 have h1:=h.lo
 have h2:=h.hi
 have h3:=wv_lt (n:=75) (fun j hj=>h.lt j (by omega))
 have h4:=h.lt 75 (by omega)
 rw [show 64 * 75 = 4800 by omega] at h3
 rw [wv_76,pow_half,pow_top] at e
 rw [pow_top] at h1 h2
 generalize 2 ^ 4800 = L at *
 generalize wv f 75 = F at *
 have h5:f 75 * L <= 18446744073709551615 * L:=Nat.mul_le_mul_right _ (by omega)
 constructor
 ·intro hz
  rcases Nat.lt_or_ge (f 75) 9223372036854775808 with h6 | h6
  ·have h7:f 75 * L <= 9223372036854775807 * L:=Nat.mul_le_mul_right _ (by omega)
   omega
  ·exact h6
 ·intro hz
  have h7:9223372036854775808 * L <= f 75 * L:=Nat.mul_le_mul_right _ hz
  omega
theorem Tc.zero_iff {f:Nat -> Nat} {z:Int} (h:Tc f z):z = 0 ↔ ∀ j,j < 76 -> f j = 0:=by
 rw [<- wv_zero_iff]
 have e:=h.eq
 have h1:=h.lo
 have h2:=h.hi
 have h3:=wv_lt h.lt
 rw [show 64 * 76 = 4864 by omega] at h3
 rw [pow_half] at *
 have hp:=Nat.two_pow_pos 4863
 generalize 2 ^ 4863 = L at *
 omega
theorem Tc.held_iff {f:Nat -> Nat} {z:Int} (h:Tc f z):(f 75 = 0 \/ (f 75 = 18446744073709551615 /\ ∃ j,j < 75 /\ f j ≠ 0)) ↔ (-((2 ^ 4800:Nat):Int) < z /\ z < ((2 ^ 4800:Nat):Int)):=by
 have e:=h.eq
 have h1:=h.lo
 have h2:=h.hi
 have h3:=wv_lt (n:=75) (fun j hj=>h.lt j (by omega))
 have h4:=h.lt 75 (by omega)
 have hz:(∃ j,j < 75 /\ f j ≠ 0) ↔ wv f 75 ≠ 0:=by
  rw [ne_eq,wv_zero_iff]
  constructor
  ·rintro ⟨j,hj,hne⟩ hall;exact hne (hall j hj)
  ·intro hn
   apply Classical.byContradiction
   intro hc
   exact hn (fun j hj=>Classical.byContradiction fun hne=>hc ⟨j,hj,hne⟩)
 rw [hz]
 rw [show 64 * 75 = 4800 by omega] at h3
 rw [wv_76,pow_half,pow_top] at e
 rw [pow_top] at h1 h2
 generalize 2 ^ 4800 = L at *
 generalize wv f 75 = F at *
 constructor
 ·rintro (h0 | ⟨h0,hF⟩)
  ·rw [h0] at e;omega
  ·rw [h0] at e;omega
 ·intro hh
  by_cases c0:f 75 = 0
  ·exact .inl c0
  ·right
   have h5:1 * L <= f 75 * L:=Nat.mul_le_mul_right _ (by omega)
   by_cases c1:f 75 = 18446744073709551615
   ·refine ⟨c1,?_⟩
    rw [c1] at e
    omega
   ·have h6:f 75 * L <= 18446744073709551614 * L:=Nat.mul_le_mul_right _ (by omega)
    omega
def ptw (k t0 t1 t2 s:Nat):Nat -> Nat:=fun j=>if j < k then 0 else if j = k then t0 else if j = k + 1 then t1 else if j = k + 2 then t2 else s
def three (t0 t1 t2 s:Nat):Nat -> Nat:=fun j=>if j = 0 then t0 else if j = 1 then t1 else if j = 2 then t2 else s
theorem ptw_shift (k t0 t1 t2 s:Nat):(fun j=>ptw k t0 t1 t2 s (k + j)) = three t0 t1 t2 s:=by
 funext j
 unfold ptw three
 rw [if_neg (by omega)]
 by_cases h0:j = 0
 ·subst h0;simp
 ·rw [if_neg (by omega),if_neg h0]
  by_cases h1:j = 1
  ·subst h1;simp
  ·rw [if_neg (by omega),if_neg h1]
   by_cases h2:j = 2
   ·subst h2;simp
   ·rw [if_neg (by omega),if_neg h2]
theorem ptw_wv (k t0 t1 t2 s:Nat) (m:Nat):wv (ptw k t0 t1 t2 s) (k + m) = 2 ^ (64 * k) * wv (three t0 t1 t2 s) m:=by
 rw [wv_split,ptw_shift,wv_zero_iff.2 (fun j hj=>by unfold ptw;rw [if_pos hj]),Nat.zero_add]
theorem three_wv (t0 t1 t2 m:Nat) (hm:3 <= m):wv (three t0 t1 t2 0) m = t0 + t1 * 18446744073709551616 + t2 * 340282366920938463463374607431768211456:=by
 rw [wv_top hm (fun j h1 h2=>by unfold three;rw [if_neg (by omega),if_neg (by omega),if_neg (by omega)])]
 show 0 + three t0 t1 t2 0 0 * 2 ^ (64 * 0) + three t0 t1 t2 0 1 * 2 ^ (64 * 1) + three t0 t1 t2 0 2 * 2 ^ (64 * 2) = _
 unfold three
 simp
theorem ptw_pos {k t0 t1 t2:Nat} (hk:k + 3 <= 76):wv (ptw k t0 t1 t2 0) 76 = 2 ^ (64 * k) * (t0 + t1 * 18446744073709551616 + t2 * 340282366920938463463374607431768211456):=by
 obtain ⟨m,hm⟩:∃ m,76 = k + m:=⟨76 - k,by omega⟩
 rw [hm,ptw_wv,three_wv _ _ _ _ (by omega)]
theorem ptw_neg {k t0 t1 t2:Nat} (hk:k + 3 <= 76) (h0:t0 < 18446744073709551616) (h1:t1 < 18446744073709551616) (h2:t2 < 18446744073709551616) :
  wv (ptw k (18446744073709551615 - t0) (18446744073709551615 - t1) (18446744073709551615 - t2) 18446744073709551615) 76 + 2 ^ (64 * k) * (t0 + t1 * 18446744073709551616 + t2 * 340282366920938463463374607431768211456) + 2 ^ (64 * k) = 2 ^ 4864:=by
 obtain ⟨m,hm⟩:∃ m,76 = k + m:=⟨76 - k,by omega⟩
 have e:three (18446744073709551615 - t0) (18446744073709551615 - t1) (18446744073709551615 - t2) 18446744073709551615 = fun j=>18446744073709551615 - three t0 t1 t2 0 j:=by
  funext j;unfold three
  by_cases c0:j = 0
  ·rw [if_pos c0,if_pos c0]
  ·rw [if_neg c0,if_neg c0]
   by_cases c1:j = 1
   ·rw [if_pos c1,if_pos c1]
   ·rw [if_neg c1,if_neg c1]
    by_cases c2:j = 2
    ·rw [if_pos c2,if_pos c2]
    ·rw [if_neg c2,if_neg c2]
 have hfl:=wv_flip (f:=three t0 t1 t2 0) (n:=m) (fun j _=>by unfold three;split;exact h0;split;exact h1;split;exact h2;omega)
 rw [three_wv _ _ _ _ (show 3 <= m by omega)] at hfl
 rw [hm,ptw_wv,e,<- Nat.mul_add]
 have h3:(2:Nat) ^ 4864 = 2 ^ (64 * k) * 2 ^ (64 * m):=by rw [<- Nat.pow_add];congr 1;omega
 rw [h3,<- hfl]
 rw [Nat.mul_add _ (_ + _) 1,Nat.mul_one]
theorem shift3 {high low n:Nat} (hn:n < 64) (hl:low < 18446744073709551616) (hh:high < 18446744073709551616) :
  low * 2 ^ n % 18446744073709551616 + ((high * 2 ^ n % 18446744073709551616) ||| (low / 2 ^ (64 - n))) * 18446744073709551616 + (high / 2 ^ (64 - n)) * 340282366920938463463374607431768211456 = (high * 18446744073709551616 + low) * 2 ^ n
  /\ ((high * 2 ^ n % 18446744073709551616) ||| (low / 2 ^ (64 - n))) < 18446744073709551616 /\ high / 2 ^ (64 - n) < 18446744073709551616:=by
 have hp:2 ^ n * 2 ^ (64 - n) = 18446744073709551616:=by rw [<- Nat.pow_add,show n + (64 - n) = 64 by omega]
 have hpn:=Nat.two_pow_pos n
 have hpm:=Nat.two_pow_pos (64 - n)
 have e1:∀ x:Nat,x * 2 ^ n = x * 2 ^ n % 18446744073709551616 + (x / 2 ^ (64 - n)) * 18446744073709551616:=by
  intro x
  have h1:=Nat.div_add_mod (x * 2 ^ n) 18446744073709551616
  have h2:x * 2 ^ n / 18446744073709551616 = x / 2 ^ (64 - n):=by
   rw [<- hp,Nat.mul_comm (2 ^ n),Nat.mul_div_mul_right _ _ hpn]
  rw [h2] at h1
  omega
 have hlo:low / 2 ^ (64 - n) < 2 ^ n:=by rw [Nat.div_lt_iff_lt_mul hpm,hp];exact hl
 have hor:(high * 2 ^ n % 18446744073709551616) ||| (low / 2 ^ (64 - n)) = high * 2 ^ n % 18446744073709551616 + low / 2 ^ (64 - n):=by
  have h1:high * 2 ^ n % 18446744073709551616 = 2 ^ n * (high % 2 ^ (64 - n)):=by
   rw [<- hp,Nat.mul_comm high,Nat.mul_mod_mul_left]
  rw [h1,Nat.two_pow_add_eq_or_of_lt hlo]
 have h1:=e1 low
 have h2:=e1 high
 have h3:high * 2 ^ n % 18446744073709551616 + low / 2 ^ (64 - n) < 18446744073709551616:=by
  have h4:high * 2 ^ n % 18446744073709551616 = 2 ^ n * (high % 2 ^ (64 - n)):=by
   rw [<- hp,Nat.mul_comm high,Nat.mul_mod_mul_left]
  have h5:high % 2 ^ (64 - n) + 1 <= 2 ^ (64 - n):=Nat.mod_lt _ hpm
  have h6:2 ^ n * (high % 2 ^ (64 - n) + 1) <= 2 ^ n * 2 ^ (64 - n):=Nat.mul_le_mul_left _ h5
  rw [hp,Nat.mul_add] at h6
  omega
 refine ⟨?_,by rw [hor];exact h3,?_⟩
 ·have e3:(high * 18446744073709551616 + low) * 2 ^ n = (high * 2 ^ n) * 18446744073709551616 + low * 2 ^ n:=by
   rw [Nat.add_mul];congr 1;ac_rfl
  rw [hor,e3]
  generalize high * 2 ^ n = A at *
  generalize low * 2 ^ n = B at *
  generalize high / 2 ^ (64 - n) = C at *
  generalize low / 2 ^ (64 - n) = D at *
  omega
 ·exact Nat.lt_of_le_of_lt (Nat.div_le_self _ _) hh
def Trn (neg:Bool) (F c:Nat):Prop:=(neg = false /\ F = 0 /\ c = 0) \/ (neg = true /\ F = 18446744073709551615 /\ c = 1)
def flp (neg:Bool) (y:Nat):Nat:=if neg then 18446744073709551615 - y else y
theorem flp_lt {neg:Bool} {y:Nat} (h:y < 18446744073709551616):flp neg y < 18446744073709551616:=by unfold flp;split <;> omega
theorem add_rest {f g h:Nat -> Nat} {i c c0 s:Nat} (hi:wv h i + c * 2 ^ (64 * i) = wv f i + wv g i + c0) (hs:(s = 0 /\ c = 0) \/ (s = 18446744073709551615 /\ c = 1)) :
  ∀ m,(∀ j,i <= j -> j < i + m -> g j = s) -> (∀ j,i <= j -> j < i + m -> h j = f j) -> wv h (i + m) + c * 2 ^ (64 * (i + m)) = wv f (i + m) + wv g (i + m) + c0
 | 0,_,_=>hi
 | m + 1,hg,hh=>by
  have ih:=add_rest hi hs m (fun j h1 h2=>hg j h1 (by omega)) (fun j h1 h2=>hh j h1 (by omega))
  rw [<- Nat.add_assoc,wv_succ,wv_succ,wv_succ,pow_step,hg (i + m) (by omega) (by omega),hh (i + m) (by omega) (by omega)]
  generalize 2 ^ (64 * (i + m)) = P at *
  rcases hs with ⟨rfl,rfl⟩ | ⟨rfl,rfl⟩
  ·omega
  ·omega
theorem add_rest' {f g h:Nat -> Nat} {i c c0 s:Nat} (n:Nat) (hi:wv h i + c * 2 ^ (64 * i) = wv f i + wv g i + c0) (hs:(s = 0 /\ c = 0) \/ (s = 18446744073709551615 /\ c = 1)) (hn:i <= n) (hg:∀ j,i <= j -> j < n -> g j = s) (hh:∀ j,i <= j -> j < n -> h j = f j) :
  wv h n + c * 2 ^ (64 * n) = wv f n + wv g n + c0:=by
 obtain ⟨m,rfl⟩:∃ m,n = i + m:=⟨n - i,by omega⟩
 exact add_rest hi hs m hg hh
theorem ptw_at (k t0 t1 t2 s:Nat):ptw k t0 t1 t2 s k = t0 /\ ptw k t0 t1 t2 s (k + 1) = t1 /\ ptw k t0 t1 t2 s (k + 2) = t2 /\ ∀ j,k + 3 <= j -> ptw k t0 t1 t2 s j = s:=by
 unfold ptw
 refine ⟨by simp,?_,?_,fun j hj=>?_⟩
 ·rw [if_neg (by omega),if_neg (by omega),if_pos rfl]
 ·rw [if_neg (by omega),if_neg (by omega),if_neg (by omega),if_pos rfl]
 ·rw [if_neg (by omega),if_neg (by omega),if_neg (by omega),if_neg (by omega)]
theorem ptw_low (k t0 t1 t2 s:Nat):wv (ptw k t0 t1 t2 s) k = 0:=wv_zero_iff.2 (fun j hj=>by unfold ptw;rw [if_pos hj])
def pw0 (low n:Nat):Nat:=low * 2 ^ n % 18446744073709551616
def pw1 (high low n:Nat):Nat:=(high * 2 ^ n % 18446744073709551616) ||| (low / 2 ^ (64 - n))
def pw2 (high n:Nat):Nat:=high / 2 ^ (64 - n)
theorem put_tc {f h:Nat -> Nat} {z:Int} {neg:Bool} {high low k n c F c0:Nat} (hf:Tc f z) (hk:k + 3 <= 76) (hn:n < 64) (hl:low < 18446744073709551616) (hh:high < 18446744073709551616) (hT:Trn neg F c0) (hlt:∀ j,j < 76 -> h j < 18446744073709551616)
  (hs:wv h 76 + c * 2 ^ (64 * 76) = wv f 76 + wv (ptw k (flp neg (pw0 low n)) (flp neg (pw1 high low n)) (flp neg (pw2 high n)) F) 76 + c0 * 2 ^ (64 * k))
  (h1:-((2 ^ 4863:Nat):Int) <= z + sv neg ((high * 18446744073709551616 + low) * 2 ^ (64 * k + n))) (h2:z + sv neg ((high * 18446744073709551616 + low) * 2 ^ (64 * k + n)) < ((2 ^ 4863:Nat):Int)) :
  Tc h (z + sv neg ((high * 18446744073709551616 + low) * 2 ^ (64 * k + n))):=by
 obtain ⟨e,b1,b2⟩:=shift3 (high:=high) (low:=low) hn hl hh
 have b0:pw0 low n < 18446744073709551616:=Nat.mod_lt _ (by omega)
 have e':(high * 18446744073709551616 + low) * 2 ^ (64 * k + n) = 2 ^ (64 * k) * (pw0 low n + pw1 high low n * 18446744073709551616 + pw2 high n * 340282366920938463463374607431768211456):=by
  unfold pw0 pw1 pw2
  rw [e,Nat.pow_add];ac_rfl
 rw [show 64 * 76 = 4864 by omega] at hs
 refine Tc.sum (y:=sv neg ((high * 18446744073709551616 + low) * 2 ^ (64 * k + n))) (c0:=c0 * 2 ^ (64 * k)) (c:=c) (g:=ptw k (flp neg (pw0 low n)) (flp neg (pw1 high low n)) (flp neg (pw2 high n)) F) hf ?_ hlt hs rfl h1 h2
 rcases hT with ⟨rfl,rfl,rfl⟩ | ⟨rfl,rfl,rfl⟩
 ·left
  unfold flp sv
  simp only [Bool.false_eq_true,if_false]
  rw [ptw_pos hk,e',Nat.zero_mul];simp
 ·right
  unfold flp sv
  simp only [if_true]
  have:=ptw_neg (t0:=pw0 low n) (t1:=pw1 high low n) (t2:=pw2 high n) hk b0 b1 b2
  rw [<- e'] at this
  generalize (high * 18446744073709551616 + low) * 2 ^ (64 * k + n) = X at *
  generalize wv _ 76 = Y at *
  generalize 2 ^ 4864 = Z at *
  generalize 2 ^ (64 * k) = U at *
  omega
open Ieee
structure Frt (N D whole:Nat) (power:Int) (more:Bool):Prop where
 big:9007199254740992 <= whole
 lt:whole < 18446744073709551616
 ex:∃ X a b:Nat,0 < X /\ X * 2 ^ a = D * 2 ^ b /\ power + 1074 = (b:Int) - a /\ whole * X <= N /\ N < (whole + 1) * X /\ (more = true ↔ N ≠ whole * X)
theorem Frt.halves {N D whole:Nat} {power:Int} {more:Bool} (h:Frt N D whole power more) (hD:0 < D) {drop e:Nat} (hd:0 < drop) (he:(e:Int) = power + drop + 1074) :
  whole / 2 ^ (drop - 1) = 2 * N / (D * 2 ^ e) /\ ((more || decide (whole % 2 ^ (drop - 1) ≠ 0)) = true ↔ 2 * N % (D * 2 ^ e) ≠ 0):=by
 obtain ⟨X,a,b,hX,hXD,hp,h1,h2,h3⟩:=h.ex
 have e1:D * 2 ^ e = X * 2 ^ drop:=by
  have:(D * 2 ^ e) * 2 ^ a = (X * 2 ^ drop) * 2 ^ a:=by
   rw [Nat.mul_assoc,<- Nat.pow_add,show e + a = b + drop by omega,Nat.pow_add,<- Nat.mul_assoc,<- hXD];ac_rfl
  exact Nat.eq_of_mul_eq_mul_right (Nat.two_pow_pos a) this
 have e2:X * 2 ^ drop = 2 * (X * 2 ^ (drop - 1)):=by
  obtain ⟨k,rfl⟩:∃ k,drop = k + 1:=⟨drop - 1,by omega⟩
  rw [Nat.pow_succ,Nat.add_sub_cancel];ac_rfl
 rw [e1,e2,Nat.mul_div_mul_left _ _ (by omega),Nat.mul_mod_mul_left]
 have hq:N / X = whole:=by
  rw [Nat.div_eq_iff hX]
  rw [Nat.add_mul] at h2
  omega
 have hm:N % X = N - whole * X:=by
  have:=Nat.div_add_mod N X
  rw [hq,Nat.mul_comm] at this;omega
 have hr:N % (X * 2 ^ (drop - 1)) = N % X + X * (N / X % 2 ^ (drop - 1)):=Nat.mod_mul
 refine ⟨by rw [<- Nat.div_div_eq_div_mul,hq],?_⟩
 rw [hr,hq,hm]
 have hx:X * (whole % 2 ^ (drop - 1)) = 0 ↔ whole % 2 ^ (drop - 1) = 0:=by
  rw [Nat.mul_eq_zero];constructor
  ·rintro (c | c)
   ·omega
   ·exact c
  ·exact Or.inr
 cases more
 ·have h4:N = whole * X:=Classical.byContradiction fun c=>absurd (h3.2 c) (by simp)
  rw [h4,Nat.sub_self]
  simp
  omega
 ·have h4:=h3.1 rfl
  simp
  omega
theorem sub_word {k:Nat} (hk:k < infK):double.sub 0 (double.word false k) = some (sgnK true k):=by
 by_cases h0:k = 0
 ·subst h0;decide
 ·have hk':k < 9223372036854775808:=Nat.lt_trans hk (by decide)
  obtain ⟨w1,w2,w3⟩:=word_rung false hk'
  have f0:Fin 0:=by unfold Fin;decide
  have f1:Fin (double.word false k):=by unfold Fin;rw [w1];exact hk
  obtain ⟨r,hr,g,hg,hs⟩:=sub_fin f0 f1
  have hv:fval 0 - fval (double.word false k) = -(rmag k:Int):=by
   rw [show fval 0 = 0 by decide];unfold fval;rw [w1,w2];simp
  have hp:0 < rmag k:=Nat.lt_of_lt_of_le (by omega) (le_rmag k)
  rw [hv] at hg hs
  have hs':=hs (by omega)
  have hneg:g = true:=by rw [hs'];exact decide_eq_true (by omega)
  subst hneg
  have he:((-(rmag k:Int)).natAbs) = rmag k * 1:=by omega
  rw [he] at hg
  have:=hg.uniq (Rn.exact true k 1 (by omega))
  rw [hr,this,Nat.min_eq_left (Nat.le_of_lt hk)]
  congr 1
  unfold sgnK
  rw [if_pos ⟨rfl,by omega⟩]
  unfold Ieee.Format.word
  simp [dbl_sign]
theorem inf_lt_word:infK < 9223372036854775808:=by decide
theorem nearest_small {m:Nat} (h:m <= 9007199254740992):∃ k,double.nearest false m 0 = double.word false k /\ k < infK /\ ∀ E,E = 1074 -> rmag k = m * 2 ^ E:=by
 by_cases h0:m = 0
 ·subst h0
  exact ⟨0,by decide,by decide,fun E _=>by rw [rmag_zero,Nat.zero_mul]⟩
 ·obtain ⟨E,hE⟩:∃ E:Nat,E = 1074:=⟨_,rfl⟩
  obtain ⟨R,hR,hw⟩:=nearest_eq false m 0 h0
  obtain ⟨k,hk⟩:=rung_some m E h
  have e1:nume m 0 = rmag k * 1:=by
   unfold nume
   rw [hk,Nat.mul_one,show ((0:Int) + 1074).toNat = E by omega]
  have e2:deno 0 = 1:=by unfold deno;simp
  have hki:k < infK:=by
   apply lt_of_rmag
   obtain ⟨F,hF⟩:∃ F:Nat,F = 2046:=⟨_,rfl⟩
   rw [rmag_inf hF,hk]
   obtain ⟨G,hG⟩:∃ G:Nat,F = E + G:=⟨F - E,by omega⟩
   have hG2:2 <= G:=by omega
   have:2 ^ F = 2 ^ E * 2 ^ G:=by rw [hG,Nat.pow_add]
   rw [this]
   have hp:=Nat.two_pow_pos E
   have h5:m * 2 ^ E <= 9007199254740992 * 2 ^ E:=Nat.mul_le_mul_right _ h
   have h6:(4:Nat) <= 2 ^ G:=by
    have:=Nat.pow_le_pow_right (n:=2) (by omega) hG2
    simpa using this
   have h7:2 ^ E * 4 <= 2 ^ E * 2 ^ G:=Nat.mul_le_mul_left _ h6
   generalize 2 ^ E * 2 ^ G = Z at *
   generalize m * 2 ^ E = Y at *
   omega
  rw [e1,e2] at hR hw
  have:=hR.uniq (Fl.exact k 1 (by omega))
  subst this
  rw [nearK_exact rfl (by omega),Nat.min_eq_left (Nat.le_of_lt hki)] at hw
  exact ⟨R,hw,hki,fun E' h'=>by
   obtain rfl:E' = E:=by omega
   exact hk⟩
theorem pow_small_whole {m k r e:Nat} {n:Int} (hk:k < infK) (hr:∀ E,E = 1074 -> rmag k = m * 2 ^ E) (hm:m <= 9007199254740992) (hf:e = 0 \/ 4503599627370496 <= m) (he:n = (e:Int) - 1074) (hp:Pow (double.word false k) n r) :
  r = double.word false (min (e * 4503599627370496 + m) infK):=by
 obtain ⟨w1,w2,w3⟩:=word_rung false (Nat.lt_trans hk inf_lt_word)
 unfold Pow at hp
 rw [w1,w2] at hp
 have hK:=rmag_form e m hf hm
 refine (hp.of_eq (n':=rmag (e * 4503599627370496 + m) * 1) (D':=1) (Nat.two_pow_pos _) (by omega) ?_).uniq (Rn.exact false _ 1 (by omega))
 obtain ⟨E,hE⟩:∃ E:Nat,E = 1074:=⟨_,rfl⟩
 rw [hK,hr E hE,Nat.mul_one,Nat.mul_one,Nat.mul_assoc,Nat.mul_assoc,<- Nat.pow_add,<- Nat.pow_add]
 congr 2
 omega
def incB (d:Int) (neg:Bool) (h:Nat) (rest:Bool):Bool:=
 if d = 0 then decide (h % 2 = 1) && (rest || decide (h / 2 % 2 = 1)) else if d = 1 /\ neg = false \/ d = 2 /\ neg = true then decide (h % 2 = 1) || rest else false
def toldK (d:Int) (neg:Bool) (K:Nat):Nat × Bool:=
 if K < infK then (sgnK neg K,true) else if d = 0 \/ d = 1 /\ neg = false \/ d = 2 /\ neg = true then (0,false) else (sgnK neg (infK - 1),true)
theorem Frt.tells {N D whole:Nat} {power:Int} {more:Bool} (h:Frt N D whole power more) (hD:0 < D) {d:Int} (neg:Bool) (hd:d = 0 \/ d = 1 \/ d = 2) {drop e:Nat} (hd0:0 < drop) (he:(e:Int) = power + drop + 1074)
  (hlo:e = 0 \/ 2 ^ (drop + 52) <= whole) (hhi:whole < 2 ^ (drop + 53)) :
  Rnd d neg N D (toldK d neg (e * 4503599627370496 + (whole / 2 ^ (drop - 1) / 2 + (incB d neg (whole / 2 ^ (drop - 1)) (more || decide (whole % 2 ^ (drop - 1) ≠ 0))).toNat)))
  /\ whole / 2 ^ (drop - 1) / 2 = whole / 2 ^ drop /\ whole / 2 ^ drop < 9007199254740992 /\ (e = 0 \/ 4503599627370496 <= whole / 2 ^ drop):=by
 obtain ⟨h1,h2⟩:=h.halves hD hd0 he
 have e3:whole / 2 ^ (drop - 1) / 2 = whole / 2 ^ drop:=by
  rw [Nat.div_div_eq_div_mul];congr 1
  obtain ⟨k,rfl⟩:∃ k,drop = k + 1:=⟨drop - 1,by omega⟩
  rw [Nat.pow_succ,Nat.add_sub_cancel]
 have hl:whole / 2 ^ drop < 9007199254740992:=by
  rw [Nat.div_lt_iff_lt_mul (Nat.two_pow_pos _)]
  rw [Nat.pow_add,Nat.mul_comm] at hhi
  simpa using hhi
 have hf:e = 0 \/ 4503599627370496 <= whole / 2 ^ drop:=by
  rcases hlo with c | c
  ·exact .inl c
  ·right
   rw [Nat.le_div_iff_mul_le (Nat.two_pow_pos _)]
   rw [Nat.pow_add,Nat.mul_comm] at c
   simpa using c
 refine ⟨?_,e3,hl,hf⟩
 generalize hh:whole / 2 ^ (drop - 1) = H at *
 generalize (more || decide (whole % 2 ^ (drop - 1) ≠ 0)) = rest at *
 rw [<- e3] at hl hf
 obtain ⟨q1,q2,q3⟩:=halves_quot (rest:=rest) hD h1 h2 hf (by omega)
 refine ⟨_,q1,?_⟩
 unfold tellK toldK incB
 rw [q2,q3]
 rcases hd with rfl | rfl | rfl
 ·simp only [if_true,true_or]
 ·cases neg
  ·simp
  ·simp
   split
   ·rw [Nat.min_eq_left (by omega)]
   ·rw [Nat.min_eq_right (by omega)]
 ·cases neg
  ·simp
   split
   ·rw [Nat.min_eq_left (by omega)]
   ·rw [Nat.min_eq_right (by omega)]
  ·simp
end Go.Proofs.YtmdjoaipkbnelaaGreat
namespace Go.Proofs.YtmdjoaipkbnelaaGreat
theorem shl_split (x n:Nat) (hn:n <= 64):x * 2 ^ n = x * 2 ^ n % 18446744073709551616 + (x / 2 ^ (64 - n)) * 18446744073709551616:=by
 have hp:2 ^ n * 2 ^ (64 - n) = 18446744073709551616:=by rw [<- Nat.pow_add,show n + (64 - n) = 64 by omega]
 have hpn:=Nat.two_pow_pos n
 have h1:=Nat.div_add_mod (x * 2 ^ n) 18446744073709551616
 have h2:x * 2 ^ n / 18446744073709551616 = x / 2 ^ (64 - n):=by
  rw [<- hp,Nat.mul_comm (2 ^ n),Nat.mul_div_mul_right _ _ hpn]
 rw [h2] at h1
 omega
theorem shl_or {a b n:Nat} (hn:n <= 64) (ha:a * 2 ^ n < 18446744073709551616) (hb:b < 18446744073709551616):((a * 2 ^ n % 18446744073709551616) ||| (b / 2 ^ (64 - n))) = a * 2 ^ n + b / 2 ^ (64 - n):=by
 have hp:2 ^ n * 2 ^ (64 - n) = 18446744073709551616:=by rw [<- Nat.pow_add,show n + (64 - n) = 64 by omega]
 have hlo:b / 2 ^ (64 - n) < 2 ^ n:=by rw [Nat.div_lt_iff_lt_mul (Nat.two_pow_pos _),hp];exact hb
 rw [Nat.mod_eq_of_lt ha,Nat.mul_comm,Nat.two_pow_add_eq_or_of_lt hlo]
theorem front_math {fa b Y n P X V W lo:Nat} (hn:n <= 64) (hf0:9223372036854775808 <= fa * 2 ^ n) (hf1:fa * 2 ^ n < 18446744073709551616) (hb:b < 18446744073709551616)
  (hV:V * 18446744073709551616 = Y + (fa * 18446744073709551616 + b) * P) (hY:Y < P) (hX:X * 2 ^ n = P * 18446744073709551616) (hW:W = (fa * 2 ^ n % 18446744073709551616) ||| (b / 2 ^ (64 - n))) (hlo:lo = b * 2 ^ n % 18446744073709551616) :
  9223372036854775808 <= W /\ W < 18446744073709551616 /\ W * X <= V * 18446744073709551616 /\ V * 18446744073709551616 < (W + 1) * X /\ (V * 18446744073709551616 ≠ W * X ↔ (lo ≠ 0 \/ Y ≠ 0)):=by
 have hp:2 ^ n * 2 ^ (64 - n) = 18446744073709551616:=by rw [<- Nat.pow_add,show n + (64 - n) = 64 by omega]
 have hpn:=Nat.two_pow_pos n
 have e1:=shl_split b n hn
 rw [shl_or hn hf1 hb] at hW
 rw [<- hlo] at e1
 have hdv:lo % 2 ^ n = 0:=by
  rw [hlo,<- hp,Nat.mul_comm b,Nat.mul_mod_mul_left];exact Nat.mul_mod_right _ _
 have hl64:lo < 18446744073709551616:=by rw [hlo];exact Nat.mod_lt _ (by omega)
 have hl:lo + 2 ^ n <= 18446744073709551616:=by
  obtain ⟨q,hq⟩:∃ q,lo = 2 ^ n * q:=⟨lo / 2 ^ n,by have:=Nat.div_add_mod lo (2 ^ n);omega⟩
  have h2:q < 2 ^ (64 - n):=by
   rw [hq,<- hp] at hl64
   exact Nat.lt_of_mul_lt_mul_left hl64
  have h3:2 ^ n * (q + 1) <= 2 ^ n * 2 ^ (64 - n):=Nat.mul_le_mul_left _ h2
  rw [hp,Nat.mul_add,<- hq] at h3
  omega
 have hWl:W < 18446744073709551616:=by
  have h1:b / 2 ^ (64 - n) < 2 ^ n:=by rw [Nat.div_lt_iff_lt_mul (Nat.two_pow_pos _),hp];exact hb
  obtain ⟨q,hq⟩:∃ q,q = fa + 1:=⟨_,rfl⟩
  have h2:fa < 2 ^ (64 - n):=by
   rw [<- hp,Nat.mul_comm] at hf1
   exact Nat.lt_of_mul_lt_mul_left hf1
  have h3:2 ^ n * (fa + 1) <= 2 ^ n * 2 ^ (64 - n):=Nat.mul_le_mul_left _ h2
  rw [hp,Nat.mul_add,Nat.mul_comm] at h3
  omega
 have key:V * 18446744073709551616 * 2 ^ n = W * X * 2 ^ n + (Y * 2 ^ n + lo * P):=by
  rw [hV,Nat.mul_assoc W,hX]
  have:(fa * 18446744073709551616 + b) * P * 2 ^ n = (W * 18446744073709551616 + lo) * P:=by
   rw [Nat.mul_right_comm];congr 1
   rw [Nat.add_mul,e1,hW,Nat.add_mul]
   have:fa * 18446744073709551616 * 2 ^ n = fa * 2 ^ n * 18446744073709551616:=by ac_rfl
   omega
  rw [Nat.add_mul,this,Nat.add_mul]
  have h2:W * 18446744073709551616 * P = W * (P * 18446744073709551616):=by ac_rfl
  rw [h2]
  omega
 have hr:Y * 2 ^ n + lo * P < X * 2 ^ n:=by
  rw [hX]
  have h1:Y * 2 ^ n < P * 2 ^ n:=Nat.mul_lt_mul_of_pos_right hY hpn
  have h2:(lo + 2 ^ n) * P <= 18446744073709551616 * P:=Nat.mul_le_mul_right _ hl
  rw [Nat.add_mul] at h2
  rw [Nat.mul_comm P (2 ^ n)] at h1
  rw [Nat.mul_comm P]
  omega
 have hP:0 < P:=by omega
 have hz:Y * 2 ^ n + lo * P = 0 ↔ (lo = 0 /\ Y = 0):=by
  constructor
  ·intro h
   have h1:Y * 2 ^ n = 0:=by omega
   have h2:lo * P = 0:=by omega
   rcases Nat.mul_eq_zero.1 h1 with c | c <;> rcases Nat.mul_eq_zero.1 h2 with c' | c' <;> omega
  ·rintro ⟨rfl,rfl⟩;simp
 refine ⟨by rw [hW];omega,hWl,?_,?_,?_⟩
 ·exact Nat.le_of_mul_le_mul_right (by omega) hpn
 ·apply Nat.lt_of_mul_lt_mul_right (a:=2 ^ n)
  rw [Nat.mul_assoc (W + 1),Nat.add_mul W 1,Nat.one_mul,<- Nat.mul_assoc]
  omega
 ·have h1:V * 18446744073709551616 = W * X ↔ Y * 2 ^ n + lo * P = 0:=by
   constructor
   ·intro h;rw [h] at key;omega
   ·intro h
    rw [h,Nat.add_zero] at key
    exact Nat.eq_of_mul_eq_mul_right hpn key
  rw [ne_eq,h1,hz]
  omega
theorem front_frt {f:Nat -> Nat} {at' n A B W b:Nat} {more:Bool} {power:Int} (hlt:∀ j,j < 76 -> f j < 18446744073709551616) (ha:at' < 76) (htop:∀ j,at' < j -> j < 76 -> f j = 0) (hn:n <= 64) (hf0:9223372036854775808 <= f at' * 2 ^ n) (hf1:f at' * 2 ^ n < 18446744073709551616)
  (hb:b = if at' = 0 then 0 else f (at' - 1)) (hW:W = (f at' * 2 ^ n % 18446744073709551616) ||| (b / 2 ^ (64 - n))) (hm:more = true ↔ (b * 2 ^ n % 18446744073709551616 ≠ 0 \/ ∃ j,j + 1 < at' /\ f j ≠ 0))
  (hp:power = -2240 + at' * 64 - n) (hB:B = 64) (hA:A = 1230):Frt (wv f 76 * 2 ^ B) (2 ^ A) W power more /\ 9223372036854775808 <= W:=by
 have hV:wv f 76 = wv f at' + f at' * 2 ^ (64 * at'):=by
  rw [wv_top (k:=at' + 1) (by omega) (fun j h1 h2=>htop j (by omega) h2),wv_succ]
 have hbl:b < 18446744073709551616:=by
  rw [hb];split
  ·omega
  ·exact hlt _ (by omega)
 have h64:(2:Nat) ^ B = 18446744073709551616:=by subst hB;rfl
 obtain ⟨Y,hY,hYl,hYz⟩:∃ Y,wv f at' * 18446744073709551616 = Y + b * 2 ^ (64 * at') /\ Y < 2 ^ (64 * at') /\ (Y ≠ 0 ↔ ∃ j,j + 1 < at' /\ f j ≠ 0):=by
  by_cases h0:at' = 0
  ·subst h0
   refine ⟨0,?_,by simp,?_⟩
   ·rw [hb];simp [wv]
   ·constructor
    ·intro h;omega
    ·rintro ⟨j,h1,_⟩;omega
  ·obtain ⟨k,rfl⟩:∃ k,at' = k + 1:=⟨at' - 1,by omega⟩
   rw [if_neg h0,Nat.add_sub_cancel] at hb
   have hk:=wv_lt (f:=f) (n:=k) (fun j hj=>hlt j (by omega))
   refine ⟨wv f k * 18446744073709551616,?_,?_,?_⟩
   ·rw [wv_succ,<- hb,pow_step,Nat.add_mul]
    congr 1
    ac_rfl
   ·rw [pow_step,Nat.mul_comm];exact Nat.mul_lt_mul_of_pos_left hk (by omega)
   ·have hz:=wv_zero_iff (f:=f) (n:=k)
    constructor
    ·intro h
     apply Classical.byContradiction
     intro hc
     apply h
     rw [hz.2 (fun j hj=>Classical.byContradiction fun hne=>hc ⟨j,by omega,hne⟩),Nat.zero_mul]
    ·rintro ⟨j,h1,h2⟩ h
     rcases Nat.mul_eq_zero.1 h with c | c
     ·exact h2 (hz.1 c j (by omega))
     ·omega
 have hVV:wv f 76 * 18446744073709551616 = Y + (f at' * 18446744073709551616 + b) * 2 ^ (64 * at'):=by
  rw [hV,Nat.add_mul,hY,Nat.add_mul]
  have:f at' * 2 ^ (64 * at') * 18446744073709551616 = f at' * 18446744073709551616 * 2 ^ (64 * at'):=by ac_rfl
  omega
 have hX:2 ^ (64 * at' + 64 - n) * 2 ^ n = 2 ^ (64 * at') * 18446744073709551616:=by
  rw [<- Nat.pow_add,show 64 * at' + 64 - n + n = 64 * at' + 64 by omega,Nat.pow_add]
 obtain ⟨r1,r2,r3,r4,r5⟩:=front_math hn hf0 hf1 hbl hVV hYl hX hW rfl
 obtain ⟨u,hu⟩:∃ u:Nat,u = 2000:=⟨_,rfl⟩
 obtain ⟨v,hv⟩:∃ v:Nat,v + n = 834 + 64 * at':=⟨834 + 64 * at' - n,by omega⟩
 refine ⟨⟨by omega,r2,2 ^ (64 * at' + 64 - n),u,v,Nat.two_pow_pos _,?_,by omega,by rw [h64];exact r3,by rw [h64];exact r4,?_⟩,r1⟩
 ·rw [<- Nat.pow_add,<- Nat.pow_add,show 64 * at' + 64 - n + u = A + v by omega]
 ·rw [h64,r5,hm,hYz]
def Good (lo hi:Nat) (bad:Bool):Prop:=bad = false /\ Fin lo /\ Fin hi /\ srung lo <= srung hi
instance (lo hi:Nat) (bad:Bool):Decidable (Good lo hi bad):=inferInstanceAs (Decidable (_ /\ _))
theorem srung_le (x y:Nat):srung x <= srung y ↔ fval x <= fval y:=by
 rw [fval_smag,fval_smag]
 constructor
 ·intro h
  rcases Int.lt_or_eq_of_le h with h | h
  ·rcases Int.lt_trichotomy (smag (srung x)) (smag (srung y)) with c | c | c
   ·omega
   ·omega
   ·have:=lt_of_smag c;omega
  ·rw [h];exact Int.le_refl _
 ·exact le_of_smag
def Canon (x:Nat):Prop:=x = sgnK (decide (srung x < 0)) (srung x).natAbs
theorem sgn_canon (neg:Bool) {k:Nat} (h:k < infK):Canon (sgnK neg k):=by
 unfold Canon
 rw [srung_sgn neg h]
 by_cases h0:k = 0
 ·subst h0;cases neg <;> rfl
 ·cases neg
  ·simp only [Bool.false_eq_true,if_false]
   rw [show decide ((k:Int) < 0) = false from decide_eq_false (by omega),Int.natAbs_natCast]
  ·simp only [if_true]
   rw [show decide (-(k:Int) < 0) = true from decide_eq_true (by omega),Int.natAbs_neg,Int.natAbs_natCast]
theorem rz_canon {d:Int} {V:Int} {D:Nat} {p:Nat × Bool} (h:RndZ d V D p):Fin p.1 /\ p.1 < 18446744073709551616 /\ Canon p.1:=by
 refine ⟨(tell_fin h).1,(tell_fin h).2,?_⟩
 obtain ⟨R,hR,rfl⟩:=h
 have h0:Canon 0:=by unfold Canon;decide
 have hi:0 < infK:=by decide
 unfold tellK
 split
 ·split
  ·exact sgn_canon _ (by assumption)
  ·exact h0
 ·split
  ·split
   ·exact sgn_canon _ (by assumption)
   ·exact h0
  ·split
   ·exact sgn_canon _ (by omega)
   ·exact h0
structure RndB (d V:Int) (D:Nat) (p:Nat × Bool):Prop where
 rnd:∃ q,RndZ d V D q /\ p.2 = q.2 /\ (p.2 = true -> p.1 = q.1)
 fin:Fin p.1
 lt:p.1 < 18446744073709551616
 can:Canon p.1
theorem RndZ.b {d V:Int} {D:Nat} {p:Nat × Bool} (h:RndZ d V D p):RndB d V D p:=
 ⟨⟨p,h,rfl,fun _=>rfl⟩,(rz_canon h).1,(rz_canon h).2.1,(rz_canon h).2.2⟩
def greater (x y:Nat):Nat:=if srung y <= srung x then x else y
def spOf (p q:Nat × Bool):Nat × Nat × Bool:=if p.2 = true /\ q.2 = true then (p.1,q.1,false) else (0,0,true)
theorem RndZ.exact {d:Int} {r:Nat} {p:Nat × Bool} (hr:r < 18446744073709551616) (hf:Fin r) (hd:d = 0 \/ d = 1 \/ d = 2) (h:RndZ d (fval r) 1 p):p = (plainM r,true):=
 canon_rnd (D:=1) hr hf (by decide) hd (by rw [show ((1:Nat):Int) = 1 from rfl,Int.mul_one];exact h)
theorem RndZ.plain {r:Nat} (d:Int) (hr:r < 18446744073709551616) (hf:Fin r) (hd:d = 0 \/ d = 1 \/ d = 2):RndZ d (fval r) 1 (plainM r,true):=by
 obtain ⟨R,hR⟩:=Fl.some (fval r).natAbs 1 (by decide)
 have h:RndZ d (fval r) 1 (tellK d (decide (fval r < 0)) (fval r).natAbs 1 R):=⟨R,hR,rfl⟩
 have:=h.exact hr hf hd
 rw [this] at h
 exact h
open Go.RowKit Go.Shelf
theorem alloc_size (w:World) (o:Obj):(w.alloc o).heap.size = w.heap.size + 1:=Array.size_push ..
theorem heap_at (w:World) (o:Obj) (B:Nat) (h:w.heap.size = B):(w.alloc o).heap[B]? = some o:=h ▸ heap_alloc_new w o
theorem blk_lt {w:World} {B:Nat} {o:Obj} (h:w.heap[B]? = some o):B < w.heap.size:=(Array.getElem?_eq_some_iff.1 h).1
theorem kept {X w1:World} {B:Nat} {o:Obj} (hb:Below X.heap.size X w1) (h:X.heap[B]? = some o):w1.heap[B]? = some o:=(hb.block B (blk_lt h)).trans h
theorem alloc_kept {w:World} {B:Nat} {o:Obj} (h:w.heap[B]? = some o) (o':Obj):(w.alloc o').heap[B]? = some o:=by rw [Below.heap_alloc w o' B (blk_lt h)];exact h
theorem to_call {w X w1:World} (h:Below w.heap.size w X) (hb:Below X.heap.size X w1):Below w.heap.size w w1:=h.trans (hb.mono h.size)
end Go.Proofs.YtmdjoaipkbnelaaGreat
