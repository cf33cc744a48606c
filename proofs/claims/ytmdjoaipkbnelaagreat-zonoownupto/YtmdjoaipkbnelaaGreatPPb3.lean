import Derived.Test.YtmdjoaipkbnelaaGreatPPb2
set_option maxRecDepth 100000
set_option maxHeartbeats 40000000
set_option linter.unusedVariables false
set_option linter.unusedSimpArgs false
namespace Go.Proofs.YtmdjoaipkbnelaaGreat
open Go.RowKit
def NumV (w:World) (v:Value) (neg:Bool) (m:Nat) (e:Int):Prop:=∃ ao len cap xs,v = .agg #[.bool neg,.slice ao len cap,.int .i64 e] /\ Rd4 w ao len cap xs /\ Nm xs /\ dig xs = m
theorem NumV.later {w w':World} {v:Value} {neg:Bool} {m:Nat} {e:Int} (h:NumV w v neg m e) (hb:Below w.heap.size w w'):NumV w' v neg m e:=by
 obtain ⟨ao,len,cap,xs,h1,h2,h3,h4⟩:=h
 exact ⟨ao,len,cap,xs,h1,h2.later hb,h3,h4⟩
theorem call_add64 (x y c:Nat) (hc:c <= 1) (w:World):(callFunc 99 #[.int .u64 x,.int .u64 y,.int .u64 c]).run Tryz.prog w = .ok (.value (.tuple #[.int .u64 (((x + y + c) % 18446744073709551616:Nat):Int),.int .u64 (((x + y + c) / 18446744073709551616:Nat):Int)])) w:=by
 rw [run_callFunc_extern Tryz.func99 (by kernel_rfl) (by kernel_rfl) (by kernel_rfl) (e:=add64Entry) (by kernel_rfl),run_add64 x y c (by omega) (by omega) (by omega) (by omega)]
 simp only [Result.andThen]
 congr 5 <;> omega
theorem turning_any (neg:Bool) (w:World):Calls Tryz.prog 98 #[.bool neg] w fun e w'=>∃ F c:Nat,e = .returned (.tuple #[.int .u64 (F:Int),.int .u64 (c:Int)]) /\ Trn neg F c /\ w' = w:=by
 cases neg
 ·go_enter Tryz.func98,Tryz.ntmps98
  go_wp2
  go_ret2
  exact ⟨0,0,rfl,.inl ⟨rfl,rfl,rfl⟩,rfl⟩
 ·go_enter Tryz.func98,Tryz.ntmps98
  go_wp2
  go_ret2
  exact ⟨18446744073709551615,1,rfl,.inr ⟨rfl,rfl,rfl⟩,rfl⟩
theorem xor_ones (y:Nat) (h:y < 18446744073709551616):y ^^^ 18446744073709551615 = 18446744073709551615 - y:=by
 apply Nat.eq_of_testBit_eq
 intro i
 rw [Nat.testBit_xor,show (18446744073709551615:Nat) = 2 ^ 64 - 1 by decide]
 by_cases hi:i < 64
 ·rw [Nat.testBit_two_pow_sub_one,show 2 ^ 64 - 1 - y = 2 ^ 64 - (y + 1) by omega,Nat.testBit_two_pow_sub_succ (by simpa using h)]
  simp [hi]
 ·have h1:y < 2 ^ i:=Nat.lt_of_lt_of_le h (by rw [show (18446744073709551616:Nat) = 2 ^ 64 by decide];exact Nat.pow_le_pow_right (by omega) (by omega))
  have h2:2 ^ 64 - 1 - y < 2 ^ i:=Nat.lt_of_lt_of_le (show 2 ^ 64 - 1 - y < 2 ^ 64 by omega) (Nat.pow_le_pow_right (by omega) (by omega))
  rw [Nat.testBit_two_pow_sub_one,Nat.testBit_lt_two_pow h1,Nat.testBit_lt_two_pow h2]
  simp [hi]
theorem Trn.xor {neg:Bool} {F c y:Nat} (h:Trn neg F c) (hy:y < 18446744073709551616):bits .xor .u64 (y:Int) (F:Int) = ((flp neg y:Nat):Int):=by
 rcases h with ⟨rfl,rfl,rfl⟩ | ⟨rfl,rfl,rfl⟩
 ·rw [u64_xor_nat y 0 hy (by decide),Nat.xor_zero];rfl
 ·rw [u64_xor_nat y 18446744073709551615 hy (by decide),xor_ones y hy];rfl
structure Wds (w:World) (B:Nat) (f:Nat -> Nat):Prop where
 cells:∀ j,j < 76 -> w.cell? ⟨B,j,none⟩ = some (.int .u64 (f j:Nat))
 frozen:∀ j,j < 76 -> w.frozen? ⟨B,j,none⟩ = false
 lt:∀ j,j < 76 -> f j < 18446744073709551616
structure Mut (B:Nat) (w w':World):Prop where
 below:Below B w w'
 other:∀ b,b < w.heap.size -> b ≠ B -> w'.heap[b]? = w.heap[b]?
 high:∀ j,76 <= j -> w'.cell? ⟨B,j,none⟩ = w.cell? ⟨B,j,none⟩
 froz:∀ j,w'.frozen? ⟨B,j,none⟩ = w.frozen? ⟨B,j,none⟩
 drawn:w.drawn <= w'.drawn
theorem Mut.refl (B:Nat) (w:World):Mut B w w:=⟨Below.refl _ _,fun _ _ _=>rfl,fun _ _=>rfl,fun _=>rfl,Nat.le_refl _⟩
theorem Mut.trans {B:Nat} {a b c:World} (h:Mut B a b) (k:Mut B b c):Mut B a c:=
 ⟨h.below.trans k.below,fun i hi hne=>(k.other i (Nat.lt_of_lt_of_le hi h.below.size) hne).trans (h.other i hi hne),fun j hj=>(k.high j hj).trans (h.high j hj),fun j=>(k.froz j).trans (h.froz j),Nat.le_trans h.drawn k.drawn⟩
theorem Mut.set {B:Nat} {a b:World} (h:Mut B a b) (j:Nat) (hj:j < 76) (v:Value):Mut B a (b.setCell ⟨B,j,none⟩ v):=
 h.trans ⟨(Below.refl B b).setCell (p:=⟨B,j,none⟩) (Nat.le_refl B) v,fun i hi hne=>heap_setCell_other _ _ _ _ hne,fun i hi=>World.cell?_setCell_other _ _ _ _ (fun e=>by have:=congrArg Addr.off e;simp at this;omega),fun i=>World.frozen?_setCell _ _ _ _,Nat.le_refl _⟩
theorem Mut.drew {B:Nat} {a b:World} (h:Mut B a b):Mut B a b.drew:=h.trans ⟨(Below.refl _ _).drew,fun _ _ _=>rfl,fun _ _=>rfl,fun _=>rfl,Nat.le_succ _⟩
theorem Wds.set {w:World} {B:Nat} {f:Nat -> Nat} (h:Wds w B f) (i v:Nat) (hv:v < 18446744073709551616) (hi:i < 76):Wds (w.setCell ⟨B,i,none⟩ (.int .u64 (v:Int))) B (upd f i v):=by
 refine ⟨fun j hj=>?_,fun j hj=>(World.frozen?_setCell _ _ _ _).trans (h.frozen j hj),fun j hj=>?_⟩
 ·by_cases e:j = i
  ·subst e;rw [upd_same];exact World.cell?_setCell_same _ _ _ (h.cells j hj)
  ·rw [upd_other e,World.cell?_setCell_other _ _ _ _ (fun c=>e (by have:=congrArg Addr.off c;first | simpa using this | simpa using this.symm))];exact h.cells j hj
 ·by_cases e:j = i
  ·subst e;rw [upd_same];exact hv
  ·rw [upd_other e];exact h.lt j hj
theorem Wds.drew {w:World} {B:Nat} {f:Nat -> Nat} (h:Wds w B f):Wds w.drew B f:=⟨h.cells,h.frozen,h.lt⟩
theorem pow0:(2:Nat) ^ (64 * 0) = 1:=by simp
theorem join_any (B C:Nat) (f g:Nat -> Nat) (neg:Bool) (w:World) (hf:Wds w B f) (hg:Wds w C g) :
  Calls Tryz.prog 71 #[.pointer (some ⟨B,0,none⟩),.pointer (some ⟨C,0,none⟩),.bool neg] w fun e w'=>e = .returned (.tuple #[]) /\ ∃ h c,Wds w' B h /\ Mut B w w' /\ wv h 76 + c * 2 ^ (64 * 76) = wv f 76 + wv (fun j=>flp neg (g j)) 76 + neg.toNat:=by
 have HF:Hid _:=hf
 have HG:Hid _:=hg
 clear hf hg
 go_enter Tryz.func71,Tryz.ntmps71
 go_wp2_with fail
 refine (turning_any neg _).mono ?_
 rintro e w1 ⟨F,c0,rfl,htr,rfl⟩
 have HT:Hid (Trn neg F c0):=htr
 have hc0:c0 <= 1:=by rcases htr with ⟨_,_,rfl⟩ | ⟨_,_,rfl⟩ <;> omega
 have HC0:Hid (c0 = neg.toNat):=by rcases htr with ⟨rfl,_,rfl⟩ | ⟨rfl,_,rfl⟩ <;> rfl
 clear htr
 go_wp2_with fail
 go_loopw [7,14] (fun cv iv wr=>∃ (k c:Nat) (h:Nat -> Nat),k <= 76 /\ iv = .int .i64 k /\ cv = .int .u64 c /\ c <= 1 /\ Hid (Wds wr B h) /\ Hid (∀ j,k <= j -> j < 76 -> h j = f j) /\ Hid (∀ j,k <= j -> j < 76 -> wr.cell? ⟨C,j,none⟩ = some (.int .u64 (g j:Nat))) /\ Hid (Mut B w1 wr) /\ Hid (wv h k + c * 2 ^ (64 * k) = wv f k + wv (fun j=>flp neg (g j)) k + c0)) (fun _ iv _=>76 - (intOf iv).toNat)
 case atStart=>exact ⟨0,c0,f,by omega,rfl,rfl,hc0,HF,fun _ _ _=>rfl,fun j _ hj=>HG.out.cells j hj,Mut.refl _ _,by unfold Hid;rw [pow0];simp [wv]⟩
 case round=>
  obtain ⟨k,c,h,hk,rfl,rfl,hc,H1,H2,H3,H4,H5⟩:=hrel
  by_cases hlt:k < 76
  ·have hd:decide ((k:Int) < 76) = true:=decide_eq_true (by omega)
   have g0:=H1.out.cells k hlt
   have g1:=H3.out k (Nat.le_refl _) hlt
   have g2:=H1.out.frozen k hlt
   have hx:=HT.out.xor (HG.out.lt k hlt)
   have hy:=flp_lt (neg:=neg) (HG.out.lt k hlt)
   obtain ⟨y,hyy⟩:∃ y,flp neg (g k) = y:=⟨_,rfl⟩
   obtain ⟨x,hxx⟩:∃ x,h k = x:=⟨_,rfl⟩
   rw [hyy] at hx hy
   rw [hxx] at g0
   have hadd:=call_add64 x y c hc
   have hxl:x < 18446744073709551616:=by rw [<- hxx];exact H1.out.lt k hlt
   have HYY:Hid _:=hyy
   have HXX:Hid _:=hxx
   clear hyy hxx
   generalize hs:(x + y + c) % 18446744073709551616 = s at hadd
   generalize hq:(x + y + c) / 18446744073709551616 = q at hadd
   have HS:Hid (s < 18446744073709551616 /\ q <= 1 /\ s + 18446744073709551616 * q = x + y + c):=by unfold Hid;omega
   clear hs hq
   have HW':Hid (Wds (wr.setCell ⟨B,k,none⟩ (.int .u64 (s:Int))).drew B (upd h k s)):=(H1.out.set k s HS.out.1 hlt).drew
   have HM':Hid (Mut B w1 (wr.setCell ⟨B,k,none⟩ (.int .u64 (s:Int))).drew):=(H4.out.set k hlt _).drew
   have H2':Hid (∀ j,k + 1 <= j -> j < 76 -> upd h k s j = f j):=fun j h1 h2=>by rw [upd_other (by omega)];exact H2.out j (by omega) h2
   have H3':Hid (∀ j,k + 1 <= j -> j < 76 -> (wr.setCell ⟨B,k,none⟩ (.int .u64 (s:Int))).drew.cell? ⟨C,j,none⟩ = some (.int .u64 (g j:Nat))):=fun j h1 h2=>by
    have:=H3.out j (by omega) h2
    rw [<- this]
    exact World.cell?_setCell_other _ _ _ _ (fun c=>by have:=congrArg Addr.off c;simp at this;omega)
   have H5':Hid (wv (upd h k s) (k + 1) + q * 2 ^ (64 * (k + 1)) = wv f (k + 1) + wv (fun j=>flp neg (g j)) (k + 1) + c0):=by
    refine add_step H5.out ?_
    rw [HS.out.2.2,<- HXX.out,<- HYY.out,H2.out k (Nat.le_refl _) hlt]
   have hq1:=HS.out.2.1
   go_wp2_with fail
   go_region
   go_wp2_with fail
   go_roundw
   case rel=>exact ⟨k + 1,q,upd h k s,by omega,by go_num,rfl,hq1,HW',H2',H3',HM',H5'⟩
   case measure=>simp [intOf];omega
  ·have hk76:k = 76:=by omega
   have hd:decide ((k:Int) < 76) = false:=decide_eq_false (by omega)
   go_wp2_with fail
   go_end0
   subst hk76
   exact ⟨rfl,h,c,H1.out,H4.out,by rw [<- HC0.out];exact H5.out⟩
def High (f:Nat -> Nat) (m r:Int):Prop:=r <= m /\ (0 <= r -> f r.toNat ≠ 0) /\ (∀ j:Nat,(j:Int) <= m -> r < j -> f j = 0) /\ (-1 <= r \/ r = m)
theorem highest_any (B:Nat) (f:Nat -> Nat) (m:Int) (hm0:-2 <= m) (hm1:m <= 75) (w:World) (hf:Wds w B f) :
  Calls Tryz.prog 86 #[.pointer (some ⟨B,0,none⟩),.int .i64 m] w fun e w'=>∃ r:Int,e = .returned (.int .i64 r) /\ High f m r /\ w' = w:=by
 have HF:Hid _:=hf
 clear hf
 go_enter Tryz.func86,Tryz.ntmps86
 go_wp2_with fail
 go_loopw [1] (fun iv wr=>∃ r:Int,iv = .int .i64 r /\ Hid (wr = w) /\ r <= m /\ (∀ j:Nat,(j:Int) <= m -> r < j -> f j = 0) /\ (-1 <= r \/ r = m)) (fun iv _=>(intOf iv + 3).toNat)
 case atStart=>exact ⟨m,rfl,(rfl:w = w),by omega,fun j h1 h2=>by omega,.inr rfl⟩
 case round=>
  obtain ⟨r,rfl,HE,h1,h2,h3⟩:=hrel
  by_cases hlt:0 <= r
  ·obtain ⟨k,rfl⟩:∃ k:Nat,r = (k:Int):=⟨r.toNat,by omega⟩
   have hk:k < 76:=by omega
   have hd:decide ((0:Int) <= (k:Int)) = true:=decide_eq_true hlt
   have g0:wr.cell? ⟨B,k,none⟩ = some (.int .u64 (f k:Nat)):=by rw [HE.out];exact HF.out.cells k hk
   by_cases hz:f k = 0
   ·rw [hz] at g0
    have H2:Hid (∀ j:Nat,(j:Int) <= m -> (k:Int) < j -> f j = 0):=h2
    clear h2
    go_wp2_with fail
    go_roundw
    case rel=>
     refine ⟨(k:Int) - 1,by go_num,HE,by omega,fun j j1 j2=>?_,by omega⟩
     by_cases e:j = k
     ·rw [e];exact hz
     ·exact H2.out j j1 (by omega)
    case measure=>simp [intOf];omega
   ·have hb:(((f k:Nat):Int) == 0) = false:=by rw [beq_eq_false_iff_ne];omega
    have HZ:Hid (f k ≠ 0):=hz
    have H2:Hid (∀ j:Nat,(j:Int) <= m -> (k:Int) < j -> f j = 0):=h2
    clear h2
    go_wp2_with fail
    go_ret
    exact ⟨(k:Int),rfl,⟨by omega,fun _=>HZ.out,H2.out,by omega⟩,HE.out⟩
  ·have hd:decide ((0:Int) <= r) = false:=decide_eq_false hlt
   have H2:Hid (∀ j:Nat,(j:Int) <= m -> r < j -> f j = 0):=h2
   clear h2
   go_wp2_with fail
   go_ret
   exact ⟨r,rfl,⟨by omega,fun c=>by omega,H2.out,by omega⟩,HE.out⟩
theorem signW_any (B:Nat) (f:Nat -> Nat) (z:Int) (w:World) (hf:Wds w B f) (hz:Tc f z) :
  Calls Tryz.prog 85 #[.pointer (some ⟨B,0,none⟩)] w fun e w'=>e = .returned (.int .i64 (sgi z)) /\ w' = w:=by
 have g0:=hf.cells 75 (by omega)
 have hneg:=hz.neg_iff
 have hzer:=hz.zero_iff
 have hlt:=hz.lt 75 (by omega)
 have HF:Hid _:=hf
 clear hf
 by_cases h0:z < 0
 ·have h1:=hneg.1 h0
  have hs:sgi z = -1:=by unfold sgi;rw [if_pos h0]
  have hw:IntKind.i64.wrap ((f 75:Nat):Int) = (f 75:Int) - 18446744073709551616:=by rw [IntKind.wrap_i64];omega
  have hd:decide ((f 75:Int) - 18446744073709551616 < 0) = true:=decide_eq_true (by omega)
  rw [hs]
  clear hneg hzer
  go_enter Tryz.func85,Tryz.ntmps85
  go_wp2_with fail
  go_ret
  exact ⟨rfl,rfl⟩
 ·have h1:f 75 < 9223372036854775808:=by
   rcases Nat.lt_or_ge (f 75) 9223372036854775808 with h | h
   ·exact h
   ·exact absurd (hneg.2 h) h0
  have hw:IntKind.i64.wrap ((f 75:Nat):Int) = (f 75:Int):=by rw [IntKind.wrap_i64];omega
  have hd:decide ((f 75:Int) < 0) = false:=decide_eq_false (by omega)
  have HZ:Hid _:=hzer
  clear hneg hzer
  go_enter Tryz.func85,Tryz.ntmps85
  go_wp2_with fail
  refine (highest_any B f 75 (by omega) (by omega) _ HF.out).mono ?_
  rintro e w1 ⟨r,rfl,hh,rfl⟩
  by_cases hr:r < 0
  ·have hdr:decide (r < 0) = true:=decide_eq_true hr
   have hz0:z = 0:=HZ.out.2 (fun j hj=>hh.2.2.1 j (by omega) (by omega))
   have HS:Hid (sgi z = 0):=by unfold Hid;rw [hz0];rfl
   clear hh
   go_wp2_with fail
   go_ret
   exact ⟨by rw [HS.out];rfl,rfl⟩
  ·have hdr:decide (r < 0) = false:=decide_eq_false hr
   have hz0:z ≠ 0:=fun c=>hh.2.1 (by omega) (HZ.out.1 c r.toNat (by have:=hh.1;omega))
   have HS:Hid (sgi z = 1):=by unfold Hid sgi;rw [if_neg (by omega),if_neg hz0]
   clear hh
   go_wp2_with fail
   go_ret
   exact ⟨by rw [HS.out];rfl,rfl⟩
theorem held_any (B:Nat) (f:Nat -> Nat) (z:Int) (w:World) (hf:Wds w B f) (hz:Tc f z) (b:Bool) (hb:b = true ↔ (-((2 ^ 4800:Nat):Int) < z /\ z < ((2 ^ 4800:Nat):Int))) :
  Calls Tryz.prog 100 #[.pointer (some ⟨B,0,none⟩)] w fun e w'=>e = .returned (.bool b) /\ w' = w:=by
 have g0:=hf.cells 75 (by omega)
 have hh:=hz.held_iff
 rw [<- hb] at hh
 have HF:Hid _:=hf
 clear hf hb hz
 by_cases h0:f 75 = 0
 ·obtain rfl:b = true:=hh.1 (.inl h0)
  rw [h0] at g0
  clear hh
  go_enter Tryz.func100,Tryz.ntmps100
  go_wp2_with fail
  go_ret
  exact ⟨rfl,rfl⟩
 ·by_cases h1:f 75 = 18446744073709551615
  ·rw [h1] at g0
   have HH:Hid _:=hh
   clear hh
   go_enter Tryz.func100,Tryz.ntmps100
   go_wp2_with fail
   refine (highest_any B f 74 (by omega) (by omega) _ HF.out).mono ?_
   rintro e w1 ⟨r,rfl,hr,rfl⟩
   have hbr:decide (0 <= r) = b:=by
    by_cases c:0 <= r
    ·have:b = true:=HH.out.1 (.inr ⟨h1,r.toNat,by have:=hr.1;omega,hr.2.1 c⟩)
     rw [this];exact decide_eq_true c
    ·have:¬ b = true:=fun hb=>by
      rcases HH.out.2 hb with h | ⟨_,j,hj,hne⟩
      ·exact h0 h
      ·exact hne (hr.2.2.1 j (by omega) (by omega))
     rw [decide_eq_false c]
     cases b
     ·rfl
     ·exact absurd rfl this
   clear hr
   go_wp2_with fail
   go_ret
   exact ⟨by first | rfl | (rw [<- hbr];rfl),rfl⟩
  ·have hb0:¬ b = true:=fun hb=>by
    rcases hh.2 hb with h | ⟨h,_⟩
    ·exact h0 h
    ·exact h1 h
   obtain rfl:b = false:=by
    cases b
    ·rfl
    ·exact absurd rfl hb0
   have e0:(((f 75:Nat):Int) == 0) = false:=by rw [beq_eq_false_iff_ne];omega
   have e1:(((f 75:Nat):Int) == 18446744073709551615) = false:=by rw [beq_eq_false_iff_ne];omega
   clear hh hb0
   go_enter Tryz.func100,Tryz.ntmps100
   go_wp2_with fail
   go_ret
   exact ⟨rfl,rfl⟩
theorem wrap_shl (a n:Nat):IntKind.u64.wrap ((a:Int) * 2 ^ n) = ((a * 2 ^ n % 18446744073709551616:Nat):Int):=by
 rw [IntKind.wrap_u64];simp
theorem div_cast (a n:Nat):(a:Int) / 2 ^ n = ((a / 2 ^ n:Nat):Int):=by simp
theorem put_step {f f1 g h:Nat -> Nat} {i c c' c0 v x y:Nat} (hi:wv h i + c * 2 ^ (64 * i) = wv f i + wv g i + c0) (hfx:f i = x) (hgy:g i = y) (hv:v + 18446744073709551616 * c' = x + y + c) (hf1:upd h i v = f1) :
  wv f1 (i + 1) + c' * 2 ^ (64 * (i + 1)) = wv f (i + 1) + wv g (i + 1) + c0:=by
 subst hf1 hfx hgy
 exact add_step hi hv
theorem put_any (B:Nat) (f:Nat -> Nat) (z:Int) (high low k n:Nat) (power:Int) (neg:Bool) (hk:k + 3 <= 76) (hn:n < 64) (hp:power + 2240 = 64 * k + n) (hl:low < 18446744073709551616) (hh:high < 18446744073709551616) (w:World) (hf:Wds w B f) (hz:Tc f z)
  (h1:-((2 ^ 4863:Nat):Int) <= z + sv neg ((high * 18446744073709551616 + low) * 2 ^ (64 * k + n))) (h2:z + sv neg ((high * 18446744073709551616 + low) * 2 ^ (64 * k + n)) < ((2 ^ 4863:Nat):Int)) :
  Calls Tryz.prog 82 #[.pointer (some ⟨B,0,none⟩),.int .u64 (high:Int),.int .u64 (low:Int),.int .i64 power,.bool neg] w fun e w'=>e = .returned (.tuple #[]) /\ ∃ h,Wds w' B h /\ Mut B w w' /\ Tc h (z + sv neg ((high * 18446744073709551616 + low) * 2 ^ (64 * k + n))):=by
 have HF:Hid _:=hf
 have HZ:Hid _:=hz
 have HB:Hid _:=And.intro h1 h2
 clear hf hz h1 h2
 obtain ⟨place,hpl⟩:∃ place:Nat,place = 64 * k + n:=⟨_,rfl⟩
 have e0:power - -2240 = (place:Int):=by omega
 have e1:(place:Int) / 64 = (k:Int):=by omega
 have e2:(place:Int) % 64 = (n:Int):=by omega
 have hpb:place < 5000:=by omega
 clear hp hpl
 go_enter Tryz.func82,Tryz.ntmps82
 go_wp2_with fail
 simp only [e2]
 refine (turning_any neg _).mono ?_
 rintro e w1 ⟨F,c0,rfl,htr,rfl⟩
 have HT:Hid (Trn neg F c0):=htr
 have hc0:c0 <= 1:=by rcases htr with ⟨_,_,rfl⟩ | ⟨_,_,rfl⟩ <;> omega
 clear htr
 have g0:=HF.out.cells k (by omega)
 have g1:=HF.out.frozen k (by omega)
 obtain ⟨x,hxx⟩:∃ x,f k = x:=⟨_,rfl⟩
 rw [hxx] at g0
 have i1:(k:Int) < 76:=by omega
 obtain ⟨p0,hp0⟩:∃ p0,pw0 low n = p0:=⟨_,rfl⟩
 have s0:=wrap_shl low n
 have hp0l:p0 < 18446744073709551616:=by rw [<- hp0];exact Nat.mod_lt _ (by omega)
 rw [show low * 2 ^ n % 18446744073709551616 = p0 from hp0] at s0
 have x0:=HT.out.xor hp0l
 have y0l:=flp_lt (neg:=neg) hp0l
 obtain ⟨y0,hy0⟩:∃ y0,flp neg p0 = y0:=⟨_,rfl⟩
 rw [hy0] at x0 y0l
 have a0:=call_add64 x y0 c0 hc0
 have HE0:Hid _:=And.intro hxx (And.intro hp0 hy0)
 have hxl:x < 18446744073709551616:=by rw [<- hxx];exact HF.out.lt k (by omega)
 clear hxx hp0 hy0
 generalize hs:(x + y0 + c0) % 18446744073709551616 = r0 at a0
 generalize hq:(x + y0 + c0) / 18446744073709551616 = c1 at a0
 have HS0:Hid (r0 < 18446744073709551616 /\ r0 + 18446744073709551616 * c1 = x + y0 + c0):=by unfold Hid;omega
 have hc1:c1 <= 1:=by omega
 clear hs hq
 have W1:Hid _:=(HF.out.set k r0 HS0.out.1 (by omega)).drew
 have M1:Hid _:=((Mut.refl B w1).set k (by omega) (.int .u64 (r0:Int))).drew
 go_wp2_with fail
 go_region
 go_wp2_with fail
 generalize (w1.setCell ⟨B,k,none⟩ (.int .u64 (r0:Int))).drew = w2 at W1 M1 ⊢
 obtain ⟨f1,hf1⟩:∃ f1,upd f k r0 = f1:=⟨_,rfl⟩
 rw [hf1] at W1
 have HF1:Hid _:=hf1
 clear hf1 g0 g1 a0 s0 x0 hxl
 have g0:=W1.out.cells (k + 1) (by omega)
 have g1:=W1.out.frozen (k + 1) (by omega)
 obtain ⟨x1,hxx⟩:∃ x1,f1 (k + 1) = x1:=⟨_,rfl⟩
 rw [hxx] at g0
 have i2:(k:Int) + 1 < 76:=by omega
 have i2w:IntKind.u64.wrap ((k:Int) + 1) = (k:Int) + 1:=by rw [IntKind.wrap_u64];omega
 have s0:=wrap_shl high n
 have s1:=div_cast low (64 - n)
 obtain ⟨b1,b2⟩:=(shift3 (high:=high) (low:=low) hn hl hh).2
 generalize hu:high * 2 ^ n % 18446744073709551616 = u1 at s0
 generalize hd:low / 2 ^ (64 - n) = d1 at s1
 have hul:u1 < 18446744073709551616:=by rw [<- hu];exact Nat.mod_lt _ (by omega)
 have hdl:d1 < 18446744073709551616:=by rw [<- hd];exact Nat.lt_of_le_of_lt (Nat.div_le_self _ _) hl
 have s2:=u64_or_nat u1 d1 hul hdl
 obtain ⟨p1,hp1⟩:∃ p1,u1 ||| d1 = p1:=⟨_,rfl⟩
 rw [hp1] at s2
 have HP1:Hid (pw1 high low n = p1):=by unfold Hid pw1;rw [hu,hd,hp1]
 have hp1l:p1 < 18446744073709551616:=by rw [<- HP1.out];exact b1
 clear hu hd hp1 hul hdl
 have x0:=HT.out.xor hp1l
 have y1l:=flp_lt (neg:=neg) hp1l
 obtain ⟨y1,hy1⟩:∃ y1,flp neg p1 = y1:=⟨_,rfl⟩
 rw [hy1] at x0 y1l
 have a0:=call_add64 x1 y1 c1 hc1
 have HE1:Hid _:=And.intro hxx hy1
 have hxl:x1 < 18446744073709551616:=by rw [<- hxx];exact W1.out.lt (k + 1) (by omega)
 clear hxx hy1
 generalize hs:(x1 + y1 + c1) % 18446744073709551616 = r1 at a0
 generalize hq:(x1 + y1 + c1) / 18446744073709551616 = c2 at a0
 have HS1:Hid (r1 < 18446744073709551616 /\ r1 + 18446744073709551616 * c2 = x1 + y1 + c1):=by unfold Hid;omega
 have hc2:c2 <= 1:=by omega
 clear hs hq
 have W2:Hid _:=(W1.out.set (k + 1) r1 HS1.out.1 (by omega)).drew
 have M2:Hid _:=(M1.out.set (k + 1) (by omega) (.int .u64 (r1:Int))).drew
 go_wp2_with fail
 go_region
 go_wp2_with fail
 generalize (w2.setCell ⟨B,k + 1,none⟩ (.int .u64 (r1:Int))).drew = w3 at W2 M2 ⊢
 obtain ⟨f2,hf2⟩:∃ f2,upd f1 (k + 1) r1 = f2:=⟨_,rfl⟩
 rw [hf2] at W2
 have HF2:Hid _:=hf2
 clear hf2 g0 g1 a0 s0 s1 s2 x0 hxl W1 M1
 have g0:=W2.out.cells (k + 2) (by omega)
 have g1:=W2.out.frozen (k + 2) (by omega)
 obtain ⟨x2,hxx⟩:∃ x2,f2 (k + 2) = x2:=⟨_,rfl⟩
 rw [hxx] at g0
 have i3:(k:Int) + 2 < 76:=by omega
 have i3w:IntKind.u64.wrap ((k:Int) + 2) = (k:Int) + 2:=by rw [IntKind.wrap_u64];omega
 have s1:=div_cast high (64 - n)
 generalize hd:high / 2 ^ (64 - n) = p2 at s1
 have HP2:Hid (pw2 high n = p2):=hd
 have hp2l:p2 < 18446744073709551616:=by rw [<- HP2.out];exact b2
 clear hd b1 b2
 have x0:=HT.out.xor hp2l
 have y2l:=flp_lt (neg:=neg) hp2l
 obtain ⟨y2,hy2⟩:∃ y2,flp neg p2 = y2:=⟨_,rfl⟩
 rw [hy2] at x0 y2l
 have a0:=call_add64 x2 y2 c2 hc2
 have HE2:Hid _:=And.intro hxx hy2
 have hxl:x2 < 18446744073709551616:=by rw [<- hxx];exact W2.out.lt (k + 2) (by omega)
 clear hxx hy2
 generalize hs:(x2 + y2 + c2) % 18446744073709551616 = r2 at a0
 generalize hq:(x2 + y2 + c2) / 18446744073709551616 = c3 at a0
 have HS2:Hid (r2 < 18446744073709551616 /\ r2 + 18446744073709551616 * c3 = x2 + y2 + c2):=by unfold Hid;omega
 have hc3:c3 <= 1:=by omega
 clear hs hq
 have W3:Hid _:=(W2.out.set (k + 2) r2 HS2.out.1 (by omega)).drew
 have M3:Hid _:=(M2.out.set (k + 2) (by omega) (.int .u64 (r2:Int))).drew
 go_wp2_with fail
 go_region
 generalize (w3.setCell ⟨B,k + 2,none⟩ (.int .u64 (r2:Int))).drew = w4 at W3 M3 ⊢
 obtain ⟨f3,hf3⟩:∃ f3,upd f2 (k + 2) r2 = f3:=⟨_,rfl⟩
 rw [hf3] at W3
 have HF3:Hid _:=hf3
 clear hf3 g0 g1 a0 s1 x0 hxl W2 M2
 obtain ⟨g,hg⟩:∃ g,ptw k y0 y1 y2 F = g:=⟨_,rfl⟩
 have HG:Hid _:=hg
 obtain ⟨gk,gk1,gk2,gk3⟩:=ptw_at k y0 y1 y2 F
 rw [hg] at gk gk1 gk2 gk3
 have hlow:wv g k = 0:=by rw [<- hg];exact ptw_low ..
 have st0:wv f k + c0 * 2 ^ (64 * k) = wv f k + wv g k + c0 * 2 ^ (64 * k):=by rw [hlow];omega
 have st1:=put_step st0 HE0.out.1 gk HS0.out.2 HF1.out
 have st2:=put_step st1 (show f (k + 1) = x1 by rw [<- HE1.out.1,<- HF1.out,upd_other (by omega)]) gk1 HS1.out.2 HF2.out
 have st3:=put_step st2 (show f (k + 2) = x2 by rw [<- HE2.out.1,<- HF2.out,upd_other (by omega),<- HF1.out,upd_other (by omega)]) gk2 HS2.out.2 HF3.out
 have HST:Hid _:=st3
 have HG3:Hid _:=gk3
 have HU:Hid (∀ j,k + 3 <= j -> f3 j = f j):=fun j hj=>by rw [<- HF3.out,upd_other (by omega),<- HF2.out,upd_other (by omega),<- HF1.out,upd_other (by omega)]
 have HY:Hid (g = ptw k (flp neg (pw0 low n)) (flp neg (pw1 high low n)) (flp neg (pw2 high n)) F):=by unfold Hid;rw [HE0.out.2.1,HP1.out,HP2.out,HE0.out.2.2,HE1.out.2,HE2.out.2,hg]
 clear st0 st1 st2 st3 gk gk1 gk2 gk3 hlow hg
 go_wp2_with fail
 obtain ⟨t,ht⟩:∃ t,t = F % 2:=⟨_,rfl⟩
 have hFl:F < 18446744073709551616:=by rcases HT.out with ⟨_,h,_⟩ | ⟨_,h,_⟩ <;> omega
 have ha:bits .and .u64 (F:Int) 1 = (t:Int):=by
  have:=u64_and_nat F 1 hFl (by omega)
  rw [Nat.and_one_is_mod,<- ht] at this
  exact this
 have HT2:Hid (∀ c,c <= 1 -> c = t -> (F = 0 /\ c = 0) \/ (F = 18446744073709551615 /\ c = 1)):=by
  intro c h1 h2
  rcases HT.out with ⟨_,h,_⟩ | ⟨_,h,_⟩
  ·left;subst h;omega
  ·right;subst h;omega
 clear ht
 have HFIN:Hid (∀ h c,(∀ j,j < 76 -> h j < 18446744073709551616) -> wv h 76 + c * 2 ^ (64 * 76) = wv f 76 + wv g 76 + c0 * 2 ^ (64 * k) -> Tc h (z + sv neg ((high * 18446744073709551616 + low) * 2 ^ (64 * k + n)))):=by
  intro h c hlt hs
  rw [HY.out] at hs
  exact put_tc HZ.out hk hn hl hh HT.out hlt hs HB.out.1 HB.out.2
 clear e0 e1 e2 hpb i1 i2 i2w i3 i3w hl hh y0l y1l y2l hp0l hp1l hp2l
 go_loopw [14,15] (fun cv iv wr=>∃ (i c:Nat) (h:Nat -> Nat),k + 3 <= i /\ i <= 76 /\ iv = .int .u64 i /\ cv = .int .u64 c /\ c <= 1 /\ Hid (Wds wr B h) /\ Hid (∀ j,i <= j -> j < 76 -> h j = f j) /\ Hid (Mut B w1 wr) /\ Hid (wv h i + c * 2 ^ (64 * i) = wv f i + wv g i + c0 * 2 ^ (64 * k))) (fun _ iv _=>76 - (intOf iv).toNat)
 case atStart=>exact ⟨k + 3,c3,f3,by omega,by omega,by go_num,rfl,hc3,W3,fun j h1 h2=>HU.out j h1,M3,HST⟩
 case round=>
  obtain ⟨i,c,h,hi0,hi1,rfl,rfl,hc,H1,H2,H3,H4⟩:=hrel
  by_cases hlt:i < 76
  ·by_cases hct:c = t
   ·have hd:decide ((i:Int) <= 75) = true:=decide_eq_true (by omega)
    have HX:Hid (wv h 76 + c * 2 ^ (64 * 76) = wv f 76 + wv g 76 + c0 * 2 ^ (64 * k)):=add_rest' 76 H4.out (HT2.out c hc hct) hi1 (fun j h1 _=>HG3.out j (by omega)) (fun j h1 h2=>H2.out j h1 h2)
    have hne:((c:Int) != (t:Int)) = false:=by rw [hct];simp
    clear hct
    go_wp2_with fail
    go_end0
    exact ⟨rfl,h,H1.out,H3.out,HFIN.out h c H1.out.lt HX.out⟩
   ·have hd:decide ((i:Int) <= 75) = true:=decide_eq_true (by omega)
    have hne:((c:Int) != (t:Int)) = true:=by simp;omega
    have g0:=H1.out.cells i hlt
    have g1:=H1.out.frozen i hlt
    obtain ⟨x,hxx⟩:∃ x,h i = x:=⟨_,rfl⟩
    rw [hxx] at g0
    have a0:=call_add64 x F c hc
    have hxl:x < 18446744073709551616:=by rw [<- hxx];exact H1.out.lt i hlt
    generalize hs:(x + F + c) % 18446744073709551616 = r at a0
    generalize hq:(x + F + c) / 18446744073709551616 = c' at a0
    have HS:Hid (r < 18446744073709551616 /\ r + 18446744073709551616 * c' = x + F + c):=by unfold Hid;omega
    have hc':c' <= 1:=by omega
    have H1':Hid _:=(H1.out.set i r HS.out.1 hlt).drew
    have H3':Hid _:=(H3.out.set i hlt (.int .u64 (r:Int))).drew
    have H2':Hid (∀ j,i + 1 <= j -> j < 76 -> upd h i r j = f j):=fun j h1 h2=>by rw [upd_other (by omega)];exact H2.out j (by omega) h2
    have H4':Hid (wv (upd h i r) (i + 1) + c' * 2 ^ (64 * (i + 1)) = wv f (i + 1) + wv g (i + 1) + c0 * 2 ^ (64 * k)):=put_step H4.out (show f i = x by rw [<- hxx];exact (H2.out i (Nat.le_refl _) hlt).symm) (HG3.out i (by omega)) HS.out.2 rfl
    clear hs hq hxx hct
    go_wp2_with fail
    go_region
    go_wp2_with fail
    go_roundw
    case rel=>exact ⟨i + 1,c',upd h i r,by omega,by omega,by go_num,rfl,hc',H1',H2',H3',H4'⟩
    case measure=>simp [intOf];omega
  ·have hk76:i = 76:=by omega
   subst hk76
   go_wp2_with fail
   go_end0
   exact ⟨rfl,h,H1.out,H3.out,HFIN.out h c H1.out.lt H4.out⟩
def moreR (d:Int) (neg rest:Bool) (h:Nat):Bool:=(d == 0 && decide (h % 2 = 1) && (rest || decide (h / 2 % 2 = 1))) || (((d == 1 && !neg) || (d == 2 && neg)) && (decide (h % 2 = 1) || rest))
theorem odd_bit (h:Nat) (hh:h < 18446744073709551616):(bits .and .u64 (h:Int) 1 == 1) = decide (h % 2 = 1):=by
 have k:=u64_and_nat h 1 hh (by decide)
 rw [show ((1:Nat):Int) = 1 from rfl] at k
 rw [k,Nat.and_one_is_mod]
 by_cases ho:h % 2 = 1
 ·rw [ho];rfl
 ·have:h % 2 = 0:=by omega
  rw [this];rfl
def oppD (d:Int):Int:=if d = 1 then 2 else if d = 2 then 1 else d
theorem opposite_any (d:Int) (w:World):Calls Tryz.prog 89 #[.int .i64 d] w fun e w'=>e = .returned (.int .i64 (oppD d)) /\ w' = w:=by
 by_cases h1:d = 1
 ·subst h1
  go_enter Tryz.func89,Tryz.ntmps89
  go_wp2
  go_ret
  exact ⟨rfl,rfl⟩
 ·by_cases h2:d = 2
  ·subst h2
   go_enter Tryz.func89,Tryz.ntmps89
   go_wp2
   go_ret
   exact ⟨rfl,rfl⟩
  ·have HO:Hid (oppD d = d):=by unfold Hid oppD;rw [if_neg h1,if_neg h2]
   go_enter Tryz.func89,Tryz.ntmps89
   go_wp2
   go_ret
   exact ⟨by rw [HO.out];first | rfl | simp [h1,h2],rfl⟩
theorem bitLen_log:∀ (f x:Nat),x < 2 ^ f -> x ≠ 0 -> ∃ L,Lib.bitLenAux f x = L + 1 /\ 2 ^ L <= x /\ x < 2 ^ (L + 1)
 | 0,x,h,h0=>by simp at h;omega
 | f + 1,x,h,h0=>by
  unfold Lib.bitLenAux
  rw [if_neg h0]
  by_cases h1:x / 2 = 0
  ·refine ⟨0,?_,by simp;omega,by simp;omega⟩
   rw [h1]
   cases f <;> simp [Lib.bitLenAux]
  ·obtain ⟨L,e,a,b⟩:=bitLen_log f (x / 2) (by rw [Nat.pow_succ] at h;omega) h1
   refine ⟨L + 1,by omega,?_,?_⟩
   ·rw [Nat.pow_succ];omega
   ·rw [Nat.pow_succ];omega
theorem bitLen_spec {x:Nat} (h:x < 18446744073709551616) (h0:x ≠ 0):∃ L,Lib.bitLen x = L + 1 /\ 2 ^ L <= x /\ x < 2 ^ (L + 1) /\ L < 64:=by
 obtain ⟨L,e,a,b⟩:=bitLen_log 64 x h h0
 refine ⟨L,e,a,b,?_⟩
 apply Classical.byContradiction
 intro c
 have:=Nat.pow_le_pow_right (n:=2) (by omega) (show 64 <= L by omega)
 omega
theorem len64_any (x L:Nat) (hx:x < 18446744073709551616) (hL:Lib.bitLen x = L + 1) (w:World):Calls Tryz.prog 88 #[.int .u64 (x:Int)] w fun e w'=>e = .returned (.int .i64 ((L:Int) + 1)) /\ w' = w:=by
 have h:=Tryz.bits_Len64 (x:Int) w (by omega) (by omega)
 rw [Int.toNat_natCast,hL] at h
 exact h
theorem zeros64_any (x L:Nat) (hx:x < 18446744073709551616) (hL:Lib.bitLen x = L + 1) (w:World):Calls Tryz.prog 87 #[.int .u64 (x:Int)] w fun e w'=>e = .returned (.int .i64 (63 - (L:Int))) /\ w' = w:=by
 have h:=Tryz.bits_LeadingZeros64 (x:Int) w (by omega) (by omega)
 rw [Int.toNat_natCast,hL,show (64:Int) - ((L + 1:Nat):Int) = 63 - L by omega] at h
 exact h
theorem mask_low (x m:Nat) (hx:x < 18446744073709551616) (hm:m < 64):bits .and .u64 (x:Int) (IntKind.u64.wrap (IntKind.u64.wrap (2 ^ m) - 1)) = ((x % 2 ^ m:Nat):Int):=by
 have hp:(2:Nat) ^ m < 18446744073709551616:=by
  have:=Nat.pow_lt_pow_right (a:=2) (by omega) hm
  exact this
 have hpp:=Nat.two_pow_pos m
 have e1:IntKind.u64.wrap (2 ^ m) = ((2 ^ m:Nat):Int):=by
  rw [IntKind.wrap_u64,show (2:Int) ^ m = ((2 ^ m:Nat):Int) by simp];omega
 have e2:IntKind.u64.wrap (((2 ^ m:Nat):Int) - 1) = ((2 ^ m - 1:Nat):Int):=by rw [IntKind.wrap_u64];omega
 rw [e1,e2,u64_and_nat x (2 ^ m - 1) hx (by omega),Nat.and_two_pow_sub_one_eq_mod]
theorem ne_zero_cast (x:Nat):(((x:Nat):Int) != 0) = decide (x ≠ 0):=by
 by_cases h:x = 0
 ·subst h;rfl
 ·have:((x:Int) != 0) = true:=by simp;omega
  rw [this];simp [h]
theorem mask_all (x:Nat) (hx:x < 18446744073709551616) (h0:x ≠ 0):(bits .and .u64 (x:Int) (IntKind.u64.wrap (IntKind.u64.wrap 18446744073709551616 - 1)) != 0) = true:=by
 have e1:IntKind.u64.wrap (IntKind.u64.wrap 18446744073709551616 - 1) = ((2 ^ 64 - 1:Nat):Int):=by rw [IntKind.wrap_u64,IntKind.wrap_u64];rfl
 rw [e1,u64_and_nat x (2 ^ 64 - 1) hx (by decide),Nat.and_two_pow_sub_one_eq_mod,Nat.mod_eq_of_lt hx,ne_zero_cast]
 exact decide_eq_true h0
theorem ldexp_whole (Q e:Nat) (n:Int) (hQ:Q <= 9007199254740992) (hf:e = 0 \/ 4503599627370496 <= Q) (he:n = (e:Int) - 1074) (hn:-1000000 <= n /\ n <= 1000000):∃ x,FloatKind.f64.nearest (Q:Int) = x ∧
  ∀ w,Calls Tryz.prog 90 #[.float .f64 x,.int .i64 n] w fun e' w'=>e' = .returned (.float .f64 (Ieee.double.word false (min (e * 4503599627370496 + Q) infK))) /\ w' = w:=by
 obtain ⟨k,hk,hki,hm⟩:=nearest_small hQ
 have e1:FloatKind.f64.nearest (Q:Int) = Ieee.double.nearest false Q 0:=by
  unfold FloatKind.nearest FloatKind.encode
  rw [f64_fmt,show decide ((Q:Int) < 0) = false from decide_eq_false (by omega),Int.natAbs_natCast];rfl
 obtain ⟨w1,w2,w3⟩:=word_rung false (Nat.lt_trans hki inf_lt_word)
 obtain ⟨r,h1,h2,h3,h4⟩:=ldexp_any (Ieee.double.word false k) n w3 hn (by rw [w1];omega)
 refine ⟨Ieee.double.word false k,by rw [e1,hk],fun w=>?_⟩
 have:=pow_small_whole hki hm hQ hf he (h1 (by unfold Fin;rw [w1];exact hki))
 rw [<- this]
 exact h4 w
theorem gt_max (K:Nat):(Ieee.double.order (Ieee.double.word false (min K infK)) 9218868437227405311 == some .gt) = decide (infK <= K):=by
 have hm:min K infK <= infK:=Nat.min_le_right _ _
 obtain ⟨w1,w2,w3⟩:=word_rung false (show min K infK < 9223372036854775808 from Nat.lt_of_le_of_lt hm (by decide))
 rw [ord_gt (by rw [w1];exact hm) (by decide)]
 have e1:srung (Ieee.double.word false (min K infK)) = (min K infK:Nat):=by unfold srung;rw [w1,w2];simp
 have e2:srung 9218868437227405311 = 9218868437227405311:=by decide
 rw [e1,e2]
 have:infK = 9218868437227405312:=rfl
 rw [this] at *
 by_cases h:9218868437227405312 <= K
 ·rw [decide_eq_true h];exact decide_eq_true (by omega)
 ·rw [decide_eq_false h];exact decide_eq_false (by omega)
theorem odd_cases (a b:Bool) (k:Nat):a = false \/ (a = true /\ b = true) \/ (a = true /\ b = false /\ k % 2 = 1) \/ (a = true /\ b = false /\ ¬ k % 2 = 1):=by
 by_cases h:k % 2 = 1 <;> cases a <;> cases b <;> simp [h]
theorem or_cases (a b:Bool):a = true \/ (a = false /\ b = true) \/ (a = false /\ b = false):=by cases a <;> cases b <;> simp
theorem told_frt (d:Int) (neg:Bool) (whole:Nat) (power:Int) (more:Bool) (N D:Nat) (h:Frt N D whole power more) (hD:0 < D) (hpw:-50000 <= power /\ power <= 50000) (w:World) :
  Calls Tryz.prog 62 #[.int .i64 d,.bool neg,.int .u64 (whole:Int),.int .i64 power,.bool more] w fun e w'=>∃ u b,e = .returned (.tuple #[.float .f64 u,.bool b]) /\ Rnd d neg N D (u,b) /\ w' = w.drew:=by
 have hwl:=h.lt
 have hwb:=h.big
 obtain ⟨L,hL,hL1,hL2,hL3⟩:=bitLen_spec hwl (by omega)
 have hL4:53 <= L:=by
  apply Classical.byContradiction
  intro c
  have:=Nat.pow_le_pow_right (n:=2) (by omega) (show L + 1 <= 53 by omega)
  omega
 obtain ⟨drop,hdrop⟩:∃ drop:Nat,(drop:Int) = max (max ((L:Int) + 1 - 53) (-1074 - power)) 1:=⟨(max (max ((L:Int) + 1 - 53) (-1074 - power)) 1).toNat,by omega⟩
 have HL:Hid _:=hL
 have HW:Hid _:=And.intro hL1 hL2
 have HH:Hid _:=h
 clear hL hL1 hL2 h
 go_enter Tryz.func62,Tryz.ntmps62
 go_upto_region 1 with fail
 go_cut [12] (fun v wx=>v = .int .i64 (drop:Int) /\ wx = w)
 case first=>
  go_wp2_with (go_at_call 88;refine (len64_any whole L hwl HL.out _).mono ?_;rintro e w1 ⟨rfl,rfl⟩)
  all_goals
   go_meet
   exact ⟨by rw [hdrop];congr 1;omega,rfl⟩
 case rest=>
 obtain ⟨rfl,rfl⟩:=hcut
 have hdp:1 <= drop:=by omega
 have hdr1:drop <= 60000:=by omega
 have HDR:Hid _:=hdrop
 clear hdrop
 obtain ⟨kp,hkp⟩:∃ kp,whole / 2 ^ drop = kp:=⟨_,rfl⟩
 obtain ⟨hv,hhv⟩:∃ hv,whole / 2 ^ (drop - 1) = hv:=⟨_,rfl⟩
 have hvl:hv < 18446744073709551616:=by rw [<- hhv];exact Nat.lt_of_le_of_lt (Nat.div_le_self _ _) hwl
 have hb:=odd_bit hv hvl
 have sK:=div_cast whole drop
 have sH:=div_cast whole (drop - 1)
 rw [hkp] at sK
 rw [hhv] at sH
 obtain ⟨hf,hhf⟩:∃ hf,decide (hv % 2 = 1) = hf:=⟨_,rfl⟩
 rw [hhf] at hb
 have HK:Hid _:=And.intro hkp (And.intro hhv hhf)
 clear hkp hhv hhf
 have HBIG:Hid (64 <= drop -> kp = 0):=by
  intro c
  rw [<- HK.out.1]
  exact Nat.div_eq_of_lt (Nat.lt_of_lt_of_le hwl (by have:=Nat.pow_le_pow_right (n:=2) (by omega) c;omega))
 have HBIG2:Hid (65 <= drop -> hv = 0):=by
  intro c
  rw [<- HK.out.2.1]
  exact Nat.div_eq_of_lt (Nat.lt_of_lt_of_le hwl (by have:=Nat.pow_le_pow_right (n:=2) (by omega) (show 64 <= drop - 1 by omega);omega))
 go_upto_region 2 with fail
 go_cut [13,14] (fun v13 v14 wx=>v13 = .int .u64 (kp:Int) /\ v14 = .bool hf /\ wx = wc.drew)
 case first=>
  by_cases hd64:drop < 64
  ·go_region
   go_wp2_with fail
   go_meet
   exact ⟨rfl,rfl,rfl⟩
  ·by_cases hd65:drop = 64
   ·subst hd65
    have k0:=HBIG.out (by omega)
    subst k0
    have sH':(whole:Int) / 9223372036854775808 = (hv:Int):=sH
    have z0:(whole:Int) / 18446744073709551616 = 0:=by omega
    go_region
    go_wp2_with fail
    go_meet
    exact ⟨rfl,rfl,rfl⟩
   ·have k0:=HBIG.out (by omega)
    have k1:=HBIG2.out (by omega)
    subst k0 k1
    have z0:(whole:Int) / 18446744073709551616 = 0:=by omega
    clear sK sH HK HBIG HBIG2
    obtain ⟨d',hd'⟩:∃ d',drop = d' + 1:=⟨drop - 1,by omega⟩
    have hd64':64 <= d':=by omega
    have e1:(drop:Int) - 1 = (d':Int):=by omega
    have e2:IntKind.i64.wrap ((drop:Int) - 1) = (d':Int):=by rw [IntKind.wrap_i64];omega
    clear hd'
    go_region
    go_wp2_with fail
    go_meet
    exact ⟨by rw [Nat.min_eq_right (show 64 <= drop by omega)];exact congrArg (Value.int .u64) z0,by rw [<- hb];rfl,rfl⟩
 case rest=>
 obtain ⟨rfl,rfl,rfl⟩:=hcut
 clear hb sK sH
 obtain ⟨rs,hrs⟩:∃ rs,(more || decide (whole % 2 ^ (drop - 1) ≠ 0)) = rs:=⟨_,rfl⟩
 go_upto_region 3 with fail
 go_cut [4] (fun v4 wx=>v4 = .bool rs /\ wx = wc.drew)
 case first=>
  cases more
  ·rw [Bool.false_or] at hrs
   by_cases hd64:drop <= 64
   ·have HX:Hid ((bits .and .u64 (whole:Int) (IntKind.u64.wrap (IntKind.u64.wrap (2 ^ (drop - 1)) - 1)) != 0) = rs):=by
     unfold Hid
     rw [mask_low whole (drop - 1) hwl (by omega),ne_zero_cast];exact hrs
    clear hrs
    go_wp2_with fail
    go_meet
    exact ⟨congrArg Value.bool HX.out,rfl⟩
   ·have h0:whole % 2 ^ (drop - 1) = whole:=Nat.mod_eq_of_lt (Nat.lt_of_lt_of_le hwl (by have:=Nat.pow_le_pow_right (n:=2) (by omega) (show 64 <= drop - 1 by omega);omega))
    obtain ⟨d',hd'⟩:∃ d',drop = d' + 1:=⟨drop - 1,by omega⟩
    have hd64':64 <= d':=by omega
    have e1:(drop:Int) - 1 = (d':Int):=by omega
    have HX:Hid (rs = true):=by unfold Hid;rw [<- hrs,h0];exact decide_eq_true (by omega)
    clear hd' hrs h0
    have HY:Hid _:=mask_all whole hwl (by omega)
    go_wp2_with fail
    go_meet
    exact ⟨by rw [HX.out];exact congrArg Value.bool HY.out,rfl⟩
  ·rw [Bool.true_or] at hrs
   subst hrs
   go_wp2_with fail
   go_meet
   exact ⟨rfl,rfl⟩
 case rest=>
 obtain ⟨rfl,rfl⟩:=hcut
 by_cases hd:d = 0 \/ d = 1 \/ d = 2
 ·have hD2:=HDR.out
  obtain ⟨e,he⟩:∃ e:Nat,(e:Int) = power + drop + 1074:=⟨(power + drop + 1074).toNat,by omega⟩
  have hlo:e = 0 \/ 2 ^ (drop + 52) <= whole:=by
   by_cases c:e = 0
   ·exact .inl c
   ·right
    have:=Nat.pow_le_pow_right (n:=2) (by omega) (show drop + 52 <= L by omega)
    have:=HW.out.1
    omega
  have hhi:whole < 2 ^ (drop + 53):=by
   have:=Nat.pow_le_pow_right (n:=2) (by omega) (show L + 1 <= drop + 53 by omega)
   have:=HW.out.2
   omega
  obtain ⟨t1,t2,t3,t4⟩:=HH.out.tells hD neg hd hdp he hlo hhi
  rw [HK.out.2.1,HK.out.1] at t2
  rw [HK.out.2.1,hrs,t2] at t1
  rw [HK.out.1] at t3 t4
  obtain ⟨Q,hQ⟩:∃ Q,kp + (incB d neg hv rs).toNat = Q:=⟨_,rfl⟩
  rw [hQ] at t1
  have hq1:Q <= 9007199254740992:=by have:=Bool.toNat_le (incB d neg hv rs);omega
  have hq2:e = 0 \/ 4503599627370496 <= Q:=by omega
  obtain ⟨x,hx,hld⟩:=ldexp_whole Q e (power + drop) hq1 hq2 (by omega) (by omega)
  have hgt:=gt_max (e * 4503599627370496 + Q)
  have hpd:-60000 <= power + drop /\ power + drop <= 120000:=by omega
  have hkb:=odd_bit kp (by omega)
  have hvk:hv / 2 = kp:=t2
  have hhf:=HK.out.2.2
  obtain ⟨K,hK⟩:∃ K,e * 4503599627370496 + Q = K:=⟨_,rfl⟩
  rw [hK] at t1 hgt hld
  have T1:Hid _:=t1
  have HLD:Hid _:=hld
  have hcv:∀ w,(convert 72 45 (.int .u64 (Q:Int))).run Tryz.prog w = .ok (.float .f64 x) w:=fun w=>by rw [<- hx];kernel_rfl
  obtain ⟨r,hr⟩:∃ r,Ieee.double.word false (min K infK) = r:=⟨_,rfl⟩
  rw [hr] at hgt HLD
  have hgt':(FloatKind.f64.format.order r 9218868437227405311 == some .gt) = decide (infK <= K):=hgt
  clear hgt t1 hld he hlo hhi hD2 HBIG HBIG2 HDR HW HL t4 hK hwb hL3 hL4 hx
  have HQ:Hid (∀ c:Bool,incB d neg hv rs = c -> kp + c.toNat = Q):=fun c hc=>by rw [<- hc];exact hQ
  have HV:Hid (hv / 2 = kp /\ decide (hv % 2 = 1) = hf):=⟨hvk,hhf⟩
  have o0:oppD 0 = 0:=rfl
  have o1:oppD 1 = 2:=rfl
  have o2:oppD 2 = 1:=rfl
  clear hQ hvk hhf t2 hvl HK hrs HH
  obtain ⟨s1,hs1⟩:∃ s1,sgnK neg K = s1:=⟨_,rfl⟩
  obtain ⟨s2,hs2⟩:∃ s2,sgnK neg (infK - 1) = s2:=⟨_,rfl⟩
  obtain ⟨bg,hbg⟩:∃ bg,decide (infK <= K) = bg:=⟨_,rfl⟩
  rw [hbg] at hgt'
  have HT:Hid (Rnd d neg N D (if bg = false then (s1,true) else if d = 0 \/ d = 1 /\ neg = false \/ d = 2 /\ neg = true then (0,false) else (s2,true))):=by
   have h:=T1.out
   unfold toldK at h
   rw [hs1,hs2] at h
   unfold Hid
   cases bg
   ·rw [if_pos rfl];rw [if_pos (by have:=of_decide_eq_false hbg;omega)] at h;exact h
   ·rw [if_neg (by simp)];rw [if_neg (by have:=of_decide_eq_true hbg;omega)] at h;exact h
  have HS1:Hid (bg = false -> neg = false -> r = s1):=by
   intro h1 h2
   have h3:=of_decide_eq_false (hbg.trans h1)
   rw [<- hr,<- hs1,h2,Nat.min_eq_left (by omega)];simp [sgnK,Ieee.Format.word]
  have HS2:Hid (neg = false -> 9218868437227405311 = s2):=by
   intro h2
   rw [<- hs2,h2];decide
  have HS3:Hid (bg = false -> neg = true -> ∀ t w,(binOp .sub t (.float .f64 0) (.float .f64 r)).run Tryz.prog w = .ok (.float .f64 s1) w):=by
   intro h1 h2
   have h3:=of_decide_eq_false (hbg.trans h1)
   rw [<- hs1,h2]
   refine run_sub ?_
   rw [<- hr,Nat.min_eq_left (by omega)]
   exact sub_word (by omega)
  have HS4:Hid (neg = true -> ∀ t w,(binOp .sub t (.float .f64 0) (.float .f64 9218868437227405311)).run Tryz.prog w = .ok (.float .f64 s2) w):=by
   intro h2
   rw [<- hs2,h2]
   refine run_sub ?_
   rw [<- sub_word (k:=infK - 1) (by decide)];rfl
  clear T1 hr hs1 hs2 hbg
  rcases hd with rfl | rfl | rfl <;> cases neg <;> cases bg
  ·-- 0 false false
   have hres:=HT.out
   simp only [if_true] at hres
   have HR:Hid _:=hres
   clear hres HT
   have HE:Hid (r = s1):=HS1.out rfl rfl
   clear HS1 HS2 HS3 HS4
   rcases odd_cases hf rs kp with rfl | ⟨rfl,rfl⟩ | ⟨rfl,rfl,hko⟩ | ⟨rfl,rfl,hko⟩
   all_goals
    have hQ:=HQ.out _ rfl
    first | simp [incB,HV.out.1,HV.out.2,hko] at hQ | simp [incB,HV.out.1,HV.out.2] at hQ
    first | simp only [hko,decide_true,decide_false] at hkb | skip
    first | (have hqi:(kp:Int) + 1 = (Q:Int):=(by omega);clear hQ) | subst hQ
    clear HQ HV
    go_wp2_with (first | (go_at_call 89;refine (opposite_any _ _).mono ?_;rintro e' w' ⟨rfl,rfl⟩) | (go_at_call 90;refine (HLD.out _).mono ?_;rintro e' w' ⟨rfl,rfl⟩))
    go_ret2
    first | exact ⟨_,_,rfl,HR.out,rfl⟩ | exact ⟨_,_,rfl,(by rw [HE.out];exact HR.out),rfl⟩
  ·-- 0 false true
   have hres:=HT.out
   simp at hres
   have HR:Hid _:=hres
   clear hres HT
   have HE:Hid (9218868437227405311 = s2):=HS2.out rfl
   clear HS1 HS2 HS3 HS4
   rcases odd_cases hf rs kp with rfl | ⟨rfl,rfl⟩ | ⟨rfl,rfl,hko⟩ | ⟨rfl,rfl,hko⟩
   all_goals
    have hQ:=HQ.out _ rfl
    first | simp [incB,HV.out.1,HV.out.2,hko] at hQ | simp [incB,HV.out.1,HV.out.2] at hQ
    first | simp only [hko,decide_true,decide_false] at hkb | skip
    first | (have hqi:(kp:Int) + 1 = (Q:Int):=(by omega);clear hQ) | subst hQ
    clear HQ HV
    go_wp2_with (first | (go_at_call 89;refine (opposite_any _ _).mono ?_;rintro e' w' ⟨rfl,rfl⟩) | (go_at_call 90;refine (HLD.out _).mono ?_;rintro e' w' ⟨rfl,rfl⟩))
    go_ret2
    first | exact ⟨_,_,rfl,HR.out,rfl⟩ | exact ⟨_,_,rfl,(by rw [HE.out];exact HR.out),rfl⟩
  ·-- 0 true false
   have hres:=HT.out
   simp only [if_true] at hres
   have HR:Hid _:=hres
   clear hres HT
   have hsb:=HS3.out rfl rfl
   clear HS1 HS2 HS3 HS4
   rcases odd_cases hf rs kp with rfl | ⟨rfl,rfl⟩ | ⟨rfl,rfl,hko⟩ | ⟨rfl,rfl,hko⟩
   all_goals
    have hQ:=HQ.out _ rfl
    first | simp [incB,HV.out.1,HV.out.2,hko] at hQ | simp [incB,HV.out.1,HV.out.2] at hQ
    first | simp only [hko,decide_true,decide_false] at hkb | skip
    first | (have hqi:(kp:Int) + 1 = (Q:Int):=(by omega);clear hQ) | subst hQ
    clear HQ HV
    go_wp2_with (first | (go_at_call 89;refine (opposite_any _ _).mono ?_;rintro e' w' ⟨rfl,rfl⟩) | (go_at_call 90;refine (HLD.out _).mono ?_;rintro e' w' ⟨rfl,rfl⟩))
    go_ret2
    first | exact ⟨_,_,rfl,HR.out,rfl⟩ | exact ⟨_,_,rfl,(by rw [HE.out];exact HR.out),rfl⟩
  ·-- 0 true true
   have hres:=HT.out
   simp at hres
   have HR:Hid _:=hres
   clear hres HT
   have hsb:=HS4.out rfl
   clear HS1 HS2 HS3 HS4
   rcases odd_cases hf rs kp with rfl | ⟨rfl,rfl⟩ | ⟨rfl,rfl,hko⟩ | ⟨rfl,rfl,hko⟩
   all_goals
    have hQ:=HQ.out _ rfl
    first | simp [incB,HV.out.1,HV.out.2,hko] at hQ | simp [incB,HV.out.1,HV.out.2] at hQ
    first | simp only [hko,decide_true,decide_false] at hkb | skip
    first | (have hqi:(kp:Int) + 1 = (Q:Int):=(by omega);clear hQ) | subst hQ
    clear HQ HV
    go_wp2_with (first | (go_at_call 89;refine (opposite_any _ _).mono ?_;rintro e' w' ⟨rfl,rfl⟩) | (go_at_call 90;refine (HLD.out _).mono ?_;rintro e' w' ⟨rfl,rfl⟩))
    go_ret2
    first | exact ⟨_,_,rfl,HR.out,rfl⟩ | exact ⟨_,_,rfl,(by rw [HE.out];exact HR.out),rfl⟩
  ·-- 1 false false
   have hres:=HT.out
   simp only [if_true] at hres
   have HR:Hid _:=hres
   clear hres HT
   have HE:Hid (r = s1):=HS1.out rfl rfl
   clear HS1 HS2 HS3 HS4
   rcases or_cases hf rs with rfl | ⟨rfl,rfl⟩ | ⟨rfl,rfl⟩
   all_goals
    have hQ:=HQ.out _ rfl
    simp [incB,HV.out.2] at hQ
    first | (have hqi:(kp:Int) + 1 = (Q:Int):=(by omega);clear hQ) | subst hQ
    clear HQ HV
    go_wp2_with (first | (go_at_call 89;refine (opposite_any _ _).mono ?_;rintro e' w' ⟨rfl,rfl⟩) | (go_at_call 90;refine (HLD.out _).mono ?_;rintro e' w' ⟨rfl,rfl⟩))
    go_ret2
    first | exact ⟨_,_,rfl,HR.out,rfl⟩ | exact ⟨_,_,rfl,(by rw [HE.out];exact HR.out),rfl⟩
  ·-- 1 false true
   have hres:=HT.out
   simp at hres
   have HR:Hid _:=hres
   clear hres HT
   have HE:Hid (9218868437227405311 = s2):=HS2.out rfl
   clear HS1 HS2 HS3 HS4
   rcases or_cases hf rs with rfl | ⟨rfl,rfl⟩ | ⟨rfl,rfl⟩
   all_goals
    have hQ:=HQ.out _ rfl
    simp [incB,HV.out.2] at hQ
    first | (have hqi:(kp:Int) + 1 = (Q:Int):=(by omega);clear hQ) | subst hQ
    clear HQ HV
    go_wp2_with (first | (go_at_call 89;refine (opposite_any _ _).mono ?_;rintro e' w' ⟨rfl,rfl⟩) | (go_at_call 90;refine (HLD.out _).mono ?_;rintro e' w' ⟨rfl,rfl⟩))
    go_ret2
    first | exact ⟨_,_,rfl,HR.out,rfl⟩ | exact ⟨_,_,rfl,(by rw [HE.out];exact HR.out),rfl⟩
  ·-- 1 true false
   have hres:=HT.out
   simp only [if_true] at hres
   have HR:Hid _:=hres
   clear hres HT
   have hsb:=HS3.out rfl rfl
   clear HS1 HS2 HS3 HS4
   all_goals
    have hQ:=HQ.out _ rfl
    simp [incB] at hQ
    first | (have hqi:(kp:Int) + 1 = (Q:Int):=(by omega);clear hQ) | subst hQ
    clear HQ HV
    go_wp2_with (first | (go_at_call 89;refine (opposite_any _ _).mono ?_;rintro e' w' ⟨rfl,rfl⟩) | (go_at_call 90;refine (HLD.out _).mono ?_;rintro e' w' ⟨rfl,rfl⟩))
    go_ret2
    first | exact ⟨_,_,rfl,HR.out,rfl⟩ | exact ⟨_,_,rfl,(by rw [HE.out];exact HR.out),rfl⟩
  ·-- 1 true true
   have hres:=HT.out
   simp at hres
   have HR:Hid _:=hres
   clear hres HT
   have hsb:=HS4.out rfl
   clear HS1 HS2 HS3 HS4
   all_goals
    have hQ:=HQ.out _ rfl
    simp [incB] at hQ
    first | (have hqi:(kp:Int) + 1 = (Q:Int):=(by omega);clear hQ) | subst hQ
    clear HQ HV
    go_wp2_with (first | (go_at_call 89;refine (opposite_any _ _).mono ?_;rintro e' w' ⟨rfl,rfl⟩) | (go_at_call 90;refine (HLD.out _).mono ?_;rintro e' w' ⟨rfl,rfl⟩))
    go_ret2
    first | exact ⟨_,_,rfl,HR.out,rfl⟩ | exact ⟨_,_,rfl,(by rw [HE.out];exact HR.out),rfl⟩
  ·-- 2 false false
   have hres:=HT.out
   simp only [if_true] at hres
   have HR:Hid _:=hres
   clear hres HT
   have HE:Hid (r = s1):=HS1.out rfl rfl
   clear HS1 HS2 HS3 HS4
   all_goals
    have hQ:=HQ.out _ rfl
    simp [incB] at hQ
    first | (have hqi:(kp:Int) + 1 = (Q:Int):=(by omega);clear hQ) | subst hQ
    clear HQ HV
    go_wp2_with (first | (go_at_call 89;refine (opposite_any _ _).mono ?_;rintro e' w' ⟨rfl,rfl⟩) | (go_at_call 90;refine (HLD.out _).mono ?_;rintro e' w' ⟨rfl,rfl⟩))
    go_ret2
    first | exact ⟨_,_,rfl,HR.out,rfl⟩ | exact ⟨_,_,rfl,(by rw [HE.out];exact HR.out),rfl⟩
  ·-- 2 false true
   have hres:=HT.out
   simp at hres
   have HR:Hid _:=hres
   clear hres HT
   have HE:Hid (9218868437227405311 = s2):=HS2.out rfl
   clear HS1 HS2 HS3 HS4
   all_goals
    have hQ:=HQ.out _ rfl
    simp [incB] at hQ
    first | (have hqi:(kp:Int) + 1 = (Q:Int):=(by omega);clear hQ) | subst hQ
    clear HQ HV
    go_wp2_with (first | (go_at_call 89;refine (opposite_any _ _).mono ?_;rintro e' w' ⟨rfl,rfl⟩) | (go_at_call 90;refine (HLD.out _).mono ?_;rintro e' w' ⟨rfl,rfl⟩))
    go_ret2
    first | exact ⟨_,_,rfl,HR.out,rfl⟩ | exact ⟨_,_,rfl,(by rw [HE.out];exact HR.out),rfl⟩
  ·-- 2 true false
   have hres:=HT.out
   simp only [if_true] at hres
   have HR:Hid _:=hres
   clear hres HT
   have hsb:=HS3.out rfl rfl
   clear HS1 HS2 HS3 HS4
   rcases or_cases hf rs with rfl | ⟨rfl,rfl⟩ | ⟨rfl,rfl⟩
   all_goals
    have hQ:=HQ.out _ rfl
    simp [incB,HV.out.2] at hQ
    first | (have hqi:(kp:Int) + 1 = (Q:Int):=(by omega);clear hQ) | subst hQ
    clear HQ HV
    go_wp2_with (first | (go_at_call 89;refine (opposite_any _ _).mono ?_;rintro e' w' ⟨rfl,rfl⟩) | (go_at_call 90;refine (HLD.out _).mono ?_;rintro e' w' ⟨rfl,rfl⟩))
    go_ret2
    first | exact ⟨_,_,rfl,HR.out,rfl⟩ | exact ⟨_,_,rfl,(by rw [HE.out];exact HR.out),rfl⟩
  ·-- 2 true true
   have hres:=HT.out
   simp at hres
   have HR:Hid _:=hres
   clear hres HT
   have hsb:=HS4.out rfl
   clear HS1 HS2 HS3 HS4
   rcases or_cases hf rs with rfl | ⟨rfl,rfl⟩ | ⟨rfl,rfl⟩
   all_goals
    have hQ:=HQ.out _ rfl
    simp [incB,HV.out.2] at hQ
    first | (have hqi:(kp:Int) + 1 = (Q:Int):=(by omega);clear hQ) | subst hQ
    clear HQ HV
    go_wp2_with (first | (go_at_call 89;refine (opposite_any _ _).mono ?_;rintro e' w' ⟨rfl,rfl⟩) | (go_at_call 90;refine (HLD.out _).mono ?_;rintro e' w' ⟨rfl,rfl⟩))
    go_ret2
    first | exact ⟨_,_,rfl,HR.out,rfl⟩ | exact ⟨_,_,rfl,(by rw [HE.out];exact HR.out),rfl⟩
 ·have HR:Hid (Rnd d neg N D (0,false)):=rnd_none d neg N D hD hd
  have n0:(d == 0) = false:=by simp;omega
  have n1:(d == 1) = false:=by simp;omega
  have n2:(d == 2) = false:=by simp;omega
  have o0:oppD d = d:=by unfold oppD;rw [if_neg (by omega),if_neg (by omega)]
  cases neg
  all_goals
   go_wp2_with (first | (go_at_call 89;refine (opposite_any _ _).mono ?_;rintro e' w' ⟨rfl,rfl⟩))
   go_ret2
   exact ⟨_,_,rfl,HR.out,rfl⟩
theorem len64_zero (w:World):Calls Tryz.prog 88 #[.int .u64 0] w fun e w'=>e = .returned (.int .i64 0) /\ w' = w:=by
 have h:=Tryz.bits_Len64 0 w (by omega) (by omega)
 exact h
theorem ldexp_nought (n:Int) (hn:-1000000 <= n /\ n <= 1000000) (w:World):Calls Tryz.prog 90 #[.float .f64 0,.int .i64 n] w fun e w'=>e = .returned (.float .f64 0) /\ w' = w:=by
 obtain ⟨r,h1,h2,h3,h4⟩:=ldexp_any 0 n (by omega) hn (by decide)
 have h5:=(h1 (by unfold Fin;decide))
 have h6:=pow_zero (x:=0) (by omega) (by decide) n
 unfold Pow at h5 h6
 have h7:=h5.uniq h6
 subst h7
 exact h4 w
theorem told_zero (d:Int) (neg:Bool) (w:World) :
  Calls Tryz.prog 62 #[.int .i64 d,.bool neg,.int .u64 0,.int .i64 0,.bool false] w fun e w'=>∃ u b,e = .returned (.tuple #[.float .f64 u,.bool b]) /\ (∀ D,0 < D -> Rnd d neg 0 D (u,b)) /\ w' = w.drew:=by
 have hcv:∀ w,(convert 72 45 (.int .u64 0)).run Tryz.prog w = .ok (.float .f64 0) w:=fun w=>by kernel_rfl
 have hgt:(FloatKind.f64.format.order 0 9218868437227405311 == some .gt) = false:=by decide
 have hsb:∀ t w,(binOp .sub t (.float .f64 0) (.float .f64 0)).run Tryz.prog w = .ok (.float .f64 0) w:=run_sub (by decide)
 have o0:oppD 0 = 0:=rfl
 have o1:oppD 1 = 2:=rfl
 have o2:oppD 2 = 1:=rfl
 by_cases hd:d = 0 \/ d = 1 \/ d = 2
 ·have HR:Hid (∀ D,0 < D -> Rnd d neg 0 D (0,true)):=fun D hD=>rnd_nought d neg D hD hd
  rcases hd with rfl | rfl | rfl <;> cases neg
  all_goals
   go_enter Tryz.func62,Tryz.ntmps62
   go_wp2_with (first | (go_at_call 88;refine (len64_zero _).mono ?_;rintro e' w' ⟨rfl,rfl⟩))
   go_region
   go_wp2_with (first | (go_at_call 89;refine (opposite_any _ _).mono ?_;rintro e' w' ⟨rfl,rfl⟩) | (go_at_call 90;refine (ldexp_nought _ (by omega) _).mono ?_;rintro e' w' ⟨rfl,rfl⟩))
   go_ret2
   exact ⟨_,_,rfl,HR.out,rfl⟩
 ·have HR:Hid (∀ D,0 < D -> Rnd d neg 0 D (0,false)):=fun D hD=>rnd_none d neg 0 D hD hd
  have n0:(d == 0) = false:=by simp;omega
  have n1:(d == 1) = false:=by simp;omega
  have n2:(d == 2) = false:=by simp;omega
  have o0:oppD d = d:=by unfold oppD;rw [if_neg (by omega),if_neg (by omega)]
  cases neg
  all_goals
   go_enter Tryz.func62,Tryz.ntmps62
   go_wp2_with (first | (go_at_call 88;refine (len64_zero _).mono ?_;rintro e' w' ⟨rfl,rfl⟩))
   go_region
   go_wp2_with (first | (go_at_call 89;refine (opposite_any _ _).mono ?_;rintro e' w' ⟨rfl,rfl⟩))
   go_ret2
   exact ⟨_,_,rfl,HR.out,rfl⟩
theorem front_zero (B:Nat) (f:Nat -> Nat) (w:World) (hf:Wds w B f) (hz:wv f 76 = 0) :
  Calls Tryz.prog 61 #[.pointer (some ⟨B,0,none⟩)] w fun e w'=>e = .returned (.tuple #[.int .u64 0,.int .i64 0,.bool false]) /\ w' = w:=by
 have HF:Hid _:=hf
 have HZ:Hid _:=wv_zero_iff.1 hz
 clear hf hz
 go_enter Tryz.func61,Tryz.ntmps61
 go_wp2_with fail
 refine (highest_any B f 75 (by omega) (by omega) _ HF.out).mono ?_
 rintro e w1 ⟨r,rfl,hh,rfl⟩
 have hr:r < 0:=by
  apply Classical.byContradiction
  intro c
  exact hh.2.1 (by omega) (HZ.out r.toNat (by have:=hh.1;omega))
 have hd:decide (r < 0) = true:=decide_eq_true hr
 clear hh
 go_wp2_with fail
 go_ret3
 exact ⟨rfl,rfl⟩
theorem front_pos (B:Nat) (f:Nat -> Nat) (w:World) (hf:Wds w B f) (hz:wv f 76 ≠ 0) (b a:Nat) (hb:b = 64) (ha:a = 1230) :
  Calls Tryz.prog 61 #[.pointer (some ⟨B,0,none⟩)] w fun e w'=>∃ (whole:Nat) (power:Int) (more:Bool),e = .returned (.tuple #[.int .u64 (whole:Int),.int .i64 power,.bool more]) /\ (Frt (wv f 76 * 2 ^ b) (2 ^ a) whole power more /\ -3000 <= power /\ power <= 3000) /\ w' = w.drew:=by
 have HF:Hid _:=hf
 have HZ:Hid _:=hz
 clear hf hz
 go_enter Tryz.func61,Tryz.ntmps61
 go_wp2_with fail
 refine (highest_any B f 75 (by omega) (by omega) _ HF.out).mono ?_
 rintro e w1 ⟨r,rfl,hh,rfl⟩
 have hr:0 <= r:=by
  apply Classical.byContradiction
  intro c
  exact HZ.out (wv_zero_iff.2 (fun j hj=>hh.2.2.1 j (by omega) (by omega)))
 obtain ⟨k,rfl⟩:∃ k:Nat,r = (k:Int):=⟨r.toNat,by omega⟩
 have hk:k < 76:=by have:=hh.1;omega
 have hne:f k ≠ 0:=by have:=hh.2.1 hr;simpa using this
 have HT:Hid (∀ j,k < j -> j < 76 -> f j = 0):=fun j h1 h2=>hh.2.2.1 j (by omega) (by omega)
 obtain ⟨x,hx⟩:∃ x,f k = x:=⟨_,rfl⟩
 have hxl:x < 18446744073709551616:=by rw [<- hx];exact HF.out.lt k hk
 obtain ⟨L,hL,hL1,hL2,hL3⟩:=bitLen_spec hxl (by rw [<- hx];exact hne)
 have g0:=HF.out.cells k hk
 rw [hx] at g0
 obtain ⟨n,hn⟩:∃ n,n + L = 63:=⟨63 - L,by omega⟩
 have en:(63:Int) - (L:Int) = (n:Int):=by omega
 have en2:(64:Int) - (n:Int) = ((64 - n:Nat):Int):=by omega
 have i1:(k:Int) < 76:=by omega
 have hd:decide ((k:Int) < 0) = false:=decide_eq_false (by omega)
 have hpn:2 ^ n * 2 ^ L = 9223372036854775808:=by rw [<- Nat.pow_add,hn]
 have hf0:9223372036854775808 <= x * 2 ^ n:=by rw [<- hpn,Nat.mul_comm];exact Nat.mul_le_mul_right _ hL1
 have hf1:x * 2 ^ n < 18446744073709551616:=by
  have:x * 2 ^ n < 2 ^ (L + 1) * 2 ^ n:=Nat.mul_lt_mul_of_pos_right hL2 (Nat.two_pow_pos _)
  rw [Nat.pow_succ,Nat.mul_comm (2 ^ L) 2,Nat.mul_assoc,Nat.mul_comm (2 ^ L),hpn] at this
  omega
 have HN:Hid _:=And.intro hf0 hf1
 have HX:Hid _:=hx
 have HL:Hid _:=hL
 clear hf0 hf1 hpn hL1 hL2 hh hx hne hL
 obtain ⟨bh,hbh⟩:∃ bh,(if k = 0 then 0 else f (k - 1)) = bh:=⟨_,rfl⟩
 have hbl:bh < 18446744073709551616:=by
  rw [<- hbh];split
  ·omega
  ·exact HF.out.lt _ (by omega)
 have HB:Hid _:=hbh
 clear hbh
 go_wp2_with fail
 refine (zeros64_any x L hxl HL.out _).mono ?_
 rintro e w1 ⟨rfl,rfl⟩
 go_upto_if 19 with fail
 go_cut [7] (fun v wx=>v = .int .u64 (bh:Int) /\ wx = w1)
 case first=>
  by_cases h0:k = 0
  ·subst h0
   have:bh = 0:=by rw [<- HB.out];rfl
   subst this
   go_wp2_with fail
   go_meet
   exact ⟨rfl,rfl⟩
  ·have g1:=HF.out.cells (k - 1) (by omega)
   have h1:=HB.out
   rw [if_neg h0] at h1
   rw [h1] at g1
   obtain ⟨m,rfl⟩:∃ m,k = m + 1:=⟨k - 1,by omega⟩
   rw [Nat.add_sub_cancel] at g1
   clear h1
   go_wp2_with fail
   go_meet
   exact ⟨rfl,rfl⟩
 case rest=>
 obtain ⟨rfl,rfl⟩:=hcut
 have s0:=wrap_shl x n
 have s1:=div_cast bh (64 - n)
 have s3:=wrap_shl bh n
 generalize hu:x * 2 ^ n % 18446744073709551616 = u1 at s0
 generalize hd1:bh / 2 ^ (64 - n) = d1 at s1
 generalize hlo:bh * 2 ^ n % 18446744073709551616 = lo at s3
 have hul:u1 < 18446744073709551616:=by rw [<- hu];exact Nat.mod_lt _ (by omega)
 have hdl:d1 < 18446744073709551616:=by rw [<- hd1];exact Nat.lt_of_le_of_lt (Nat.div_le_self _ _) hbl
 have s2:=u64_or_nat u1 d1 hul hdl
 generalize hW:u1 ||| d1 = W at s2
 have HW:Hid (W = (f k * 2 ^ n % 18446744073709551616) ||| (bh / 2 ^ (64 - n))):=by unfold Hid;rw [HX.out,hu,hd1,hW]
 have HLO:Hid (bh * 2 ^ n % 18446744073709551616 = lo):=hlo
 have HFR:Hid (∀ more:Bool,(more = true ↔ (lo ≠ 0 \/ ∃ j,j + 1 < k /\ f j ≠ 0)) -> Frt (wv f 76 * 2 ^ b) (2 ^ a) W (-2240 + k * 64 - n) more):=fun more hm=>
  (front_frt HF.out.lt hk HT.out (by omega) (by rw [HX.out];exact HN.out.1) (by rw [HX.out];exact HN.out.2) HB.out.symm HW.out (by rw [HLO.out];exact hm) rfl hb ha).1
 have hPW:-3000 <= -2240 + (k:Int) * 64 - n /\ -2240 + (k:Int) * 64 - n <= 3000:=by omega
 have HPW:Hid _:=hPW
 clear hu hd1 hlo hW hul hdl
 go_wp2_with fail
 go_region
 by_cases hz:lo = 0
 ·subst hz
  go_wp2_with fail
  refine (highest_any B f ((k:Int) - 2) (by omega) (by omega) _ HF.out.drew).mono ?_
  rintro e w2 ⟨r,rfl,hh,rfl⟩
  by_cases hr:0 <= r
  ·have hM:Hid (Frt (wv f 76 * 2 ^ b) (2 ^ a) W (-2240 + k * 64 - n) true):=HFR.out true ⟨fun _=>.inr ⟨r.toNat,by have:=hh.1;omega,by have:=hh.2.1 hr;exact this⟩,fun _=>rfl⟩
   have hd:decide (0 <= r) = true:=decide_eq_true hr
   clear hh
   go_wp2_with fail
   go_ret3
   exact ⟨W,_,_,rfl,⟨hM.out,HPW.out⟩,rfl⟩
  ·have hM:Hid (Frt (wv f 76 * 2 ^ b) (2 ^ a) W (-2240 + k * 64 - n) false):=HFR.out false ⟨fun c=>by simp at c,fun c=>by
    rcases c with c | ⟨j,h1,h2⟩
    ·exact absurd rfl c
    ·exact absurd (hh.2.2.1 j (by omega) (by omega)) h2⟩
   have hd:decide (0 <= r) = false:=decide_eq_false hr
   clear hh
   go_wp2_with fail
   go_ret3
   exact ⟨W,_,_,rfl,⟨hM.out,HPW.out⟩,rfl⟩
 ·have hM:Hid (Frt (wv f 76 * 2 ^ b) (2 ^ a) W (-2240 + k * 64 - n) true):=HFR.out true ⟨fun _=>.inl hz,fun _=>rfl⟩
  have hn0:((lo:Int) != 0) = true:=by simp;omega
  clear hz
  go_wp2_with fail
  go_ret3
  exact ⟨W,_,_,rfl,⟨hM.out,HPW.out⟩,rfl⟩
def wda (f:Nat -> Nat):List Value:=(List.range 76).map (fun j=>.int .u64 (f j:Nat))
theorem wda_len (f:Nat -> Nat):(wda f).length = 76:=by unfold wda;simp
theorem wda_at {f:Nat -> Nat} {j:Nat} {v:Value} (h:(wda f)[j]? = some v):j < 76 /\ v = .int .u64 (f j:Nat):=by
 unfold wda at h
 rw [List.getElem?_map,Option.map_eq_some_iff] at h
 obtain ⟨a,h1,h2⟩:=h
 rw [List.getElem?_eq_some_iff] at h1
 obtain ⟨h1,h3⟩:=h1
 rw [List.getElem_range] at h3
 subst h3
 exact ⟨by simpa using h1,h2.symm⟩
theorem wda_get (f:Nat -> Nat) {j:Nat} (h:j < 76):(wda f)[j]? = some (.int .u64 (f j:Nat)):=by
 unfold wda;simp [h]
theorem wda_one (f:Nat -> Nat):∀ v ∈ wda f,v.oneCell' = true:=by
 intro v hv
 unfold wda at hv
 obtain ⟨j,_,rfl⟩:=List.mem_map.1 hv
 rfl
theorem Wds.range {w:World} {B:Nat} {f:Nat -> Nat} (h:Wds w B f):w.rangeAt B 0 (wda f):=fun j v hv=>by
 obtain ⟨h1,rfl⟩:=wda_at hv
 rw [Nat.zero_add];exact h.cells j h1
theorem Wds.there {w:World} {B:Nat} {f:Nat -> Nat} (h:Wds w B f):w.there B 0 76:=fun j hj=>by
 rw [Nat.zero_add,h.cells j hj];exact ⟨rfl,h.frozen j hj⟩
theorem Wds.of_range {w:World} {B:Nat} {f:Nat -> Nat} (h:w.rangeAt B 0 (wda f)) (hfr:∀ j,j < 76 -> w.frozen? ⟨B,j,none⟩ = false) (hlt:∀ j,j < 76 -> f j < 18446744073709551616):Wds w B f:=
 ⟨fun j hj=>by have:=h j _ (wda_get f hj);rwa [Nat.zero_add] at this,hfr,hlt⟩
theorem zero_wda:Tryz.zeroCells107 = (wda (fun _=>0)).toArray:=by rfl
theorem Wds.new (w:World):Wds (w.alloc (.cells Tryz.zeroCells107 107)) w.heap.size (fun _=>0):=by
 refine ⟨fun j hj=>?_,fun j hj=>World.frozen?_alloc_new _ _ _ _,fun j hj=>by omega⟩
 rw [cell_of_row _ _ _ _ _ _ (heap_alloc_new w _),zero_wda,List.getElem?_toArray]
 exact wda_get _ hj
theorem Wds.below {w w':World} {B N:Nat} {f:Nat -> Nat} (h:Wds w B f) (hb:Below N w w') (hB:B < N):Wds w' B f:=
 ⟨fun j hj=>by rw [hb.cell (p:=⟨B,j,none⟩) hB];exact h.cells j hj,fun j hj=>by rw [hb.frozen (p:=⟨B,j,none⟩) hB];exact h.frozen j hj,h.lt⟩
theorem Wds.block {w:World} {B:Nat} {f:Nat -> Nat} (h:Wds w B f):B < w.heap.size:=World.block_lt_of_cell? w _ (h.cells 0 (by omega))
theorem Wds.alloc {w:World} {B:Nat} {f:Nat -> Nat} (h:Wds w B f) (o:Obj):Wds (w.alloc o) B f:=h.below ((Below.refl _ w).alloc (Nat.le_refl _) o) h.block
theorem heap_setCells_other (b:Nat):∀ (vs:List Value) (o:Nat) (w:World) (k:Nat),k ≠ b -> (w.setCells b o vs).heap[k]? = w.heap[k]?
 | [],_,_,_,_=>rfl
 | v :: r,o,w,k,h=>by rw [World.setCells,heap_setCells_other b r (o + 1) _ k h,heap_setCell_other _ _ _ _ h]
theorem Below.setCells {N:Nat} {a:World} {b:Nat} (hb:N <= b):∀ (vs:List Value) (o:Nat) (w:World),Below N a w -> Below N a (w.setCells b o vs)
 | [],_,_,h=>h
 | v :: r,o,w,h=>by rw [World.setCells];exact Below.setCells hb r (o + 1) _ (h.setCell (p:=⟨b,o,none⟩) hb v)
theorem Wds.stored {w:World} {B:Nat} {f g:Nat -> Nat} (h:Wds w B f) (hg:∀ j,j < 76 -> g j < 18446744073709551616):Wds (w.setCells B 0 (wda g)) B g:=
 Wds.of_range (World.rangeAt_setCells_same _ _ _ _ (by rw [wda_len];exact h.there)) (fun j hj=>by rw [World.frozen?_setCells];exact h.frozen j hj) hg
theorem size_words:(Tryz.prog.info? 107).map (·.size) = some 76:=by kernel_rfl
theorem size_wda (f:Nat -> Nat):(Tryz.prog.info? 107).map (·.size) = some (wda f).length:=by rw [wda_len];exact size_words
theorem store_words {w:World} {B:Nat} {f:Nat -> Nat} (h:Wds w B f) (g:Nat -> Nat):(storeCells ⟨B,0,none⟩ (wda g)).run Tryz.prog w = .ok () (w.setCells B 0 (wda g)):=by
 have:=run_storeCells_cells (P:=Tryz.prog) B 0 (wda g) 0 w (fun j hj=>by have:=h.there j (by rw [wda_len] at hj;exact hj);simpa using this.1) (fun j hj=>by have:=h.there j (by rw [wda_len] at hj;exact hj);simpa using this.2) (wda_one g)
 simpa using this
theorem join_tc (B C:Nat) (f g:Nat -> Nat) (x y:Int) (neg:Bool) (w:World) (hf:Wds w B f) (hg:Wds w C g) (tf:Tc f x) (tg:Tc g y) (r:Int) (hr:r = x + (if neg then -y else y)) (h1:-((2 ^ 4863:Nat):Int) <= r) (h2:r < ((2 ^ 4863:Nat):Int)) :
  Calls Tryz.prog 71 #[.pointer (some ⟨B,0,none⟩),.pointer (some ⟨C,0,none⟩),.bool neg] w fun e w'=>e = .returned (.tuple #[]) /\ ∃ h,Wds w' B h /\ Mut B w w' /\ Tc h r:=by
 refine (join_any B C f g neg w hf hg).mono ?_
 rintro e w' ⟨rfl,h,c,k1,k2,k3⟩
 refine ⟨rfl,h,k1,k2,?_⟩
 rw [show 64 * 76 = 4864 by omega] at k3
 refine Tc.sum (y:=if neg then -y else y) tf ?_ k1.lt k3 hr h1 h2
 have e:=tg.eq
 cases neg
 ·simp only [flp,Bool.false_eq_true,if_false,Bool.toNat_false]
  have:(fun j=>g j) = g:=rfl
  rw [this]
  omega
 ·simp only [flp,if_true,Bool.toNat_true]
  have hfl:=wv_flip hg.lt
  rw [show 64 * 76 = 4864 by omega] at hfl
  have hlo:=tg.lo
  have hhi:=tg.hi
  have hl:=wv_lt hg.lt
  rw [show 64 * 76 = 4864 by omega] at hl
  generalize wv (fun j=>18446744073709551615 - g j) 76 = G' at *
  generalize wv g 76 = G at *
  rw [pow_half] at *
  generalize 2 ^ 4863 = L at *
  omega
theorem load_words {w:World} {B:Nat} {f:Nat -> Nat} (h:Wds w B f):(loadVar 107 ⟨B,0,none⟩).run Tryz.prog w = .ok (.agg (wda f).toArray) w:=run_loadVar_mid w B 0 _ _ _ h.range Tryz.underlying107 rfl (size_wda f)
theorem res_words (f:Func) (i:Nat) (hf:f.results = #[ResultVar.cell i 107]) (tmps:Array Value) (W:World) (B:Nat) (g:Nat -> Nat) (hp:tmps[i]? = some (.pointer (some ⟨B,0,none⟩))) (h:Wds W B g) :
  (results f tmps).run Tryz.prog W = .ok (.agg (wda g).toArray) W:=by
 have hl:=load_words h
 simp [results,hf,hp,hl,asAddr]
theorem res_words2 (f:Func) (i j:Nat) (hf:f.results = #[ResultVar.cell i 107,ResultVar.tmp j]) (tmps:Array Value) (W:World) (B:Nat) (g:Nat -> Nat) (u:Value) (hp:tmps[i]? = some (.pointer (some ⟨B,0,none⟩))) (hq:tmps[j]? = some u) (h:Wds W B g) :
  (results f tmps).run Tryz.prog W = .ok (.tuple #[.agg (wda g).toArray,u]) W:=by
 have hl:=load_words h
 simp [results,hf,hp,hq,hl,asAddr]
theorem turnedW_any (B:Nat) (f:Nat -> Nat) (z:Int) (w:World) (hf:Wds w B f) (hz:Tc f z) (hlo:-((2 ^ 4863:Nat):Int) < z) :
  Calls Tryz.prog 79 #[.pointer (some ⟨B,0,none⟩)] w fun e w'=>∃ h,e = .returned (.agg (wda h).toArray) /\ Tc h (-z) /\ Below w.heap.size w w':=by
 have HF:Hid _:=hf
 have HZ:Hid _:=hz
 have tz:Tc (fun _=>0) 0:=⟨fun _ _=>by omega,by omega,by have:=Nat.two_pow_pos 4863;omega,.inl (by rw [wv_const_zero];rfl)⟩
 have HT:Hid _:=tz
 have HB:Hid (-((2 ^ 4863:Nat):Int) <= -z /\ -z < ((2 ^ 4863:Nat):Int)):=by unfold Hid;have:=hz.hi;omega
 clear hf hz tz hlo
 go_enter Tryz.func79,Tryz.ntmps79
 go_wp2_with fail
 have HW0:Hid _:=(HF.out.alloc (.cells Tryz.zeroCells107 107)).alloc (.cells Tryz.zeroCells107 107)
 have HR:Hid _:=(Wds.new w).alloc (.cells Tryz.zeroCells107 107)
 have HV:=Wds.new (w.alloc (.cells Tryz.zeroCells107 107))
 rw [show (w.alloc (.cells Tryz.zeroCells107 107)).heap.size = w.heap.size + 1 by simp] at HV
 refine (join_tc (w.heap.size + 1) B _ f 0 z true _ HV HW0.out HT.out HZ.out (-z) (by simp) HB.out.1 HB.out.2).mono ?_
 rintro e w1 ⟨rfl,h,k1,k2,k3⟩
 have K1:Hid _:=k1
 have HR1:Hid (Wds w1 w.heap.size (fun _=>0)):=HR.out.below k2.below (by omega)
 have HBL:Hid (Below w.heap.size w w1):=(((Below.refl _ w).alloc (Nat.le_refl _) _).alloc (by simp) _).trans (k2.below.mono (by omega))
 have K3:Hid _:=k3
 clear k1 k2 k3 HV HR HW0
 have hst:=store_words HR1.out h
 have W2:Hid _:=HR1.out.stored (g:=h) K1.out.lt
 have B2:Hid _:=Below.setCells (Nat.le_refl _) (wda h) 0 _ HBL.out
 go_wp2_with (first | (refine wpList_load_mid (by rfl) _ _ (by rfl) (w.heap.size + 1) 0 (by rfl) (wda h) _ K1.out.range Tryz.underlying107 rfl (size_wda h) ?_))
 refine bodyPost_ret (v:=.agg (wda h).toArray) (res_words _ 2 (by kernel_rfl) _ _ w.heap.size h (by rfl) W2.out) rfl ⟨h,rfl,K3.out,B2.out⟩
theorem Tc.nonneg {f:Nat -> Nat} {z:Int} (h:Tc f z) (hz:0 <= z):(wv f 76:Int) = z:=by
 have e:=h.eq
 have h1:=h.hi
 have h3:=wv_lt h.lt
 rw [show 64 * 76 = 4864 by omega] at h3
 generalize 2 ^ 4864 = L at *
 omega
theorem size_words_any (B:Nat) (f:Nat -> Nat) (z:Int) (w:World) (hf:Wds w B f) (hz:Tc f z) (hlo:-((2 ^ 4863:Nat):Int) < z) :
  Calls Tryz.prog 60 #[.pointer (some ⟨B,0,none⟩)] w fun e w'=>∃ h,e = .returned (.tuple #[.agg (wda h).toArray,.bool (decide (z < 0))]) /\ (∀ j,j < 76 -> h j < 18446744073709551616) /\ wv h 76 = z.natAbs /\ Tc h (z.natAbs:Int) /\ Below w.heap.size w w':=by
 have HF:Hid _:=hf
 have HZ:Hid _:=hz
 have HLO:Hid _:=hlo
 clear hf hz hlo
 go_enter Tryz.func60,Tryz.ntmps60
 go_wp2_with fail
 have HV:=HF.out.alloc (.cells Tryz.zeroCells107 107)
 have HN:=Wds.new w
 refine (signW_any B f z _ HV HZ.out).mono ?_
 rintro e w1 ⟨rfl,rfl⟩
 have HV':Hid _:=HV
 have HBL:Hid (Below w.heap.size w (w.alloc (.cells Tryz.zeroCells107 107))):=(Below.refl _ w).alloc (Nat.le_refl _) _
 have HN':Hid _:=HN
 clear HV HN
 by_cases h0:z < 0
 ·have hs:sgi z = -1:=by unfold sgi;rw [if_pos h0]
  have HD:Hid (decide (z < 0) = true):=decide_eq_true h0
  have HA:Hid ((z.natAbs:Int) = -z):=by unfold Hid;omega
  clear h0
  go_wp2_with fail
  refine (turnedW_any B f z _ HV'.out HZ.out HLO.out).mono ?_
  rintro e w1 ⟨h,rfl,ht,hb⟩
  have K:Hid _:=ht
  have hb':=hb
  have hsz:(w.alloc (Obj.cells Tryz.zeroCells107 107)).heap.size = w.heap.size + 1:=by simp
  rw [hsz] at hb'
  have HR1:Hid _:=HN'.out.below hb' (by omega)
  have hst:=store_words HR1.out h
  have W2:Hid _:=HR1.out.stored (g:=h) ht.lt
  have B2:Hid _:=Below.setCells (Nat.le_refl _) (wda h) 0 _ (HBL.out.trans (hb'.mono (by omega)))
  clear ht hb hb' hsz
  go_wp2_with fail
  refine bodyPost_ret (v:=.tuple #[.agg (wda h).toArray,.bool true]) (res_words2 _ 2 3 (by kernel_rfl) _ _ w.heap.size h _ (by rfl) (by rfl) W2.out) rfl ⟨h,by rw [HD.out],K.out.lt,?_,by rw [HA.out];exact K.out,B2.out⟩
  have:=K.out.nonneg (by have:=HA.out;omega)
  have:=HA.out
  omega
 ·have hs:decide (sgi z < 0) = false:=decide_eq_false (by unfold sgi;split <;> (try split) <;> omega)
  have HD:Hid (decide (z < 0) = false):=decide_eq_false h0
  have HA:Hid ((z.natAbs:Int) = z):=by unfold Hid;omega
  have hst:=store_words HN'.out f
  have W2:Hid _:=HN'.out.stored (g:=f) HF.out.lt
  have B2:Hid _:=Below.setCells (Nat.le_refl _) (wda f) 0 _ HBL.out
  clear h0
  go_wp2_with (first | (refine wpList_load_mid (by rfl) _ _ (by rfl) B 0 (by rfl) (wda f) _ HV'.out.range Tryz.underlying107 rfl (size_wda f) ?_))
  refine bodyPost_ret (v:=.tuple #[.agg (wda f).toArray,.bool false]) (res_words2 _ 2 3 (by kernel_rfl) _ _ w.heap.size f _ (by rfl) (by rfl) W2.out) rfl ⟨f,by rw [HD.out],HF.out.lt,?_,by rw [HA.out];exact HZ.out,B2.out⟩
  have:=HZ.out.nonneg (by have:=HA.out;omega)
  have:=HA.out
  omega
def holdZ (z:Int):Option Int:=if -((2 ^ 4800:Nat):Int) < z /\ z < ((2 ^ 4800:Nat):Int) then some z else none
structure AccO (w:World) (B:Nat) (o:Option Int):Prop where
 ex:∃ f,Wds w B f /\ ∀ z,o = some z -> Tc f z /\ -((2 ^ 4800:Nat):Int) < z /\ z < ((2 ^ 4800:Nat):Int)
 cell:w.cell? ⟨B,76,none⟩ = some (.bool o.isNone)
 froz:w.frozen? ⟨B,76,none⟩ = false
 top:∀ j,77 <= j -> w.cell? ⟨B,j,none⟩ = none
structure Chg (B:Nat) (w w':World):Prop where
 below:Below B w w'
 other:∀ b,b < w.heap.size -> b ≠ B -> w'.heap[b]? = w.heap[b]?
theorem Mut.chg {B:Nat} {w w':World} (h:Mut B w w'):Chg B w w':=⟨h.below,h.other⟩
theorem Chg.refl (B:Nat) (w:World):Chg B w w:=⟨Below.refl _ _,fun _ _ _=>rfl⟩
theorem Chg.trans {B:Nat} {a b c:World} (h:Chg B a b) (k:Chg B b c):Chg B a c:=
 ⟨h.below.trans k.below,fun i hi hne=>(k.other i (Nat.lt_of_lt_of_le hi h.below.size) hne).trans (h.other i hi hne)⟩
theorem Chg.of_below {B:Nat} {a b:World} (h:Below a.heap.size a b) (hB:B <= a.heap.size):Chg B a b:=⟨h.mono hB,fun i hi _=>h.block i hi⟩
theorem Chg.drew {B:Nat} {a b:World} (h:Chg B a b):Chg B a b.drew:=⟨h.below.drew,h.other⟩
theorem cell_of_heap {w w':World} {B:Nat} (h:w'.heap[B]? = w.heap[B]?) (j:Nat):w'.cell? ⟨B,j,none⟩ = w.cell? ⟨B,j,none⟩ /\ w'.frozen? ⟨B,j,none⟩ = w.frozen? ⟨B,j,none⟩:=by
 constructor
 ·unfold World.cell?;simp only [h]
 ·unfold World.frozen?;simp only [h]
theorem Wds.heap {w w':World} {B:Nat} {f:Nat -> Nat} (hw:Wds w B f) (h:w'.heap[B]? = w.heap[B]?):Wds w' B f:=
 ⟨fun j hj=>(cell_of_heap h j).1.trans (hw.cells j hj),fun j hj=>(cell_of_heap h j).2.trans (hw.frozen j hj),hw.lt⟩
theorem AccO.heap {w w':World} {B:Nat} {o:Option Int} (ha:AccO w B o) (h:w'.heap[B]? = w.heap[B]?):AccO w' B o:=by
 obtain ⟨f,h1,h2⟩:=ha.ex
 exact ⟨⟨f,h1.heap h,h2⟩,(cell_of_heap h 76).1.trans ha.cell,(cell_of_heap h 76).2.trans ha.froz,fun j hj=>(cell_of_heap h j).1.trans (ha.top j hj)⟩
theorem AccO.block {w:World} {B:Nat} {o:Option Int} (h:AccO w B o):B < w.heap.size:=World.block_lt_of_cell? w _ h.cell
theorem AccO.below {w w':World} {B N:Nat} {o:Option Int} (ha:AccO w B o) (hb:Below N w w') (hB:B < N):AccO w' B o:=ha.heap (hb.block B hB)
theorem AccO.chg {w w':World} {B C:Nat} {o:Option Int} (ha:AccO w C o) (hb:Chg B w w') (hB:C ≠ B):AccO w' C o:=ha.heap (hb.other C ha.block hB)
theorem AccO.drew {w:World} {B:Nat} {o:Option Int} (ha:AccO w B o):AccO w.drew B o:=ha.heap rfl
theorem Chg.setCells {B:Nat} {a b:World} (h:Chg B a b) (vs:List Value) (o:Nat):Chg B a (b.setCells B o vs):=
 ⟨Below.setCells (Nat.le_refl _) vs o _ h.below,fun i hi hne=>(heap_setCells_other B vs o b i hne).trans (h.other i hi hne)⟩
def acv (f:Nat -> Nat) (b:Bool):List Value:=wda f ++ [.bool b]
theorem acv_len (f:Nat -> Nat) (b:Bool):(acv f b).length = 77:=by unfold acv;simp [wda_len]
theorem acv_one (f:Nat -> Nat) (b:Bool):∀ v ∈ acv f b,v.oneCell' = true:=by
 intro v hv
 unfold acv at hv
 rcases List.mem_append.1 hv with h | h
 ·exact wda_one f v h
 ·simp at h;subst h;rfl
theorem acv_get (f:Nat -> Nat) (b:Bool) {j:Nat} (hj:j < 76):(acv f b)[j]? = some (.int .u64 (f j:Nat)):=by
 unfold acv;rw [List.getElem?_append_left (by rw [wda_len];exact hj)];exact wda_get f hj
theorem acv_top (f:Nat -> Nat) (b:Bool):(acv f b)[76]? = some (.bool b):=by
 unfold acv;rw [List.getElem?_append_right (by rw [wda_len];omega),wda_len];rfl
theorem AccO.of_range {w:World} {B:Nat} {f:Nat -> Nat} {o:Option Int} (h:w.rangeAt B 0 (acv f o.isNone)) (hfr:∀ j,j < 77 -> w.frozen? ⟨B,j,none⟩ = false) (hlt:∀ j,j < 76 -> f j < 18446744073709551616)
  (hz:∀ z,o = some z -> Tc f z /\ -((2 ^ 4800:Nat):Int) < z /\ z < ((2 ^ 4800:Nat):Int)) (htop:∀ j,77 <= j -> w.cell? ⟨B,j,none⟩ = none):AccO w B o:=
 ⟨⟨f,⟨fun j hj=>by have:=h j _ (acv_get f o.isNone hj);rwa [Nat.zero_add] at this,fun j hj=>hfr j (by omega),hlt⟩,hz⟩,by have:=h 76 _ (acv_top f o.isNone);rwa [Nat.zero_add] at this,hfr 76 (by omega),htop⟩
theorem Tc.zero:Tc (fun _=>0) 0:=⟨fun _ _=>by omega,by omega,by have:=Nat.two_pow_pos 4863;omega,.inl (by rw [wv_const_zero];rfl)⟩
theorem pow4800:(0:Int) < ((2 ^ 4800:Nat):Int):=by have:=Nat.two_pow_pos 4800;omega
theorem spoil_cells:Tryz.zeroCells110.toList.set 76 (.bool true) = acv (fun _=>0) true:=by rfl
theorem store_acv {w:World} {B:Nat} {f:Nat -> Nat} {b:Bool} (h:Wds w B f) (hc:w.cell? ⟨B,76,none⟩ = some (.bool b)) (hf:w.frozen? ⟨B,76,none⟩ = false) (g:Nat -> Nat) (b':Bool) :
  (storeCells ⟨B,0,none⟩ (acv g b')).run Tryz.prog w = .ok () (w.setCells B 0 (acv g b')):=by
 have h1:∀ j,j < 77 -> (w.cell? ⟨B,j,none⟩).isSome = true /\ w.frozen? ⟨B,j,none⟩ = false:=fun j hj=>by
  by_cases e:j < 76
  ·rw [h.cells j e];exact ⟨rfl,h.frozen j e⟩
  ·obtain rfl:j = 76:=by omega
   rw [hc];exact ⟨rfl,hf⟩
 have:=run_storeCells_cells (P:=Tryz.prog) B 0 (acv g b') 0 w (fun j hj=>by have:=(h1 j (by rw [acv_len] at hj;exact hj)).1;simpa using this) (fun j hj=>by have:=(h1 j (by rw [acv_len] at hj;exact hj)).2;simpa using this) (acv_one g b')
 simpa using this
theorem AccO.stored {w:World} {B:Nat} {f g:Nat -> Nat} {b:Bool} {o:Option Int} (h:Wds w B f) (hc:w.cell? ⟨B,76,none⟩ = some (.bool b)) (hf:w.frozen? ⟨B,76,none⟩ = false) (hlt:∀ j,j < 76 -> g j < 18446744073709551616)
  (hz:∀ z,o = some z -> Tc g z /\ -((2 ^ 4800:Nat):Int) < z /\ z < ((2 ^ 4800:Nat):Int)) (htop:∀ j,77 <= j -> w.cell? ⟨B,j,none⟩ = none):AccO (w.setCells B 0 (acv g o.isNone)) B o:=by
 have h1:∀ j,j < 77 -> (w.cell? ⟨B,j,none⟩).isSome = true /\ w.frozen? ⟨B,j,none⟩ = false:=fun j hj=>by
  by_cases e:j < 76
  ·rw [h.cells j e];exact ⟨rfl,h.frozen j e⟩
  ·obtain rfl:j = 76:=by omega
   rw [hc];exact ⟨rfl,hf⟩
 exact AccO.of_range (World.rangeAt_setCells_same _ _ _ _ (by rw [acv_len];intro j hj;rw [Nat.zero_add];exact h1 j hj)) (fun j hj=>by rw [World.frozen?_setCells];exact (h1 j hj).2) hlt hz (fun j hj=>by rw [World.cell?_setCells_out _ _ _ _ _ (fun _ _=>.inr (by rw [acv_len];show 0 + 77 <= j;omega))];exact htop j hj)
theorem acc_new {w:World} {f:Nat -> Nat} {o:Option Int} (hlt:∀ j,j < 76 -> f j < 18446744073709551616) (hz:∀ z,o = some z -> Tc f z /\ -((2 ^ 4800:Nat):Int) < z /\ z < ((2 ^ 4800:Nat):Int)) (C:Array Value) (hC:C = (acv f o.isNone).toArray) (t:TypeId):AccO (w.alloc (.cells C t)) w.heap.size o:=by
 subst hC
 refine AccO.of_range (fun j v hv=>?_) (fun j hj=>World.frozen?_alloc_new _ _ _ _) hlt hz (fun j hj=>by rw [cell_of_row _ _ _ _ _ _ (heap_alloc_new w _),List.getElem?_toArray,List.getElem?_eq_none (by rw [acv_len];omega)])
 rw [Nat.zero_add,cell_of_row _ _ _ _ _ _ (heap_alloc_new w _),List.getElem?_toArray]
 exact hv
theorem AccO.fresh (w:World) (C:Array Value) (t:TypeId) (hC:C = (acv (fun _=>0) false).toArray):AccO (w.alloc (.cells C t)) w.heap.size (some 0):=
 acc_new (f:=fun _=>0) (o:=some 0) (fun _ _=>by omega) (fun z hz=>by cases hz;exact ⟨Tc.zero,by have:=pow4800;omega,pow4800⟩) C hC t
theorem new_any (w:World):Calls Tryz.prog 43 #[] w fun e w'=>e = .returned (.pointer (some ⟨w.heap.size,0,none⟩)) /\ AccO w' w.heap.size (some 0) /\ Below w.heap.size w w' /\ w'.heap.size = w.heap.size + 1:=by
 go_enter Tryz.func43,Tryz.ntmps43
 go_wp2_with fail
 go_ret
 exact ⟨rfl,AccO.fresh w _ _ rfl,(Below.refl _ w).alloc (Nat.le_refl _) _,by simp⟩
theorem bad_any (B:Nat) (o:Option Int) (w:World) (h:AccO w B o):Calls Tryz.prog 59 #[.pointer (some ⟨B,0,none⟩)] w fun e w'=>e = .returned (.bool o.isNone) /\ w' = w:=by
 have g0:=h.cell
 clear h
 cases o
 all_goals
  go_enter Tryz.func59,Tryz.ntmps59
  go_wp2_with fail
  go_ret
  exact ⟨rfl,rfl⟩
theorem spoil_any (B:Nat) (f:Nat -> Nat) (b:Bool) (w:World) (h:Wds w B f) (hc:w.cell? ⟨B,76,none⟩ = some (.bool b)) (hf:w.frozen? ⟨B,76,none⟩ = false) (ht:∀ j,77 <= j -> w.cell? ⟨B,j,none⟩ = none):Calls Tryz.prog 70 #[.pointer (some ⟨B,0,none⟩)] w fun e w'=>e = .returned (.tuple #[]) /\ AccO w' B none /\ Chg B w w':=by
 have HW:Hid _:=h
 have HC:Hid _:=And.intro hc hf
 have HTP:Hid (∀ j,77 <= j -> w.cell? ⟨B,j,none⟩ = none):=ht
 clear h hc hf ht
 go_enter Tryz.func70,Tryz.ntmps70
 have hst:=store_acv HW.out HC.out.1 HC.out.2 (fun _=>0) true
 rw [<- spoil_cells] at hst
 have HS:Hid (AccO (w.setCells B 0 (Tryz.zeroCells110.toList.set 76 (.bool true))) B none /\ Chg B w (w.setCells B 0 (Tryz.zeroCells110.toList.set 76 (.bool true)))):=by
  rw [spoil_cells]
  exact ⟨AccO.stored (o:=none) HW.out HC.out.1 HC.out.2 (fun _ _=>by omega) (fun z hz=>by cases hz) HTP.out,(Chg.refl B w).setCells _ 0⟩
 generalize w.setCells B 0 (Tryz.zeroCells110.toList.set 76 (.bool true)) = w2 at hst HS
 go_wp2_with fail
 go_end0
 exact ⟨rfl,HS.out.1,HS.out.2⟩
theorem AccO.words {w:World} {B:Nat} {o:Option Int} (h:AccO w B o):∃ f b,Wds w B f /\ w.cell? ⟨B,76,none⟩ = some (.bool b) /\ w.frozen? ⟨B,76,none⟩ = false /\ ∀ j,77 <= j -> w.cell? ⟨B,j,none⟩ = none:=by
 obtain ⟨f,h1,h2⟩:=h.ex
 exact ⟨f,_,h1,h.cell,h.froz,h.top⟩
theorem settle_any (B:Nat) (f:Nat -> Nat) (z:Int) (w:World) (h:Wds w B f) (hz:Tc f z) (hc:w.cell? ⟨B,76,none⟩ = some (.bool false)) (hf:w.frozen? ⟨B,76,none⟩ = false) (ht:∀ j,77 <= j -> w.cell? ⟨B,j,none⟩ = none):Calls Tryz.prog 72 #[.pointer (some ⟨B,0,none⟩)] w fun e w'=>e = .returned (.tuple #[]) /\ AccO w' B (holdZ z) /\ Chg B w w':=by
 have HW:Hid _:=h
 have HC:Hid _:=And.intro hc hf
 have HZ:Hid _:=hz
 have HTP:Hid (∀ j,77 <= j -> w.cell? ⟨B,j,none⟩ = none):=ht
 clear h hc hf hz ht
 by_cases hh:-((2 ^ 4800:Nat):Int) < z /\ z < ((2 ^ 4800:Nat):Int)
 ·have HH:Hid (holdZ z = some z):=if_pos hh
  have HA:Hid (AccO w B (some z)):=⟨⟨f,HW.out,fun y hy=>by cases hy;exact ⟨HZ.out,hh⟩⟩,HC.out.1,HC.out.2,HTP.out⟩
  have HX:Hid _:=hh
  clear hh
  go_enter Tryz.func72,Tryz.ntmps72
  go_wp2_with fail
  refine (held_any B f z _ HW.out HZ.out true ⟨fun _=>HX.out,fun _=>rfl⟩).mono ?_
  rintro e w1 ⟨rfl,rfl⟩
  go_wp2_with fail
  go_end0
  exact ⟨rfl,by rw [HH.out];exact HA.out,Chg.refl _ _⟩
 ·have HH:Hid (holdZ z = none):=if_neg hh
  have HX:Hid _:=hh
  clear hh
  go_enter Tryz.func72,Tryz.ntmps72
  go_wp2_with fail
  refine (held_any B f z _ HW.out HZ.out false ⟨fun c=>by simp at c,fun c=>absurd c HX.out⟩).mono ?_
  rintro e w1 ⟨rfl,rfl⟩
  go_wp2_with fail
  refine (spoil_any B f false _ HW.out HC.out.1 HC.out.2 HTP.out).mono ?_
  rintro e w2 ⟨rfl,h1,h2⟩
  have H1:Hid _:=And.intro h1 h2
  clear h1 h2
  go_wp2_with fail
  go_end0
  exact ⟨rfl,by rw [HH.out];exact H1.out.1,H1.out.2⟩
def joinO (o p:Option Int) (neg:Bool):Option Int:=o.bind fun x=>p.bind fun y=>holdZ (x + (if neg then -y else y))
theorem Mut.top {B:Nat} {w w':World} (h:Mut B w w'):w'.cell? ⟨B,76,none⟩ = w.cell? ⟨B,76,none⟩ /\ w'.frozen? ⟨B,76,none⟩ = w.frozen? ⟨B,76,none⟩:=⟨h.high 76 (by omega),h.froz 76⟩
theorem pow_4800_4863:((2 ^ 4800:Nat):Int) * 4 <= ((2 ^ 4863:Nat):Int):=by
 have:=pow_top
 have h2:=Nat.two_pow_pos 4800
 rw [this]
 generalize 2 ^ 4800 = L at *
 omega
theorem accJoin_any (B C:Nat) (o p:Option Int) (neg:Bool) (w:World) (hB:AccO w B o) (hC:AccO w C p) :
  Calls Tryz.prog 45 #[.pointer (some ⟨B,0,none⟩),.pointer (some ⟨C,0,none⟩),.bool neg] w fun e w'=>e = .returned (.tuple #[]) /\ AccO w' B (joinO o p neg) /\ Chg B w w':=by
 have HB:Hid _:=hB
 have HC:Hid _:=hC
 clear hB hC
 obtain ⟨f0,b0,hw0⟩:=HB.out.words
 have HW0:Hid _:=hw0
 clear hw0
 cases o with
 | none=>
  go_enter Tryz.func45,Tryz.ntmps45
  go_wp2_with fail
  refine (bad_any B none _ HB.out).mono ?_
  rintro e w1 ⟨rfl,rfl⟩
  go_wp2_with fail
  refine (spoil_any B f0 b0 _ HW0.out.1 HW0.out.2.1 HW0.out.2.2.1 HW0.out.2.2.2).mono ?_
  rintro e w1 ⟨rfl,hs⟩
  have HS:Hid _:=hs
  clear hs
  go_wp2_with fail
  (try simp only [Exit.inBlock,Exit.then]);refine bodyPost_ret (results_none rfl _ _ _) rfl ?_
  exact ⟨rfl,HS.out.1,HS.out.2⟩
 | some x=>
  cases p with
  | none=>
   go_enter Tryz.func45,Tryz.ntmps45
   go_wp2_with fail
   refine (bad_any B (some x) _ HB.out).mono ?_
   rintro e w1 ⟨rfl,rfl⟩
   go_wp2_with fail
   refine (bad_any C none _ HC.out).mono ?_
   rintro e w1 ⟨rfl,rfl⟩
   go_wp2_with fail
   refine (spoil_any B f0 b0 _ HW0.out.1 HW0.out.2.1 HW0.out.2.2.1 HW0.out.2.2.2).mono ?_
   rintro e w1 ⟨rfl,hs⟩
   have HS:Hid _:=hs
   clear hs
   go_wp2_with fail
   (try simp only [Exit.inBlock,Exit.then]);refine bodyPost_ret (results_none rfl _ _ _) rfl ?_
   exact ⟨rfl,HS.out.1,HS.out.2⟩
  | some y=>
   obtain ⟨f,k1,k2⟩:=HB.out.ex
   obtain ⟨g,k3,k4⟩:=HC.out.ex
   obtain ⟨t1,t2,t3⟩:=k2 x rfl
   obtain ⟨t4,t5,t6⟩:=k4 y rfl
   obtain ⟨r,hr⟩:∃ r,r = x + (if neg then -y else y):=⟨_,rfl⟩
   have hb:-((2 ^ 4863:Nat):Int) <= r /\ r < ((2 ^ 4863:Nat):Int):=by
    have:=pow_4800_4863
    rw [hr]
    generalize ((2 ^ 4800:Nat):Int) = L at *
    generalize ((2 ^ 4863:Nat):Int) = M at *
    cases neg <;> simp <;> omega
   have HX:Hid (joinO (some x) (some y) neg = holdZ r):=by unfold Hid joinO;rw [hr];rfl
   have HF:Hid _:=And.intro k1 (And.intro k3 (And.intro t1 t4))
   have HR:Hid _:=And.intro hr hb
   have HC0:Hid _:=And.intro HB.out.cell HB.out.froz
   clear k1 k2 k3 k4 t1 t2 t3 t4 t5 t6 hr hb HW0
   go_enter Tryz.func45,Tryz.ntmps45
   go_wp2_with fail
   refine (bad_any B (some x) _ HB.out).mono ?_
   rintro e w1 ⟨rfl,rfl⟩
   go_wp2_with fail
   refine (bad_any C (some y) _ HC.out).mono ?_
   rintro e w1 ⟨rfl,rfl⟩
   go_wp2_with fail
   go_region_with (go_at_call 71;refine (join_tc B C f g x y neg _ HF.out.1.drew HF.out.2.1.drew HF.out.2.2.1 HF.out.2.2.2 r HR.out.1 HR.out.2.1 HR.out.2.2).mono ?_;rintro e w2 ⟨rfl,h,j1,j2,j3⟩)
   have HJ:Hid _:=And.intro j1 j3
   have hct:=(HC0.out.1)
   have hcf:=(HC0.out.2)
   have HT:Hid (w2.cell? ⟨B,76,none⟩ = some (.bool false) /\ w2.frozen? ⟨B,76,none⟩ = false):=⟨j2.top.1.trans hct,j2.top.2.trans hcf⟩
   have HM:Hid (Chg B w1 w2):=(Chg.refl B w1).drew.trans j2.chg
   have HTP:Hid (∀ j,77 <= j -> w2.cell? ⟨B,j,none⟩ = none):=fun j hj=>(j2.high j (by omega)).trans (HB.out.top j hj)
   clear j1 j2 j3 hct hcf
   go_wp2_with fail
   refine (settle_any B h r _ HJ.out.1 HJ.out.2 HT.out.1 HT.out.2 HTP.out).mono ?_
   rintro e w3 ⟨rfl,s1,s2⟩
   have HS:Hid _:=And.intro s1 s2
   clear s1 s2
   go_wp2_with fail
   go_end0
   exact ⟨rfl,by rw [HX.out];exact HS.out.1,HM.out.trans HS.out.2⟩
def signO (o:Option Int):Int:=match o with | none=>0 | some z=>sgi z
theorem accSign_any (B:Nat) (o:Option Int) (w:World) (hB:AccO w B o) :
  Calls Tryz.prog 78 #[.pointer (some ⟨B,0,none⟩)] w fun e w'=>e = .returned (.int .i64 (signO o)) /\ w' = w:=by
 have HB:Hid _:=hB
 clear hB
 cases o with
 | none=>
  go_enter Tryz.func78,Tryz.ntmps78
  go_wp2_with fail
  refine (bad_any B none _ HB.out).mono ?_
  rintro e w1 ⟨rfl,rfl⟩
  go_wp2_with fail
  go_ret
  exact ⟨rfl,rfl⟩
 | some x=>
  obtain ⟨f,k1,k2⟩:=HB.out.ex
  obtain ⟨t1,t2,t3⟩:=k2 x rfl
  have HK:Hid _:=And.intro k1 t1
  clear k1 k2 t1 t2 t3
  go_enter Tryz.func78,Tryz.ntmps78
  go_wp2_with fail
  refine (bad_any B (some x) _ HB.out).mono ?_
  rintro e w1 ⟨rfl,rfl⟩
  go_wp2_with fail
  refine (signW_any B f x _ HK.out.1 HK.out.2).mono ?_
  rintro e w1 ⟨rfl,rfl⟩
  go_wp2_with fail
  go_ret
  exact ⟨rfl,rfl⟩
theorem AccO.words_stored {w:World} {B:Nat} {f g:Nat -> Nat} {z:Int} (h:Wds w B f) (hc:w.cell? ⟨B,76,none⟩ = some (.bool false)) (hf:w.frozen? ⟨B,76,none⟩ = false) (hg:Tc g z) (h1:-((2 ^ 4800:Nat):Int) < z) (h2:z < ((2 ^ 4800:Nat):Int)) (ht:∀ j,77 <= j -> w.cell? ⟨B,j,none⟩ = none):AccO (w.setCells B 0 (wda g)) B (some z):=
 ⟨⟨g,h.stored hg.lt,fun y hy=>by cases hy;exact ⟨hg,h1,h2⟩⟩,by rw [World.cell?_setCells_out _ _ _ _ _ (fun _ _=>.inr (by rw [wda_len];show 0 + 76 <= 76;omega))];exact hc,by rw [World.frozen?_setCells];exact hf,fun j hj=>by rw [World.cell?_setCells_out _ _ _ _ _ (fun _ _=>.inr (by rw [wda_len];show 0 + 76 <= j;omega))];exact ht j hj⟩
def absO (o:Option Int):Option Int:=o.map fun z=>(z.natAbs:Int)
theorem accAbs_any (B:Nat) (o:Option Int) (w:World) (hB:AccO w B o) :
  Calls Tryz.prog 49 #[.pointer (some ⟨B,0,none⟩)] w fun e w'=>e = .returned (.tuple #[]) /\ AccO w' B (absO o) /\ Chg B w w':=by
 have HB:Hid _:=hB
 clear hB
 by_cases hs:signO o < 0
 ·cases o with
  | none=>simp [signO] at hs
  | some z=>
   have hz:z < 0:=by unfold signO sgi at hs;simp only at hs;split at hs <;> (try split at hs) <;> omega
   have hs1:signO (some z) = -1:=by show sgi z = -1;unfold sgi;rw [if_pos hz]
   obtain ⟨f,k1,k2⟩:=HB.out.ex
   obtain ⟨t1,t2,t3⟩:=k2 z rfl
   have HK:Hid _:=And.intro k1 (And.intro t1 (And.intro t2 t3))
   have HLO:Hid (-((2 ^ 4863:Nat):Int) < z):=by unfold Hid;have:=pow_4800_4863;have:=pow4800;generalize ((2 ^ 4800:Nat):Int) = L at *;generalize ((2 ^ 4863:Nat):Int) = M at *;omega
   have HA:Hid (absO (some z) = some (-z)):=by unfold Hid absO;simp;omega
   have HC0:Hid _:=And.intro HB.out.cell HB.out.froz
   clear k1 k2 t1 t2 t3 hs hz
   go_enter Tryz.func49,Tryz.ntmps49
   go_wp2_with fail
   refine (accSign_any B (some z) _ HB.out).mono ?_
   rintro e w1 ⟨rfl,rfl⟩
   go_wp2_with fail
   refine (turnedW_any B f z _ HK.out.1 HK.out.2.1 HLO.out).mono ?_
   rintro e w2 ⟨h,rfl,ht,hb⟩
   have hlt:=HK.out.1.block
   have HW2:Hid (Wds w2 B f):=HK.out.1.below hb hlt
   have HC2:Hid (w2.cell? ⟨B,76,none⟩ = some (.bool false) /\ w2.frozen? ⟨B,76,none⟩ = false):=⟨(cell_of_heap (hb.block B hlt) 76).1.trans HC0.out.1,(cell_of_heap (hb.block B hlt) 76).2.trans HC0.out.2⟩
   have HR:Hid (AccO (w2.setCells B 0 (wda h)) B (some (-z)) /\ Chg B w1 (w2.setCells B 0 (wda h))):=⟨AccO.words_stored HW2.out HC2.out.1 HC2.out.2 ht (by have:=HK.out.2.2.2;omega) (by have:=HK.out.2.2.1;omega) (fun j hj=>(cell_of_heap (hb.block B hlt) j).1.trans (HB.out.top j hj)),(Chg.of_below hb (by omega)).setCells _ 0⟩
   have hst:=store_words HW2.out h
   generalize w2.setCells B 0 (wda h) = w3 at hst HR
   clear ht hb hlt
   go_wp2_with fail
   go_end0
   exact ⟨rfl,by rw [HA.out];exact HR.out.1,HR.out.2⟩
 ·have hd:decide (signO o < 0) = false:=decide_eq_false hs
  have HA:Hid (absO o = o):=by
   unfold Hid absO
   cases o with
   | none=>rfl
   | some z=>
    have:0 <= z:=by unfold signO sgi at hs;simp only at hs;split at hs <;> (try split at hs) <;> omega
    simp;omega
  clear hs
  go_enter Tryz.func49,Tryz.ntmps49
  go_wp2_with fail
  refine (accSign_any B o _ HB.out).mono ?_
  rintro e w1 ⟨rfl,rfl⟩
  go_wp2_with fail
  go_end0
  exact ⟨rfl,by rw [HA.out];exact HB.out,Chg.refl _ _⟩
structure IsV (h:Nat -> Nat) (V:Nat):Prop where
 eq:wv h 76 = V
def RndO (d:Int) (o:Option Int) (u:Nat) (b:Bool):Prop:=match o with | none=>u = 0 /\ b = false | some z=>∀ a,a = 1166 -> RndZ d z (2 ^ a) (u,b)
theorem RndO.uniq {d:Int} {o:Option Int} {u v:Nat} {b c:Bool} (h:RndO d o u b) (k:RndO d o v c):u = v /\ b = c:=by
 cases o with
 | none=>exact ⟨h.1.trans k.1.symm,h.2.trans k.2.symm⟩
 | some z=>
  obtain ⟨a,ha⟩:∃ a:Nat,a = 1166:=⟨_,rfl⟩
  have:=RndZ.uniq (h a ha) (k a ha)
  exact ⟨congrArg Prod.fst this,congrArg Prod.snd this⟩
theorem round_scaled {d:Int} {z:Int} {a b A:Nat} {p:Nat × Bool} (ha:a = 1166) (hb:b = 64) (hA:A = 1230) (h:Rnd d (decide (z < 0)) (z.natAbs * 2 ^ b) (2 ^ A) p):RndZ d z (2 ^ a) p:=by
 refine h.of_eq (Nat.two_pow_pos _) ?_
 rw [Nat.mul_assoc,<- Nat.pow_add,show b + a = A by omega]
theorem accRound_any (d:Int) (B:Nat) (o:Option Int) (w:World) (hB:AccO w B o) :
  Calls Tryz.prog 33 #[.pointer (some ⟨B,0,none⟩),.int .i64 d] w fun e w'=>∃ u b,e = .returned (.tuple #[.float .f64 u,.bool b]) /\ RndO d o u b /\ Below w.heap.size w w':=by
 have HB:Hid _:=hB
 clear hB
 cases o with
 | none=>
  go_enter Tryz.func33,Tryz.ntmps33
  go_wp2_with fail
  refine (bad_any B none _ HB.out).mono ?_
  rintro e w1 ⟨rfl,rfl⟩
  go_wp2_with fail
  go_ret2
  exact ⟨0,false,rfl,⟨rfl,rfl⟩,Below.refl _ _⟩
 | some z=>
  obtain ⟨f,k1,k2⟩:=HB.out.ex
  obtain ⟨t1,t2,t3⟩:=k2 z rfl
  have HK:Hid _:=And.intro k1 t1
  have HLO:Hid (-((2 ^ 4863:Nat):Int) < z):=by unfold Hid;have:=pow_4800_4863;have:=pow4800;generalize ((2 ^ 4800:Nat):Int) = L at *;generalize ((2 ^ 4863:Nat):Int) = M at *;omega
  clear k1 k2 t1 t2 t3
  go_enter Tryz.func33,Tryz.ntmps33
  go_wp2_with fail
  refine (bad_any B (some z) _ HB.out).mono ?_
  rintro e w1 ⟨rfl,rfl⟩
  go_wp2_with fail
  refine (size_words_any B f z _ HK.out.1 HK.out.2 HLO.out).mono ?_
  rintro e w2 ⟨h,rfl,l1,l2,l3,l4⟩
  have HN:=Wds.new w2
  have hst:=store_words HN h
  have HB2:Hid (Below w1.heap.size w1 ((w2.alloc (.cells Tryz.zeroCells107 107)).setCells w2.heap.size 0 (wda h))):=Below.setCells l4.size _ _ _ (l4.alloc l4.size _)
  have HS:Hid _:=HN.stored (g:=h) l1
  generalize (w2.alloc (.cells Tryz.zeroCells107 107)).setCells w2.heap.size 0 (wda h) = w3 at hst HS HB2
  have HL:IsV h z.natAbs:=⟨l2⟩
  clear HB HK HLO l3
  generalize hng:decide (z < 0) = ng
  have HNG:Hid _:=hng
  clear l1 l2 l4 HN hng
  go_wp2_with fail
  by_cases h0:wv h 76 = 0
  ·refine (front_zero w2.heap.size h _ HS.out h0).mono ?_
   rintro e w4 ⟨rfl,rfl⟩
   go_wp2_with fail
   refine (told_zero d ng _).mono ?_
   rintro e w5 ⟨u,b,rfl,hr,rfl⟩
   have HR:Hid _:=hr
   clear hr
   go_wp2_with fail
   go_ret2
   refine ⟨u,b,rfl,fun a ha=>?_,HB2.out.drew⟩
   have hz:z.natAbs = 0:=by rw [<- HL.eq];exact h0
   unfold RndZ
   rw [hz,HNG.out]
   exact HR.out _ (Nat.two_pow_pos _)
  ·obtain ⟨bb,hbb⟩:∃ bb:Nat,bb = 64:=⟨_,rfl⟩
   obtain ⟨aa,haa⟩:∃ aa:Nat,aa = 1230:=⟨_,rfl⟩
   have HAB:Hid _:=And.intro hbb haa
   refine (front_pos w2.heap.size h _ HS.out h0 bb aa hbb haa).mono ?_
   rintro e w4 ⟨whole,power,more,rfl,hfr,rfl⟩
   have HFR:Hid _:=hfr
   clear hfr h0 hbb haa
   go_wp2_with fail
   refine (told_frt d ng whole power more _ _ HFR.out.1 (Nat.two_pow_pos _) (by have:=HFR.out.2;omega) _).mono ?_
   rintro e w5 ⟨u,b,rfl,hr,rfl⟩
   have HR:Hid _:=hr
   clear hr
   go_wp2_with fail
   go_ret2
   refine ⟨u,b,rfl,fun a ha=>?_,HB2.out.drew.drew⟩
   have h2:=HR.out
   rw [HL.eq] at h2
   exact round_scaled ha HAB.out.1 HAB.out.2 (by rw [HNG.out];exact h2)
def ofM (u:Nat):Nat:=if frung u < 4503599627370496 then frung u else 4503599627370496 + frung u % 4503599627370496
def ofE (u:Nat):Int:=if frung u < 4503599627370496 then -1074 else (frung u / 4503599627370496:Nat) - 1075
end Go.Proofs.YtmdjoaipkbnelaaGreat
