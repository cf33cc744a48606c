import Derived.Test.YtmdjoaipkbnelaaGreatPYd
set_option maxRecDepth 100000
set_option maxHeartbeats 4000000
set_option linter.unusedVariables false
set_option linter.unusedSimpArgs false
namespace Go.Proofs.YtmdjoaipkbnelaaGreat
open Go.RowKit Go.Shelf
def mA (i:Nat):Nat:=FloatKind.f64.nearest (1000 + (i:Int))
def mB (i:Nat):Nat:=FloatKind.f64.nearest (-1000 - (i:Int))
def vA (i:Nat):Value:=.float .f64 (mA i)
def vB (i:Nat):Value:=.float .f64 (mB i)
theorem cv_A (i:Nat) (w:World):(convert 3 45 (.int .i64 (1000 + (i:Int)))).run Tryz.prog w = .ok (.float .f64 (mA i)) w:=by kernel_rfl
theorem cv_B (i:Nat) (w:World):(convert 3 45 (.int .i64 (-1000 - (i:Int)))).run Tryz.prog w = .ok (.float .f64 (mB i)) w:=by kernel_rfl
theorem Tryz.szFO:(Tryz.prog.info? 45).map (·.size) = some 1:=by kernel_rfl
theorem Tryz.infoFO:(Tryz.prog.info? 45).map (fun i=>(i.zero,i.size,i.bytes)) = some (some (.float .f64 0),1,8):=by kernel_rfl
theorem Tryz.infoFsO:(Tryz.prog.info? 22).map (fun i=>(i.zero,i.size,i.bytes)) = some (some (.slice none 0 0),1,24):=by kernel_rfl
theorem own_someO {W:World} {base:Nat} {E:TypeId} {lo:Option Addr} {K lc:Nat} {xs:List Value} (h:W.ownsRow base E 1 (.slice lo K lc) K xs) (hK:0 < K):∃ q,lo = some ⟨q,0,none⟩:=by
 rcases h.2 with ⟨_,h2⟩ | ⟨g,cap,cur,h1,_⟩
 ·omega
 ·cases h1;exact ⟨g,rfl⟩
theorem own_formO {W:World} {base n:Nat} {E:TypeId} {v:Value} {xs:List Value} (h:W.ownsRow base E 1 v n xs):∃ ao cap,v = .slice ao n cap /\ n <= maxLen /\ (0 < n -> ∃ g,ao = some ⟨g,0,none⟩):=by
 rcases h.2 with ⟨rfl,rfl⟩ | ⟨g,cap,cur,rfl,h2,h3,h4,h5,_⟩
 ·exact ⟨none,0,rfl,Nat.zero_le _,fun h=>absurd h (by omega)⟩
 ·exact ⟨_,cap,rfl,by omega,fun _=>⟨g,rfl⟩⟩
structure FamA (W0 W:World) (E:TypeId) (base K:Nat) (v:Nat -> Value) (n:Nat -> Nat) (C:Nat -> List Value):Prop where
 b:Below base W0 W
 f:Fam W E base K v n C
 o:∀ k,(∀ i,i < K -> (v i).ownBlock ≠ some k) -> W.heap[k]? = W0.heap[k]?
 z:W.heap.size = W0.heap.size
theorem FamA.write {W0 W W':World} {E:TypeId} {base K:Nat} {v:Nat -> Value} {n:Nat -> Nat} {C:Nat -> List Value} (h:FamA W0 W E base K v n C) {i:Nat} (hi:i < K) {vs:List Value} (e:OwX W' base E (v i) (n i) vs) (b:Below base W0 W') (z:W'.heap.size = W.heap.size) (o:∀ k,(v i).ownBlock ≠ some k -> W'.heap[k]? = W.heap[k]?):FamA W0 W' E base K v n (fun k=>if k = i then vs else C k):=
 ⟨b,h.f.write hi e o,fun k hk=>(o k (hk i hi)).trans (h.o k hk),z.trans h.z⟩
theorem mk_le (n:Int) (h:n.natAbs ≠ 0):frung (FloatKind.f64.nearest n) <= infK:=by
 have e1:FloatKind.f64.nearest n = Ieee.double.nearest (decide (n < 0)) n.natAbs 0:=by
  unfold FloatKind.nearest FloatKind.encode
  rw [f64_fmt];rfl
 obtain ⟨R,_,hw⟩:=nearest_eq (decide (n < 0)) n.natAbs 0 h
 rw [e1,hw,(word_rung _ (Nat.lt_of_le_of_lt (Nat.min_le_right _ _) inf_lt_word)).1]
 exact Nat.min_le_right _ _
theorem neq_self {u:Nat} (h:frung u <= infK):(FloatKind.f64.format.order u u != some Ordering.eq) = false:=by
 have ho:=order_rung (x:=u) (y:=u) h h
 rw [f64_fmtJ,ho,Int.compare_eq_eq.2 rfl]
 rfl
theorem ne_A (i:Nat):(FloatKind.f64.format.order (mA i) (mA i) != some Ordering.eq) = false:=neq_self (mk_le _ (by omega))
theorem ne_B (i:Nat):(FloatKind.f64.format.order (mB i) (mB i) != some Ordering.eq) = false:=neq_self (mk_le _ (by omega))
theorem markedF_any (K base bl:Nat) (v:Nat -> Value) (n:Nat -> Nat) (C0:Nat -> List Value) (lo:Option Addr) (lc:Nat) (W0:World) (hK:K <= 20000000) (hn:∀ k,k < K -> n k <= 1100000) (hb0:base <= W0.heap.size) (hl:W0.ownsRow bl 22 1 (.slice lo K lc) K ((List.range K).map v)) (hF:Fam W0 45 base K v n C0) :
  Calls Tryz.prog 10 #[.slice lo K lc] W0 fun e w'=>e = .returned (.bool true) /\ Below base W0 w' /\ ∀ k,k < W0.heap.size -> (∀ i,i < K -> (v i).ownBlock ≠ some k) -> w'.heap[k]? = W0.heap[k]?:=by
 have HDL:Hid (∀ k,(Value.slice lo K lc).ownBlock = some k -> (∀ i,i < K -> (v i).ownBlock ≠ some k) /\ k < W0.heap.size):=fun k e=>by
  obtain ⟨c1,h1⟩:=owns_type hl e
  refine ⟨fun i hi e2=>?_,blk_lt h1⟩
  obtain ⟨c2,h2⟩:=OwX.ty (hF.f i hi) _ e2
  rw [h1] at h2
  injection h2 with h2
  injection h2 with _ h2
  exact absurd h2 (by decide)
 have HB0:Hid (base <= W0.heap.size):=hb0
 have HNN:Hid (∀ k,k < K -> n k <= 1100000):=hn
 have HAP:Hid (∀ i j,i < K -> j < K -> i ≠ j -> ∀ q,(v i).ownBlock = some q -> (v j).ownBlock ≠ some q):=fun i j hi hj hij q=>hF.ap hi hj hij
 have HFO:Hid (∀ k,k < K -> ∃ ao cap,v k = .slice ao (n k) cap /\ (0 < n k -> ∃ g,ao = some ⟨g,0,none⟩)):=fun k hk=>by
  obtain ⟨ao,cap,h1,_,h2⟩:=OwX.formF (hF.f k hk)
  exact ⟨ao,cap,h1,h2⟩
 have HLT:Hid (∀ k,k < K -> ∀ q,(v k).ownBlock = some q -> base <= q /\ q < W0.heap.size):=fun k hk q=>hF.lt hk
 have HLR:Hid (W0.ownsRow bl 22 1 (.slice lo K lc) K ((List.range K).map v) /\ ∀ W:World,(∀ k,k < W0.heap.size -> (∀ i,i < K -> (v i).ownBlock ≠ some k) -> W.heap[k]? = W0.heap[k]?) -> W.ownsRow bl 22 1 (.slice lo K lc) K ((List.range K).map v)):=⟨hl,fun W hW=>owns_keep hl fun k e=>hW k (HDL.out k e).2 (HDL.out k e).1⟩
 have PA:Hid (∃ C,FamA W0 W0 45 base K v n C /\ (∀ k,k < 0 -> C k = List.replicate (n k) (vA k))):=⟨C0,⟨Below.refl _ _,hF,fun _ _=>rfl,rfl⟩,fun k hk=>absurd hk (by omega)⟩
 clear hl hF hb0 hn
 go_enter Tryz.func10,Tryz.ntmps10
 go_wp2_with fail
 go_loopg [3] K (fun gg iv wx=>∃ i:Nat,iv = .int .i64 i /\ i + gg = K /\ Hid (∃ C,FamA W0 wx 45 base K v n C /\ (∀ k,k < i -> C k = List.replicate (n k) (vA k))))
 case atStart=>exact ⟨0,rfl,by omega,PA⟩
 case round=>
  clear PA
  obtain ⟨i,rfl,hj,P5⟩:=hrel
  by_cases hiK:i < K
  ·have e1:decide ((i:Int) < (K:Int)) = true:=decide_eq_true (by omega)
   obtain ⟨qq,rfl⟩:∃ q,gk = q + 1:=⟨gk - 1,by omega⟩
   have HIG:Hid (i + (qq + 1) = K):=hj
   have hiK':(i:Int) < (K:Int):=by omega
   obtain ⟨q,rfl⟩:=own_someO HLR.out.1 (by omega)
   have P6:Hid (∃ C,FamA W0 wr 45 base K v n C /\ (∀ k,k < i -> C k = List.replicate (n k) (vA k)) /\ ∀ j',j' < 0 -> (C i)[j']? = some (vA i)):=by obtain ⟨C,S,hC⟩:=P5.out;exact ⟨C,S,hC,fun j' h=>absurd h (by omega)⟩
   obtain ⟨ao,cp,hvi,hnm,hvs⟩:∃ ao cap,v i = .slice ao (n i) cap /\ n i <= 1100000 /\ (0 < n i -> ∃ g,ao = some ⟨g,0,none⟩):=by
    obtain ⟨C,S,hC⟩:=P5.out
    obtain ⟨ao,cap,h1,h2,h3⟩:=OwX.formF (S.f.f i hiK)
    exact ⟨ao,cap,h1,HNN.out i hiK,h3⟩
   obtain ⟨ni,hni⟩:∃ m,n i = m:=⟨_,rfl⟩
   rw [hni] at hvi hnm hvs
   have HVI:Hid (v i = .slice ao ni cp /\ n i = ni /\ (0 < ni -> ∃ g,ao = some ⟨g,0,none⟩)):=⟨hvi,hni,hvs⟩
   clear hj P5 hvi hni hvs
   go_wp2_with fail
   go_loopg [4] ni (fun gg iv wx=>∃ j:Nat,iv = .int .i64 j /\ j + gg = ni /\ Hid (∃ C,FamA W0 wx 45 base K v n C /\ (∀ k,k < i -> C k = List.replicate (n k) (vA k)) /\ ∀ j',j' < j -> (C i)[j']? = some (vA i)))
   case atStart=>exact ⟨0,rfl,by omega,P6⟩
   case round=>
    clear P6
    obtain ⟨j,rfl,hj,P6⟩:=hrel
    obtain ⟨C,S',hC',hM'⟩:=P6.out
    have S:Hid (FamA W0 wr 45 base K v n C):=S'
    have hC:Hid (∀ k,k < i -> C k = List.replicate (n k) (vA k)):=hC'
    have hM:Hid (∀ j',j' < j -> (C i)[j']? = some (vA i)):=hM'
    clear P6 S' hC' hM'
    have CL:wr.cell? ⟨q,i,none⟩ = some (.slice ao ni cp):=by
     have h9:=World.ownsRow.cellAt (HLR.out.2 _ fun k _=>S.out.o k) i (by rw [Nat.mul_one];exact hiK)
     rw [List.getElem?_map,List.getElem?_range hiK,Option.map_some,HVI.out.1] at h9
     exact h9
    by_cases hjn:j < ni
    ·have e2:decide ((j:Int) < (ni:Int)) = true:=decide_eq_true (by omega)
     obtain ⟨qr,rfl⟩:∃ q,gk = q + 1:=⟨gk - 1,by omega⟩
     have HJG:Hid (j + (qr + 1) = ni):=hj
     have hjn':(j:Int) < (ni:Int):=by omega
     obtain ⟨G,rfl⟩:=HVI.out.2.2 (by omega)
     have v1:(1000 + (i:Int)) % 18446744073709551616 = 1000 + (i:Int):=by omega
     have v2:IntKind.i64.wrap (1000 + (i:Int)) = 1000 + (i:Int):=by simp [IntKind.wrap,IntKind.bits,IntKind.signed];omega
     have hcv:=cv_A i
     have OV:OwX wr base 45 (.slice (some ⟨G,0,none⟩) ni cp) ni (C i):=by
      have h1:=S.out.f.f i hiK
      rw [HVI.out.1,HVI.out.2.1] at h1
      exact h1
     clear hj
     go_wp2_with (refine OwX.write (by rfl) _ _ (by rfl) Tryz.szFO W0 base base G ni cp j (C i) (.float .f64 (mA i)) (by rfl) (by rfl) (by rfl) (by rfl) OV hjn S.out.b (Nat.le_refl _) ?_;intro W5 o5 b5 z5 k5)
     have P9:Hid (∃ C,FamA W0 W5 45 base K v n C /\ (∀ k,k < i -> C k = List.replicate (n k) (vA k)) /\ ∀ j',j' < j + 1 -> (C i)[j']? = some (vA i)):=by
      refine ⟨_,S.out.write hiK (vs:=(C i).set j (vA i)) ?_ b5 z5 ?_,fun k hk=>?_,fun j' hj'=>?_⟩
      ·rw [HVI.out.1,HVI.out.2.1];exact o5
      ·intro k hk
       refine k5 k ?_
       rintro rfl
       exact hk (by rw [HVI.out.1];rfl)
      ·simp only [if_neg (show k ≠ i by omega)]
       exact hC.out k hk
      ·simp only [if_pos]
       have hl:=OV.1
       by_cases hjj:j' = j
       ·subst hjj
        rw [List.getElem?_set_self (by omega)]
       ·rw [List.getElem?_set_ne (Ne.symm hjj)]
        exact hM.out j' (by omega)
     clear o5 b5 z5 k5 OV hcv v1 v2
     go_roundg qr
     case measure=>omega
     case rel=>exact ⟨j + 1,by go_num,by have:=HJG.out;omega,P9⟩
    ·have hd1:decide ((j:Int) < (ni:Int)) = false:=decide_eq_false (by omega)
     have hd2:decide (j < ni) = false:=decide_eq_false (by omega)
     have P9:Hid (∃ C,FamA W0 wr 45 base K v n C /\ (∀ k,k < i + 1 -> C k = List.replicate (n k) (vA k))):=by
      refine ⟨C,S.out,fun k hk=>?_⟩
      by_cases hki:k = i
      ·subst hki
       have hl:=S.out.f.len hiK
       have h2:=HVI.out.2.1
       refine List.ext_getElem? fun j'=>?_
       rw [List.getElem?_replicate]
       by_cases hjj:j' < n k
       ·rw [if_pos hjj];exact hM.out j' (by omega)
       ·rw [if_neg hjj,List.getElem?_eq_none (by omega)]
      ·exact hC.out k (by omega)
     clear hj S hC hM
     go_wp2_with fail
     go_roundg qq
     case measure=>omega
     case rel=>exact ⟨i + 1,by go_num,by have:=HIG.out;omega,P9⟩
  ·have hd1:decide ((i:Int) < (K:Int)) = false:=decide_eq_false (by omega)
   have hd2:decide (i < K) = false:=decide_eq_false (by omega)
   have hiE:i = K:=by omega
   clear hj
   subst hiE
   have P8:Hid (∃ u,FamB wr wr 45 22 40 wr.heap.size base i 0 v u n (fun k=>List.replicate (n k) (vA k)) vB (.slice none 0 0)):=by
    obtain ⟨C,S,hC⟩:=P5.out
    exact ⟨fun _=>.slice none 0 0,Fam.toB ⟨fun k hk=>by have h1:=S.f.f k hk;rw [hC k hk] at h1;exact h1,S.f.a⟩⟩
   have PW:Hid (Below base W0 wr /\ (∀ k,(∀ j,j < i -> (v j).ownBlock ≠ some k) -> wr.heap[k]? = W0.heap[k]?) /\ wr.heap.size = W0.heap.size):=by
    obtain ⟨C,S,hC⟩:=P5.out
    exact ⟨S.b,S.o,S.z⟩
   obtain ⟨W1,rfl⟩:∃ x,x = wr:=⟨_,rfl⟩
   have HB1:Hid (base <= W1.heap.size):=by unfold Hid;rw [PW.out.2.2];exact HB0.out
   have HLT1:Hid (∀ k,k < i -> ∀ q,(v k).ownBlock = some q -> base <= q /\ q < W1.heap.size):=by unfold Hid;rw [PW.out.2.2];exact HLT.out
   clear P5
   obtain ⟨Hn,hHn⟩:∃ h,W1.heap.size = h:=⟨_,rfl⟩
   rw [hHn] at P8 HB1 HLT1
   have HHN:Hid (Hn = W0.heap.size):=by rw [<- hHn];exact PW.out.2.2
   have HKK:Hid (i <= 20000000):=hK
   clear hHn hK
   go_wp2_with fail
   go_loopg [5,6] i (fun gg gv iv wx=>∃ k:Nat,iv = .int .i64 k /\ k + gg = i /\ Hid (∃ u,FamB W1 wx 45 22 40 Hn base i k v u n (fun k=>List.replicate (n k) (vA k)) vB gv))
   case atStart=>exact ⟨0,rfl,by omega,P8⟩
   case round=>
    clear P8
    obtain ⟨k,rfl,hj2,P9⟩:=hrel
    by_cases hkK:k < i
    ·have e1:decide ((k:Int) < (i:Int)) = true:=decide_eq_true (by omega)
     obtain ⟨qq,rfl⟩:∃ q,gk = q + 1:=⟨gk - 1,by omega⟩
     have HIG:Hid (k + (qq + 1) = i):=hj2
     have hkK':(k:Int) < (i:Int):=by omega
     obtain ⟨u,S'⟩:=P9.out
     obtain ⟨q,rfl⟩:=own_someO HLR.out.1 (by omega)
     have S:Hid (FamB W1 wr 45 22 40 Hn base i k v u n (fun k=>List.replicate (n k) (vA k)) vB u5):=S'
     obtain ⟨ao,cp,hvi,hnm⟩:∃ ao cap,v k = .slice ao (n k) cap /\ n k <= 1100000:=by
      obtain ⟨ao,cap,h1,h2,h3⟩:=OwX.formF (S'.f k (Nat.le_refl _) hkK)
      exact ⟨ao,cap,h1,HNN.out k hkK⟩
     have CL:wr.cell? ⟨q,k,none⟩ = some (.slice ao (n k) cp):=by
      have h9:=World.ownsRow.cellAt (HLR.out.2 _ fun k hk hne=>((S.out.o k (by rw [HHN.out];exact hk) hne).trans (PW.out.2.1 k hne))) k (by rw [Nat.mul_one];exact hkK)
      rw [List.getElem?_map,List.getElem?_range hkK,Option.map_some,hvi] at h9
      exact h9
     have PB:Hid (FamC wr wr 45 base (v k) (n k) (List.replicate (n k) (vA k)) (vB k) 0 (.slice ao (n k) cp)):=by
      have h1:=S.out.begin hkK
      rw [hvi] at h1 ⊢
      exact h1
     obtain ⟨nk,hnk⟩:∃ m,n k = m:=⟨_,rfl⟩
     rw [hnk] at CL PB hnm
     have HNK:Hid (n k = nk /\ nk <= 1100000):=⟨hnk,hnm⟩
     clear hj2 P9 S' hvi hnk hnm
     go_wp2_with fail
     clear CL
     obtain ⟨Wy,hWy⟩:∃ W,wr = W:=⟨_,rfl⟩
     rw [hWy] at S PB
     go_loopg [7,8] 40 (fun gg bv iv wx=>∃ j:Nat,iv = .int .i64 j /\ j + gg = 40 /\ Hid (FamC Wy wx 45 base (v k) nk (List.replicate nk (vA k)) (vB k) j bv))
     case atStart=>exact ⟨0,rfl,by omega,by rw [hWy];exact PB⟩
     case round=>
      clear PB hWy
      obtain ⟨j,rfl,hj,T⟩:=hrel
      by_cases hj9:j < 40
      ·have e2:decide ((j:Int) < 40) = true:=decide_eq_true (by omega)
       obtain ⟨qr,rfl⟩:∃ q,gk = q + 1:=⟨gk - 1,by omega⟩
       have HJG:Hid (j + (qr + 1) = 40):=hj
       have hbw:base <= wr.heap.size:=Nat.le_trans (Nat.le_trans HB1.out S.out.z) T.out.gr.size
       have hl9:nk + j + 1 <= 200000000:=by have:=HNK.out.2;omega
       have hi3:i <= 20000000:=HKK.out
       have v2:IntKind.i64.wrap (-1000 - (k:Int)) = -1000 - (k:Int):=by simp [IntKind.wrap,IntKind.bits,IntKind.signed];omega
       have hcv:=cv_B k
       clear hj
       go_upto_region 16 with fail
       go_wp2_with (first
        | (at_builtin;refine append_gx Tryz.underlying22 Tryz.infoFO rfl (by decide) _ (by rfl) _ _ (by rfl) base u7 (nk + j) (List.replicate nk (vA k) ++ List.replicate j (vB k)) (by rfl) (OwX.alloc T.out.o _) ⟨wr.heap.size,0,none⟩ 1 1 [.float .f64 (mB k)] (by rfl) rfl (by decide) (news_oneJ (heap_alloc_new wr _)) (by intro u hu;simp at hu;subst hu;rfl) hl9 (by rw [alloc_size];exact Nat.le_succ_of_le hbw) ?_;intro v5 w5 o5 g5))
       have T2:Hid (FamC Wy w5 45 base (v k) nk (List.replicate nk (vA k)) (vB k) (j + 1) v5):=T.out.step (fun q e=>by have:=(HLT1.out k hkK q e).2;have:=S.out.z;omega) (by simp) o5 g5.alloc.grx
       clear T o5 g5 v2 hbw hcv
       go_roundg qr
       case measure=>omega
       case rel=>exact ⟨j + 1,by go_num,by have:=HJG.out;omega,T2⟩
      ·have e2:decide ((j:Int) < 40) = false:=decide_eq_false (by omega)
       have e3:decide (j < 40) = false:=decide_eq_false hj9
       obtain rfl:j = 40:=by omega
       have HV:Hid (wr.ownsRow Hn 22 1 u5 k ((List.range k).map u)):=FamC.l S.out (by rw [HNK.out.1];exact T.out) fun q e=>(HLT1.out k hkK q e).2
       have hbw:Hn <= wr.heap.size:=Nat.le_trans S.out.z T.out.gr.size
       have hl9:k + 1 <= 200000000:=by have:=HKK.out;omega
       obtain ⟨ao7,cp7,hu7,_⟩:=OwX.formF T.out.o
       subst hu7
       clear hj
       go_wp2_with (first | (at_builtin;refine append_gx Tryz.underlying24 Tryz.infoFsO rfl (by decide) _ (by rfl) _ _ (by rfl) Hn u5 k ((List.range k).map u) (by rfl) (OwX.alloc (OwX.of HV.out) _) ⟨wr.heap.size,0,none⟩ 1 1 [.slice ao7 (nk + 40) cp7] (by rfl) rfl (by decide) (news_oneJ (heap_alloc_new wr _)) (by intro x hx;simp at hx;subst hx;rfl) hl9 (by rw [alloc_size];exact Nat.le_succ_of_le hbw) ?_;intro v5 w5 o5 g5))
       have PE:Hid (∃ u,FamB W1 w5 45 22 40 Hn base i (k + 1) v u n (fun k=>List.replicate (n k) (vA k)) vB v5):=⟨_,S.out.next (by decide) (by rw [HNK.out.1];exact T.out) hkK HLT1.out HAP.out HB1.out o5 g5.alloc.grx⟩
       clear S T HV hbw o5 g5
       go_roundg qq
       case measure=>omega
       case rel=>exact ⟨k + 1,by go_num,by have:=HIG.out;omega,PE⟩
    ·have e1:decide ((k:Int) < (i:Int)) = false:=decide_eq_false (by omega)
     have e2:decide (k < i) = false:=decide_eq_false (by omega)
     have hkE:k = i:=by omega
     clear hj2
     go_wp2_with fail
     rw [hkE] at P9
     clear hkE e1 e2
     obtain ⟨u,S'⟩:=P9.out
     obtain ⟨W3,rfl⟩:∃ x,x = wr:=⟨_,rfl⟩
     have S:Hid (FamB W1 W3 45 22 40 Hn base i i v u n (fun k=>List.replicate (n k) (vA k)) vB u5):=S'
     obtain ⟨ao5,cp5,hu5,_⟩:=own_formO S'.l
     subst hu5
     clear S' P9
     go_loopg [9] i (fun gg iv wx=>∃ k:Nat,iv = .int .i64 k /\ k + gg = i /\ wx = W3)
     case atStart=>exact ⟨0,rfl,by omega,rfl⟩
     case round=>
      obtain ⟨k,rfl,hj,rfl⟩:=hrel
      by_cases hkK:k < i
      ·have e1:decide ((k:Int) < (i:Int)) = true:=decide_eq_true (by omega)
       obtain ⟨qq,rfl⟩:∃ q,gk = q + 1:=⟨gk - 1,by omega⟩
       have HIG:Hid (k + (qq + 1) = i):=hj
       have hkK':(k:Int) < (i:Int):=by omega
       obtain ⟨q,rfl⟩:=own_someO HLR.out.1 (by omega)
       obtain ⟨p,rfl⟩:=own_someO S.out.l (by omega)
       obtain ⟨ao,cp,hvi,hvs⟩:∃ ao cap,v k = .slice ao (n k) cap /\ (0 < n k -> ∃ g,ao = some ⟨g,0,none⟩):=HFO.out k hkK
       obtain ⟨au,cu,hui,hum,hus⟩:=OwX.formF (S.out.w k hkK)
       obtain ⟨g7,rfl⟩:=hus (by omega)
       have CL:wr.cell? ⟨q,k,none⟩ = some (.slice ao (n k) cp):=by
        have h9:=World.ownsRow.cellAt (HLR.out.2 _ fun k hk hne=>((S.out.o k (by rw [HHN.out];exact hk) hne).trans (PW.out.2.1 k hne))) k (by rw [Nat.mul_one];exact hkK)
        rw [List.getElem?_map,List.getElem?_range hkK,Option.map_some,hvi] at h9
        exact h9
       have CM:wr.cell? ⟨p,k,none⟩ = some (.slice (some ⟨g7,0,none⟩) (n k + 40) cu):=by
        have h9:=World.ownsRow.cellAt S.out.l k (by rw [Nat.mul_one];exact hkK)
        rw [List.getElem?_map,List.getElem?_range hkK,Option.map_some,hui] at h9
        exact h9
       have RW:Hid (∀ j,wr.cell? ⟨g7,j,none⟩ = (List.replicate (n k) (vA k) ++ List.replicate 40 (vB k))[j]? \/ n k + 40 <= j):=by
        intro j
        by_cases hj:j < n k + 40
        ·have h9:=S.out.w k hkK
         rw [hui] at h9
         exact .inl (OwX.cellF h9 rfl hj)
        ·exact .inr (by omega)
       have RV:Hid (∀ g j,ao = some ⟨g,0,none⟩ -> j < n k -> wr.cell? ⟨g,j,none⟩ = some (vA k)):=fun g j e hj=>S.out.r k hkK g (n k) cp (by rw [hvi,e]) j _ (by rw [List.getElem?_replicate,if_pos hj])
       obtain ⟨nk,hnk⟩:∃ m,n k = m:=⟨_,rfl⟩
       have HNK:Hid (nk <= 1100000):=hnk ▸ HNN.out k hkK
       rw [hnk] at CL CM RW RV hvs
       have HVS:Hid (0 < nk -> ∃ g,ao = some ⟨g,0,none⟩):=hvs
       clear hj hvi hui hum hus hnk hvs
       go_wp2_with fail
       go_loopg [10] (nk + 40) (fun gg iv wx=>∃ j:Nat,iv = .int .i64 j /\ j + gg = nk + 40 /\ wx = wr)
       case atStart=>exact ⟨0,rfl,by omega,rfl⟩
       case round=>
        obtain ⟨j,rfl,hj,rfl⟩:=hrel
        by_cases hjn:j < nk + 40
        ·have e2:decide ((j:Int) < ((nk + 40:Nat):Int)) = true:=decide_eq_true (by omega)
         have e2b:decide ((j:Int) < (nk:Int) + 40) = true:=decide_eq_true (by omega)
         obtain ⟨qr,rfl⟩:∃ q,gk = q + 1:=⟨gk - 1,by omega⟩
         have HJG:Hid (j + (qr + 1) = nk + 40):=hj
         have hi3:i <= 20000000:=HKK.out
         have hn3:nk <= 1100000:=HNK.out
         have v1:(1000 + (k:Int)) % 18446744073709551616 = 1000 + (k:Int):=by omega
         have v2:IntKind.i64.wrap (1000 + (k:Int)) = 1000 + (k:Int):=by simp [IntKind.wrap,IntKind.bits,IntKind.signed];omega
         have v3:IntKind.i64.wrap (-1000 - (k:Int)) = -1000 - (k:Int):=by simp [IntKind.wrap,IntKind.bits,IntKind.signed];omega
         have hcvA:=cv_A k
         have hcvB:=cv_B k
         clear hj
         by_cases hjk:j < nk
         ·obtain ⟨g,rfl⟩:=HVS.out (by omega)
          have e4:decide ((nk:Int) <= (j:Int)) = false:=decide_eq_false (by omega)
          have e5:decide ((j:Int) < (nk:Int)) = true:=decide_eq_true (by omega)
          have c1:wr.cell? ⟨g7,j,none⟩ = some (.float .f64 (mA k)):=by
           rcases RW.out j with h | h
           ·rw [h,List.getElem?_append_left (by rw [List.length_replicate];exact hjk),List.getElem?_replicate,if_pos hjk];rfl
           ·omega
          have c2:wr.cell? ⟨g,j,none⟩ = some (.float .f64 (mA k)):=RV.out g j rfl hjk
          have hne:=ne_A k
          have hjk':(j:Int) < (nk:Int):=by omega
          go_wp2_with fail
          go_roundg qr
          case measure=>omega
          case rel=>exact ⟨j + 1,by go_num,by have:=HJG.out;omega,rfl⟩
         ·have e4:decide ((nk:Int) <= (j:Int)) = true:=decide_eq_true (by omega)
          have e5:decide ((j:Int) < (nk:Int)) = false:=decide_eq_false (by omega)
          have c1:wr.cell? ⟨g7,j,none⟩ = some (.float .f64 (mB k)):=by
           rcases RW.out j with h | h
           ·rw [h,List.getElem?_append_right (by rw [List.length_replicate];omega),List.length_replicate,List.getElem?_replicate,if_pos (show j - nk < 40 by omega)];rfl
           ·omega
          have hne:=ne_B k
          have hjk':(nk:Int) <= (j:Int):=by omega
          go_wp2_with fail
          go_roundg qr
          case measure=>omega
          case rel=>exact ⟨j + 1,by go_num,by have:=HJG.out;omega,rfl⟩
        ·have e2:decide ((j:Int) < ((nk + 40:Nat):Int)) = false:=decide_eq_false (by omega)
         have e2b:decide ((j:Int) < (nk:Int) + 40) = false:=decide_eq_false (by omega)
         have e3:decide (j < nk + 40) = false:=decide_eq_false hjn
         have hi3:i <= 20000000:=HKK.out
         clear hj
         go_wp2_with fail
         go_roundg qq
         case measure=>omega
         case rel=>exact ⟨k + 1,by go_num,by have:=HIG.out;omega,rfl⟩
      ·have e1:decide ((k:Int) < (i:Int)) = false:=decide_eq_false (by omega)
       have e2:decide (k < i) = false:=decide_eq_false (by omega)
       clear hj
       go_wp2_with fail
       go_ret
       exact ⟨rfl,PW.out.1.trans S.out.b,fun k hk hne=>(S.out.o k (by rw [HHN.out];exact hk) hne).trans (PW.out.2.1 k hne)⟩
end Go.Proofs.YtmdjoaipkbnelaaGreat
