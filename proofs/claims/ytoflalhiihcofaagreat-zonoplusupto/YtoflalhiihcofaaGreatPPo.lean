import Derived.Test.YtoflalhiihcofaaGreatPPr
set_option linter.unusedVariables false
set_option linter.unusedSimpArgs false
namespace Go.Proofs.YtoflalhiihcofaaGreat
open Go.RowKit Go.Shelf
def RlQ (ou:Bool) (W:World) (E:Nat) (u:ZD) (N:Int) (vc vr vi vg:Value):Prop:=ou = true -> N = u.N /\ ∃ gl B,RlS W B E u.cs u.rs u.ids u.gs vc vr vi vg gl
theorem RlQ.later {ou:Bool} {W W2:World} {E:Nat} {u:ZD} {N:Int} {vc vr vi vg:Value} (h:RlQ ou W E u N vc vr vi vg) (hb:Below W.heap.size W W2):RlQ ou W2 E u N vc vr vi vg:=fun e=>by
 obtain ⟨k1,gl,B,k2⟩:=h e
 exact ⟨k1,gl,B,k2.later hb⟩
theorem RlQ.mk {ou:Bool} {W W2:World} {E B:Nat} {u:ZD} {N:Int} {vc vr vi vg:Value} (h:ou = true -> N = u.N /\ ∃ gl,RlS W B E u.cs u.rs u.ids u.gs vc vr vi vg gl) (hb:Below W.heap.size W W2):RlQ ou W2 E u N vc vr vi vg:=fun e=>by
 obtain ⟨k1,gl,k2⟩:=h e
 exact ⟨k1,gl,B,k2.later hb⟩
theorem RowZ.lt {w:World} {base s:Nat} {T:Int} {v:Value} {zs:List Int} (h:RowZ w base v s T zs):∀ g,v.ownBlock = some g -> base <= g /\ g < w.heap.size:=fun g hg=>by
 obtain ⟨xs,h1,_⟩:=h.own
 exact World.ownsRow.lt h1 g hg
structure PcI (X W:World) (E:Nat) (vc vr:Value) (zc zr:List Int):Prop where
 b:Below X.heap.size X W
 c:RowZ W X.heap.size vc E 1025 zc
 r:RowZ W X.heap.size vr E 1025 zr
 ne:∀ g,vc.ownBlock = some g -> vr.ownBlock ≠ some g
theorem PcI.later {X W W':World} {E:Nat} {vc vr:Value} {zc zr:List Int} (h:PcI X W E vc vr zc zr) (hb:Below W.heap.size W W'):PcI X W' E vc vr zc zr:=⟨to_call h.b hb,h.c.later hb,h.r.later hb,h.ne⟩
theorem rdI_ownB {w:World} {base:Nat} {v:Value} {is:List Int} (h:w.ownsRow base 3 1 v is.length (is.map (Value.int .i64))):∃ ao cap,v = .slice ao is.length cap /\ RdIs w ao is.length cap is:=by
 obtain ⟨ao,cap,rfl,hm,hc⟩:=owns_slice h
 refine ⟨ao,cap,rfl,rfl,hm,?_⟩
 rcases hc with h0 | ⟨g,rfl,hc⟩
 ·exact .inl h0
 ·exact .inr ⟨g,0,rfl,fun j hj=>by rw [Nat.zero_add,hc j hj,List.getElem?_map,List.getElem?_eq_getElem hj];rfl⟩
theorem RowN.rd {w:World} {base E n:Nat} {v:Value} {us:List Nat} (h:RowN w base v E us) (hl:us.length = n) (hn:1 <= n):∃ b cap,v = .slice (some ⟨b,0,none⟩) n cap /\ ∀ k,k < n -> ∃ nx ox lx cx ex,w.rangeAt b (k * 3) [.bool nx,.slice ox lx cx,.int .i64 ex] /\ NumC w (.agg #[.bool nx,.slice ox lx cx,.int .i64 ex]) E 1024 (fval (us[k]?.getD 0)):=by
 obtain ⟨b,cap,_,_,_,_,_,hv,_,_⟩:=h.range (k:=0) (by omega)
 refine ⟨b,cap,by rw [hv,hl],fun k hk=>?_⟩
 obtain ⟨b2,cap2,nx,ox,lx,cx,ex,hv2,hr,hz⟩:=h.range (k:=k) (by omega)
 rw [hv] at hv2
 cases hv2
 exact ⟨nx,ox,lx,cx,ex,hr,hz⟩
theorem RowZ.rd {w:World} {base s n:Nat} {T:Int} {v:Value} {zs:List Int} (h:RowZ w base v s T zs) (hl:zs.length = n) (hn:1 <= n):∃ b cap,v = .slice (some ⟨b,0,none⟩) n cap /\ ∀ k,k < n -> ∃ nx ox lx cx ex,w.rangeAt b (k * 3) [.bool nx,.slice ox lx cx,.int .i64 ex] /\ NumC w (.agg #[.bool nx,.slice ox lx cx,.int .i64 ex]) s T (zs[k]?.getD 0):=by
 obtain ⟨b,cap,_,_,_,_,_,hv,_,_⟩:=h.range (k:=0) (by omega)
 refine ⟨b,cap,by rw [hv,hl],fun k hk=>?_⟩
 obtain ⟨b2,cap2,nx,ox,lx,cx,ex,hv2,hr,hz⟩:=h.range (k:=k) (by omega)
 rw [hv] at hv2
 cases hv2
 exact ⟨nx,ox,lx,cx,ex,hr,hz⟩
theorem CoZ.nil (w:World) (base s:Nat) (T:Int):CoZ w base (.slice none 0 0) s T []:=⟨⟨[],rfl,World.ownsRow_nil _ _ _ _,(fun g hg=>by cases hg),fun k hk=>absurd hk (Nat.not_lt_zero _)⟩⟩
theorem CoZ.push {w w':World} {base s B:Nat} {T:Int} {v v' x:Value} {gz:List (List Int)} {zs:List Int} {gl:List Value} (hl:gl.length = gz.length) (hown:w.ownsRow base 27 1 v gz.length gl) (hcl:∀ g,v.ownBlock = some g -> Cl noU w g) (hrow:∀ k,k < gz.length -> ∃ B,RowZ w B (gl[k]?.getD (.slice none 0 0)) s T (gz[k]?.getD [])) (hz:RowZ w B x s T zs)
  (ho:w'.ownsRow base 27 1 v' (gz.length + 1) (gl ++ [x])) (hg:Grw w w' v.ownBlock v'.ownBlock) (hcl':∀ g,v'.ownBlock = some g -> Cl noU w' g):CoZ w' base v' s T (gz ++ [zs]):=by
 refine ⟨⟨gl ++ [x],by simp [hl],by rw [List.length_append];exact ho,hcl',fun k hk=>?_⟩⟩
 by_cases e:k < gz.length
 ·obtain ⟨B2,hB⟩:=hrow k e
  rw [List.getElem?_append_left (by omega),List.getElem?_append_left e]
  exact ⟨B2,hB.grwT hown (by decide) hg hcl⟩
 ·have ek:k = gz.length:=by rw [List.length_append] at hk;simp only [List.length_cons,List.length_nil] at hk;omega
  subst ek
  rw [List.getElem?_append_right (by omega),hl,List.getElem?_append_right (Nat.le_refl _),Nat.sub_self]
  exact ⟨B,hz.grwT hown (by decide) hg hcl⟩
theorem CoZ.form {w:World} {base s:Nat} {T:Int} {v:Value} {gz:List (List Int)} (h:CoZ w base v s T gz):∃ ao cap,v = .slice ao gz.length cap:=by
 obtain ⟨gl,h1,h2,_⟩:=h.own
 obtain ⟨ao,cap,hv,_⟩:=owns_slice h2
 exact ⟨ao,cap,hv⟩
structure GdU (u:ZD) (n:Nat):Prop where
 N:u.N = (n:Int)
 n1:1 <= n
 n2:n <= 256
 c:u.cs.length = n
 r:u.rs.length = n
 ig:u.ids.length = u.gs.length
 g:∀ k,k < u.gs.length -> (u.gs[k]?.getD []).length = n
 few:u.gs.length <= 1050000
 tk:(tkZ u).N = (n:Int)
theorem GdU.of {w:World} {u:ZD} (hu:ZU w u) (wu:UW u) (h:(!u.bad && wholeB u) = true):GdU u u.rn:=by
 obtain ⟨_,hw,hc⟩:=tk_good h
 obtain ⟨h1,h2,h3,h4,h5,_,h7⟩:=(wholeB_iff u).1 hw
 have hrl:=hu.r.length
 have e3:=(numN_fin h3).1
 have e4:=(numN_fin h4).1
 have hig:=hu.i.length
 have hgg:=hu.g.length
 have hN:u.N = (u.rn:Int):=by omega
 refine ⟨hN,by omega,by omega,by omega,by omega,by omega,fun k hk=>?_,by have:=wu.gl;omega,by rw [tk_self hc];exact hN⟩
 have:=(numN_fin (h7 k (by omega)).2.2).1
 omega
end Go.Proofs.YtoflalhiihcofaaGreat
