import Derived.Test.YtmdjoaipkbnelaaGreatPYg
set_option maxHeartbeats 2000000
set_option linter.unusedVariables false
set_option linter.unusedSimpArgs false
namespace Go.Proofs.YtmdjoaipkbnelaaGreat
open Go.RowKit Go.Shelf
theorem FrL.fry {W:World} {base n bc br:Nat} {vi vg:Value} {gl:List Nat} {y:ZD} {N:Int} {bad:Bool} {cs rs:List Nat} {ids:List Int} {gs:List (List Nat)} (h:FrL W base n bc br cs rs ids gs vi vg gl) (e:(.agg #[.int .i64 N,slN n bc,vi,vg,slN n br,.bool bad]:Value) = .agg (zRow y)) (hN:y.N = N) (hb:y.bad = bad) (hc:y.cs = cs) (hr:y.rs = rs) (hi:y.ids = ids) (hg:y.gs = gs):FrY W base y:=by
 subst hN hb hc hr hi hg
 exact ⟨n,bc,br,vi,vg,gl,(Value.agg.inj e).symm,h⟩
def badZ0 (N:Int):ZD:=⟨N,none,0,0,none,0,0,none,0,0,none,0,0,true,[],[],fun _=>(none,0,0),[],[]⟩
theorem badZ0_own (N:Int) (W:World) (b:Nat):OwnY W b (badZ0 N):=.inl ⟨rfl,rfl,rfl,rfl,rfl,rfl,rfl,rfl,rfl,rfl,rfl,rfl⟩
theorem badZ0_zr (N:Int) (W:World):ZR W (badZ0 N):=⟨⟨rfl,Nat.zero_le _,fun u hu=>(by cases hu),.inl rfl⟩,⟨rfl,Nat.zero_le _,.inl rfl⟩,⟨rfl,Nat.zero_le _,.inl rfl,fun j hj=>absurd hj (Nat.not_lt_zero _)⟩,⟨rfl,Nat.zero_le _,fun u hu=>(by cases hu),.inl rfl⟩⟩
structure LfO (x:ZD) (next:Int) (y:ZD):Prop where
 is:((!x.bad && wholeB x) = true /\ mayB x next = true /\ LfR x next y) \/ (((!x.bad && wholeB x) = false \/ mayB x next = false) /\ y = badZ0 (tkZ x).N)
theorem liftO_any (x:ZD) (next:Int) (w:World) (hx:ZR w x) (hd:x.dn <= 1049000) (hnx:-9223372036854775808 <= next /\ next < 9223372036854775808) :
  Calls Tryz.prog 5 #[.agg (zRow x),.int .i64 next] w fun e w'=>∃ (y:ZD) (n:Int),e = .returned (.tuple #[.agg (zRow y),.int .i64 n]) /\ ZR w' y /\ LfO x next y /\ OwnY w' w.heap.size y /\ Below w.heap.size w w':=by
 cases hg:(!x.bad && wholeB x) with
 | false=>
  refine Calls.mono (lift_bad x next w hx (tk_bad hg)) ?_
  rintro e w' ⟨he,hb⟩
  exact ⟨badZ0 (tkZ x).N,next,he,badZ0_zr _ _,⟨.inr ⟨.inl hg,rfl⟩⟩,badZ0_own _ _ _,hb⟩
 | true=>
  obtain ⟨hb0,hw,hc⟩:=tk_good hg
  have hf:=WhF.of hx (by omega) hw
  have ht:=tk_self hc
  have h2:=hf.n2
  cases hm:mayB x next with
  | true=>
   have hi:=hx.i.length
   have hg2:=hx.g.length
   have h:=lift_ok x next w hx (by rw [ht];exact hb0) (by rw [ht,hf.cn];exact hf.N) (by rw [ht];exact hf.cn) (by rw [ht];exact hf.dg) (by rw [ht,hf.cn];omega) (by rw [ht];omega) (by rw [ht];intro k hk;rw [hf.cn];exact hf.gl k hk) hnx (by rw [ht];exact hm)
   rw [ht,hf.cn] at h
   refine Calls.mono h ?_
   rintro e w' ⟨bc,br,vi,vg,gl,rfl,hF,hb'⟩
   have e1:(x.rs.map plainM).length = x.rn:=by rw [List.length_map];exact hf.rl
   have hcnt:=lfS_count x.rn (x.rs.map plainM) next x.rn (by omega)
   rw [List.take_of_length_le (by omega),madeN_plain] at hcnt
   have hlen:=(lfS_len x.rn (x.rs.map plainM) next x.rn).2
   have hml:=madeN_le x.rs
   have hrl:=hf.rl
   have hdg:=hf.dg
   obtain ⟨y,hy,hzr,hzw,y1,y2,y3,y4,y5,y6,y7,y8,y9,y10⟩:=hF.zrW x.N false (by omega) (by rw [List.length_append,hcnt,hi];omega) (by rw [List.length_append,List.length_map,hlen,hcnt,hg2];omega)
   exact ⟨y,_,by rw [hy],hzr,⟨.inl ⟨hg,hm,⟨y1,y2,y3,y4,y5,y6,y7,y8,by rw [y9,y5],by rw [y10,y6]⟩⟩⟩,.inr (hF.fry hy y1 y2 y3 y4 y5 y6),hb'⟩
  | false=>
   refine Calls.mono (lift_no x next w hx (by rw [ht];exact hb0) hnx (by rw [ht];omega) (by rw [ht];omega) (by rw [ht];exact hm)) ?_
   rintro e w' ⟨he,hb'⟩
   exact ⟨badZ0 (tkZ x).N,next,he,badZ0_zr _ _,⟨.inr ⟨.inr hm,rfl⟩⟩,badZ0_own _ _ _,hb'⟩
end Go.Proofs.YtmdjoaipkbnelaaGreat
