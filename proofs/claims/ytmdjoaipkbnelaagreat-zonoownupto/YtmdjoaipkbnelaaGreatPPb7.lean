import Derived.Test.YtmdjoaipkbnelaaGreatPPb6
set_option maxRecDepth 100000
set_option maxHeartbeats 4000000
set_option linter.unusedVariables false
set_option linter.unusedSimpArgs false
namespace Go.Proofs.YtmdjoaipkbnelaaGreat
open Go.RowKit Go.Shelf
section
variable (co:Option Addr) (cc:Nat) (io:Option Addr) (dc:Nat) (go:Option Addr) (gc:Nat) (ro:Option Addr) (rc:Nat) (gv:Nat -> Option Addr × Nat × Nat)
theorem sup_call (dO:Option Addr) (dcap:Nat) (W:World) (hz:ZR W (firZ co cc io dc go gc ro rc gv)) (hd:RdF W dO 2 dcap [4607182418800017408,4607182418800017408]) :
  Calls Tryz.prog 27 #[.agg #[.int .i64 2,.slice co 2 cc,.slice io 2 dc,.slice go 2 gc,.slice ro 2 rc,.bool false],.slice dO 2 dcap] W fun e w'=>e = .returned (.tuple #[.float .f64 4616752568008179712,.bool true]) /\ Below W.heap.size W w':=by
 refine Calls.mono (support_ok (firZ co cc io dc go gc ro rc gv) dO 2 dcap _ W hz hd (fir_check ..) rfl (fir_num ..) ⟨rfl,rfl,rfl,fun k hk=>?_⟩) ?_
 ·match k,hk with
  | 0,_=>rfl
  | 1,_=>rfl
 ·rintro e w' ⟨⟨u,b,rfl,h⟩,hb⟩
  obtain ⟨rfl,rfl⟩:=sup_fir _ _ _ _ _ _ _ _ _ h
  exact ⟨rfl,hb⟩
theorem bnd_call (W:World) (hz:ZR W (firZ co cc io dc go gc ro rc gv)) :
  Calls Tryz.prog 9 #[.agg #[.int .i64 2,.slice co 2 cc,.slice io 2 dc,.slice go 2 gc,.slice ro 2 rc,.bool false]] W fun e w'=>∃ g,e = .returned (.slice (some ⟨g,0,none⟩) 2 2) /\ w'.cell? ⟨g,0,none⟩ = some (.float .f64 13830554455654793216) /\ w'.cell? ⟨g,1,none⟩ = some (.float .f64 4613937818241073152) /\ w'.cell? ⟨g,2,none⟩ = some (.bool false) /\ Below W.heap.size W w':=by
 refine Calls.mono (bounds_ok (firZ co cc io dc go gc ro rc gv) W hz (fir_check ..) rfl rfl (show 2 <= 100000 by decide) (Nat.le_refl _) rfl (fun k hk=>?_)) ?_
 ·match k,hk with
  | 0,_=>rfl
  | 1,_=>rfl
 ·rintro e w' ⟨⟨g,rfl,hg,h⟩,hb⟩
  obtain ⟨arr,h1,h2,h3⟩:=h.ex
  obtain ⟨r,hr,a0,a1,a2⟩:=h3 0 (show 0 < 2 by decide)
  have e:=aro_fir co cc io dc go gc ro rc gv hr
  subst e
  exact ⟨g,rfl,cellAtJ h1 0 _ a0,cellAtJ h1 1 _ a1,cellAtJ h1 2 _ a2,hb⟩
theorem lft_call (W:World) (hz:ZR W (firZ co cc io dc go gc ro rc gv)) :
  Calls Tryz.prog 5 #[.agg #[.int .i64 2,.slice co 2 cc,.slice io 2 dc,.slice go 2 gc,.slice ro 2 rc,.bool false],.int .i64 4] W fun e w'=>∃ y:ZD,e = .returned (.tuple #[.agg (zRow y),.int .i64 5]) /\ ZR w' y /\ y.dn = 3 /\ y.ids = [0,3,4] /\ Below W.heap.size W w':=by
 refine Calls.mono (lift_ok (firZ co cc io dc go gc ro rc gv) 4 W hz ?_ ?_ ?_ ?_ ?_ ?_ ?_ (by decide) ?_) ?_
 ·rw [fir_tk];rfl
 ·rw [fir_tk];rfl
 ·rw [fir_tk];rfl
 ·rw [fir_tk];rfl
 ·rw [fir_tk];exact (show 2 <= 100000 by decide)
 ·rw [fir_tk];exact (show 2 <= 2000000 by decide)
 ·rw [fir_tk]
  intro k hk
  match k,hk with
  | 0,_=>rfl
  | 1,_=>rfl
 ·rw [fir_tk];exact fir_may ..
 ·rintro e w' ⟨bc,br,vi,vg,gl,rfl,h,hb⟩
  rw [fir_tk] at h ⊢
  have e5:=fir_lf
  dsimp only [firZ] at h ⊢
  rw [e5] at h
  obtain ⟨y,hy,h1,h2,h3,h4,h5,h6,h7,h8,h9,h10,h11⟩:=h.zr 2 false
  refine ⟨y,?_,h1,h10,h6,hb⟩
  rw [<- hy]
  rw [e5]
theorem chk_call (W:World) (hz:ZR W (firZ co cc io dc go gc ro rc gv)) :
  Calls Tryz.prog 29 #[.agg #[.int .i64 2,.slice co 2 cc,.slice io 2 dc,.slice go 2 gc,.slice ro 2 rc,.bool false]] W fun e w'=>e = .returned (.int .i64 0) /\ Below W.heap.size W w':=by
 have h:=check_any (firZ co cc io dc go gc ro rc gv) W hz
 rw [fir_check] at h
 exact h
theorem sam_call (W:World) (hz:ZR W (firZ co cc io dc go gc ro rc gv)) :
  Calls Tryz.prog 30 #[.agg #[.int .i64 2,.slice co 2 cc,.slice io 2 dc,.slice go 2 gc,.slice ro 2 rc,.bool false],.agg #[.int .i64 2,.slice co 2 cc,.slice io 2 dc,.slice go 2 gc,.slice ro 2 rc,.bool false]] W fun e w'=>e = .returned (.bool true) /\ Below W.heap.size W w':=by
 have h:=same_anyJ (firZ co cc io dc go gc ro rc gv) (firZ co cc io dc go gc ro rc gv) W hz hz
 rw [fir_tk,fir_same] at h
 exact h
theorem sam_no (y:ZD) (hi:y.ids = [0,3,4]) (W:World) (hz:ZR W (firZ co cc io dc go gc ro rc gv)) (hy:ZR W y) :
  Calls Tryz.prog 30 #[.agg #[.int .i64 2,.slice co 2 cc,.slice io 2 dc,.slice go 2 gc,.slice ro 2 rc,.bool false],.agg #[.int .i64 y.N,.slice y.co y.cn y.cc,.slice y.io y.dn y.dc,.slice y.go y.gn y.gc,.slice y.ro y.rn y.rc,.bool y.bad]] W fun e w'=>e = .returned (.bool false) /\ Below W.heap.size W w':=by
 have h:=same_anyJ (firZ co cc io dc go gc ro rc gv) y W hz hy
 have hf:sameZ (firZ co cc io dc go gc ro rc gv) (tkZ y) = false:=by
  unfold tkZ
  split
  ·unfold sameZ
   have:decide ((firZ co cc io dc go gc ro rc gv).ids = y.ids) = false:=by rw [hi];rfl
   rw [this]
   simp
  ·kernel_rfl
 rw [fir_tk,hf] at h
 exact h
end
theorem chk_two (W:World):Calls Tryz.prog 29 #[.agg #[.int .i64 2,.slice none 0 0,.slice none 0 0,.slice none 0 0,.slice none 0 0,.bool false]] W fun e w'=>e = .returned (.int .i64 100) /\ Below W.heap.size W w':=by
 have h:=check_any ⟨2,none,0,0,none,0,0,none,0,0,none,0,0,false,[],[],fun _=>(none,0,0),[],[]⟩ W ⟨⟨rfl,Nat.zero_le _,fun u hu=>(by cases hu),.inl rfl⟩,⟨rfl,Nat.zero_le _,.inl rfl⟩,⟨rfl,Nat.zero_le _,.inl rfl,fun j hj=>absurd hj (Nat.not_lt_zero _)⟩,⟨rfl,Nat.zero_le _,fun u hu=>(by cases hu),.inl rfl⟩⟩
 rw [two_check] at h
 exact h
theorem eqF_lo (W:World):(Op.equalIn 9999 45 (.float .f64 13830554455654793216) (.float .f64 13830554455654793216)).run Tryz.prog W = .ok true W:=by kernel_rfl
theorem eqF_hi (W:World):(Op.equalIn 9999 45 (.float .f64 4613937818241073152) (.float .f64 4613937818241073152)).run Tryz.prog W = .ok true W:=by kernel_rfl
theorem started_any (w:World):Calls Tryz.prog 14 #[] w fun e w'=>e = .returned (.bool true) /\ Below w.heap.size w w':=by
 have HF1:Hid _:=first_fir w
 go_enter Tryz.func14,Tryz.ntmps14
 go_upto_region 2 with (first
  | (go_at_call 26;refine Calls.mono HF1.out ?_;rintro e w1 ⟨co,cc,io,dc,go,gc,ro,rc,gv,rfl,hz,hb1⟩)
  | (refine wpList_store_row (by rfl) 26 _ _ (by rfl) w w.heap.size w1.heap.size #[.int .i64 2,.slice co 2 cc,.slice io 2 dc,.slice go 2 gc,.slice ro 2 rc,.bool false] _ (by rfl) (by rfl) (heap_alloc_new w1 _) (hb1.alloc hb1.size _) hb1.size 6 Tryz.infoZ (by rfl) (by rfl) (oneZ _ _ _ _ _ rfl rfl rfl rfl _) ?_;intro W2 e2 b2 s2 o2))
 have hz2:ZR W2 (firZ co cc io dc go gc ro rc gv):=hz.later ⟨b2.os.trans hb1.os.symm,b2.tape.trans hb1.tape.symm,b2.output.trans hb1.output.symm,by rw [s2];simp,fun k hk=>(o2 k (Nat.ne_of_lt hk)).trans (Below.heap_alloc w1 _ k hk)⟩
 obtain ⟨B1,hB1⟩:∃ B1,w1.heap.size = B1:=⟨_,rfl⟩
 have hB1w:w.heap.size <= B1:=hB1 ▸ hb1.size
 rw [hB1] at e2 ⊢
 have H2:Hid (ZR W2 (firZ co cc io dc go gc ro rc gv) /\ W2.heap[B1]? = some (.cells #[.int .i64 2,.slice co 2 cc,.slice io 2 dc,.slice go 2 gc,.slice ro 2 rc,.bool false] 26) /\ Below w.heap.size w W2):=⟨hz2,e2,b2⟩
 clear hz2 e2 b2 o2 s2 hz hb1 hB1 HF1
 have X2:Below W2.heap.size W2 (W2.alloc (.cells #[.float .f64 4607182418800017408,.float .f64 4607182418800017408] 45)):=(Below.refl _ W2).alloc (Nat.le_refl _) _
 have HSc:Hid _:=sup_call co cc io dc go gc ro rc gv (some ⟨W2.heap.size,0,none⟩) 2 _ (H2.out.1.later X2) (rdF2 (heap_alloc_new W2 _) (by decide) (by decide))
 go_upto_region 3 with (first
  | (refine wpList_load_row (by rfl) 26 _ (by rfl) B1 _ (by rfl) H2.out.2.1 _ Tryz.underlying26 rfl 6 Tryz.infoZ (by rfl) ?_)
  | (go_at_call 27;refine Calls.mono HSc.out ?_;rintro e w3 ⟨rfl,hb3⟩))
 have q3:=to_call X2 hb3
 have H3:Hid (ZR w3 (firZ co cc io dc go gc ro rc gv) /\ w3.heap[B1]? = some (.cells #[.int .i64 2,.slice co 2 cc,.slice io 2 dc,.slice go 2 gc,.slice ro 2 rc,.bool false] 26) /\ Below w.heap.size w w3):=⟨H2.out.1.later q3,kept q3 H2.out.2.1,to_call H2.out.2.2 q3⟩
 clear q3 hb3 X2 HSc H2
 have HBc:Hid _:=bnd_call co cc io dc go gc ro rc gv w3 H3.out.1
 go_upto_region 4 with (first
  | (refine wpList_load_row (by rfl) 26 _ (by rfl) B1 _ (by rfl) H3.out.2.1 _ Tryz.underlying26 rfl 6 Tryz.infoZ (by rfl) ?_)
  | (go_at_call 9;refine Calls.mono HBc.out ?_;rintro e w4 ⟨g,rfl,g0,g1,g2,hb4⟩))
 have H4:Hid (ZR w4 (firZ co cc io dc go gc ro rc gv) /\ w4.heap[B1]? = some (.cells #[.int .i64 2,.slice co 2 cc,.slice io 2 dc,.slice go 2 gc,.slice ro 2 rc,.bool false] 26) /\ Below w.heap.size w w4):=⟨H3.out.1.later hb4,kept hb4 H3.out.2.1,to_call H3.out.2.2 hb4⟩
 have HG4:Hid _:=And.intro g0 (And.intro g1 g2)
 clear hb4 HBc H3 g0 g1 g2
 have HLc:Hid _:=lft_call co cc io dc go gc ro rc gv w4 H4.out.1
 go_upto_region 5 with (first
  | (refine wpList_load_row (by rfl) 26 _ (by rfl) B1 _ (by rfl) H4.out.2.1 _ Tryz.underlying26 rfl 6 Tryz.infoZ (by rfl) ?_)
  | (go_at_call 5;refine Calls.mono HLc.out ?_;rintro e w5 ⟨⟨yN,yco,ycn,ycc,yio,ydn,ydc,ygo,ygn,ygc,yro,yrn,yrc,ybad,ycs,yids,ygv,ygs,yrs⟩,rfl,hy,hyd,hyi,hb5⟩;(try dsimp only at hyd hyi);subst hyd;subst hyi;unfold zRow;dsimp only))
 have q6:Below w5.heap.size w5 (w5.alloc (.cells #[.int .i64 yN,.slice yco ycn ycc,.slice yio 3 ydc,.slice ygo ygn ygc,.slice yro yrn yrc,.bool ybad] 26)):=(Below.refl _ w5).alloc (Nat.le_refl _) _
 have e6:(w5.alloc (.cells #[.int .i64 yN,.slice yco ycn ycc,.slice yio 3 ydc,.slice ygo ygn ygc,.slice yro yrn yrc,.bool ybad] 26)).heap[w5.heap.size]? = some (.cells #[.int .i64 yN,.slice yco ycn ycc,.slice yio 3 ydc,.slice ygo ygn ygc,.slice yro yrn yrc,.bool ybad] 26):=heap_alloc_new w5 _
 obtain ⟨W6,hW6⟩:∃ W6,w5.alloc (.cells #[.int .i64 yN,.slice yco ycn ycc,.slice yio 3 ydc,.slice ygo ygn ygc,.slice yro yrn yrc,.bool ybad] 26) = W6:=⟨_,rfl⟩
 rw [hW6] at q6 e6 ⊢
 have b6:=to_call (to_call H4.out.2.2 hb5) q6
 have q46:=to_call hb5 q6
 obtain ⟨B5,hB5⟩:∃ B5,w5.heap.size = B5:=⟨_,rfl⟩
 rw [hB5] at e6 ⊢
 have H6:Hid (ZR W6 (firZ co cc io dc go gc ro rc gv) /\ W6.heap[B1]? = some (.cells #[.int .i64 2,.slice co 2 cc,.slice io 2 dc,.slice go 2 gc,.slice ro 2 rc,.bool false] 26) /\ Below w.heap.size w W6 /\ ZR W6 ⟨yN,yco,ycn,ycc,yio,3,ydc,ygo,ygn,ygc,yro,yrn,yrc,ybad,ycs,[0,3,4],ygv,ygs,yrs⟩ /\ W6.heap[B5]? = some (.cells #[.int .i64 yN,.slice yco ycn ycc,.slice yio 3 ydc,.slice ygo ygn ygc,.slice yro yrn yrc,.bool ybad] 26)):=⟨H4.out.1.later q46,kept q46 H4.out.2.1,b6,hy.later q6,e6⟩
 have g0:W6.cell? ⟨g,0,none⟩ = some (.float .f64 13830554455654793216):=(q46.cell (World.block_lt_of_cell? _ _ HG4.out.1)).trans HG4.out.1
 have g1:W6.cell? ⟨g,1,none⟩ = some (.float .f64 4613937818241073152):=(q46.cell (World.block_lt_of_cell? _ _ HG4.out.2.1)).trans HG4.out.2.1
 have g2:W6.cell? ⟨g,2,none⟩ = some (.bool false):=(q46.cell (World.block_lt_of_cell? _ _ HG4.out.2.2)).trans HG4.out.2.2
 have CK:Hid (∀ W,Below W6.heap.size W6 W -> Calls Tryz.prog 29 #[.agg #[.int .i64 2,.slice co 2 cc,.slice io 2 dc,.slice go 2 gc,.slice ro 2 rc,.bool false]] W fun e w'=>e = .returned (.int .i64 0) /\ Below W.heap.size W w'):=fun W h=>chk_call co cc io dc go gc ro rc gv W (H6.out.1.later h)
 have CS:Hid (∀ W,Below W6.heap.size W6 W -> Calls Tryz.prog 30 #[.agg #[.int .i64 2,.slice co 2 cc,.slice io 2 dc,.slice go 2 gc,.slice ro 2 rc,.bool false],.agg #[.int .i64 2,.slice co 2 cc,.slice io 2 dc,.slice go 2 gc,.slice ro 2 rc,.bool false]] W fun e w'=>e = .returned (.bool true) /\ Below W.heap.size W w'):=fun W h=>sam_call co cc io dc go gc ro rc gv W (H6.out.1.later h)
 have CN:Hid (∀ W,Below W6.heap.size W6 W -> Calls Tryz.prog 30 #[.agg #[.int .i64 2,.slice co 2 cc,.slice io 2 dc,.slice go 2 gc,.slice ro 2 rc,.bool false],.agg #[.int .i64 yN,.slice yco ycn ycc,.slice yio 3 ydc,.slice ygo ygn ygc,.slice yro yrn yrc,.bool ybad]] W fun e w'=>e = .returned (.bool false) /\ Below W.heap.size W w'):=fun W h=>sam_no co cc io dc go gc ro rc gv ⟨yN,yco,ycn,ycc,yio,3,ydc,ygo,ygn,ygc,yro,yrn,yrc,ybad,ycs,[0,3,4],ygv,ygs,yrs⟩ rfl W (H6.out.1.later h) (H6.out.2.2.2.1.later h)
 obtain ⟨z0,z1,z2,z3,z4,z5⟩:=cells6 e6
 have hzi:=H6.out.2.2.2.1.i
 dsimp only at hzi
 rcases hzi.cells with h0 | ⟨ib,ioff,hio,hic⟩
 ·cases h0
 have i2:=hic 2 (by decide)
 subst hio
 clear hzi hic q6 q46 hb5 hB5 HG4 H4 HLc hy e6 b6 hW6 z0 z1 z3 z4 z5
 have hq1:∀ W,(Op.equalIn 9999 45 (.float .f64 13830554455654793216) (.float .f64 13830554455654793216)).run Tryz.prog W = .ok true W:=eqF_lo
 have hq2:∀ W,(Op.equalIn 9999 45 (.float .f64 4613937818241073152) (.float .f64 4613937818241073152)).run Tryz.prog W = .ok true W:=eqF_hi
 go_wp2_with (first
  | (go_at_call_of 29 (Value.agg #[.int .i64 2,.slice co 2 cc,.slice io 2 dc,.slice go 2 gc,.slice ro 2 rc,.bool false]);refine Calls.mono (CK.out _ (Below.refl _ _)) ?_;rintro e w7 ⟨rfl,hb7⟩)
  | (go_at_call_of 29 (Value.agg #[.int .i64 2,.slice none 0 0,.slice none 0 0,.slice none 0 0,.slice none 0 0,.bool false]);refine Calls.mono (chk_two _) ?_;rintro e w9 ⟨rfl,hb9⟩;have q9:Hid (Below W6.heap.size W6 w9):=to_call hb7 hb9;clear hb7 hb9)
  | (go_at_call_of 28 (Value.int .i64 0);refine Calls.mono (num_any10 0 (by decide) _) ?_;rintro e w8 ⟨rfl,hw8⟩;rw [hw8];clear hw8)
  | (go_at_call_of 28 (Value.int .i64 100);refine Calls.mono (num_any10 100 (by decide) _) ?_;rintro e w8 ⟨rfl,hw8⟩;rw [hw8];clear hw8)
  | (go_at_call_of 30 (Value.agg #[.int .i64 yN,.slice yco ycn ycc,.slice (some ⟨ib,ioff,none⟩) 3 ydc,.slice ygo ygn ygc,.slice yro yrn yrc,.bool ybad]);refine Calls.mono (CN.out _ qa.out) ?_;rintro e wb ⟨rfl,hbb⟩;have qb:Hid (Below W6.heap.size W6 wb):=to_call qa.out hbb;clear hbb)
  | (go_at_call_of 30 (Value.agg #[.int .i64 2,.slice co 2 cc,.slice io 2 dc,.slice go 2 gc,.slice ro 2 rc,.bool false]);refine Calls.mono (CS.out _ q9.out) ?_;rintro e wa ⟨rfl,hba⟩;have qa:Hid (Below W6.heap.size W6 wa):=to_call q9.out hba;clear hba)
  | (refine wpList_load_rowG (by rfl) 26 _ (by rfl) B5 _ (by rfl) (kept qa.out H6.out.2.2.2.2) _ Tryz.underlying26 rfl 6 Tryz.infoZ (by rfl) ?_)
  | (refine wpList_load_rowG (by rfl) 26 _ (by rfl) B1 _ (by rfl) (kept qa.out H6.out.2.1) _ Tryz.underlying26 rfl 6 Tryz.infoZ (by rfl) ?_)
  | (refine wpList_load_rowG (by rfl) 26 _ (by rfl) B1 _ (by rfl) (kept q9.out H6.out.2.1) _ Tryz.underlying26 rfl 6 Tryz.infoZ (by rfl) ?_)
  | (refine wpList_load_rowG (by rfl) 26 _ (by rfl) B1 _ (by rfl) H6.out.2.1 _ Tryz.underlying26 rfl 6 Tryz.infoZ (by rfl) ?_))
 go_ret
 exact ⟨rfl,to_call H6.out.2.2.1 qb.out⟩
theorem append_gsJ {SE E:TypeId} {z:Value} {size bytes:Nat} (hu:Tryz.prog.underlying SE = some (.slice E)) (hinfo:(Tryz.prog.info? E).map (fun i=>(i.zero,i.size,i.bytes)) = some (some z,size,bytes)) (hzc:z.cells.size = size) (hsz:0 < size) (hby:bytes <= 64)
  {ops:Array Oper} {rest:List Oper} {o:Oper} {a:Act} {Q:Exit -> Act -> World -> Prop} (W:World) (hgd:o.guard = none) (s x:Operand) (ho:o.op = .call { callee:=.builtin .append,args:=#[s,x],argTypes:=#[SE,SE] })
  (base:Nat) (v:Value) (n:Nat) (xs:List Value) (hs:a.eval s = v) (hown:W.ownsRow base E size v n xs)
  (ad:Addr) (m c:Nat) (news:List Value) (hx:a.eval x = .slice (some ad) m c) (hl:news.length = m * size) (hnews:∀ j u,news[j]? = some u -> W.cell? (ad.add j) = some u) (h1:∀ u ∈ news,u.oneCell' = true)
  (hlen:n + m <= 4000000) (hbase:base <= W.heap.size)
  (h:∀ v' w',w'.ownsRow base E size v' (n + m) (xs ++ news) -> Grw W w' v.ownBlock v'.ownBlock -> wpList Tryz.prog ops Q rest (a.put o.dst v') w'):wpList Tryz.prog ops Q (o :: rest) a W:=by
 obtain ⟨i0,hi,hz0,hz1,hz2⟩:=info3' hinfo
 have hb2:(n + m) * bytes <= 140737488355328:=Nat.le_trans (Nat.mul_le_mul hlen hby) (by decide)
 have grow:∀ (w':World) (v':Value),w'.ownsRow W.heap.size E size v' (n + m) (xs ++ news) -> W.grownBy w' none -> wpList Tryz.prog ops Q rest (a.put o.dst v') w':=by
  intro w' v' g1 g2
  exact h v' w' (owns_monoJ g1 hbase) ⟨⟨g2.os,g2.tape,g2.output,g2.size,fun k hk _=>g2.block k hk (by simp)⟩,.inr fun k hk=>(World.ownsRow.lt g1 k hk).1⟩
 rcases hown.2 with ⟨rfl,h0⟩ | ⟨g,cap,cur,hv,hg,hh,k1,k2,k3,k4⟩
 ·subst h0
  have hx0:xs = []:=List.eq_nil_of_length_eq_zero (by simpa using hown.1)
  subst hx0
  by_cases hm:m = 0
  ·subst hm
   have hn0:news = []:=List.eq_nil_of_length_eq_zero (by simpa using hl)
   subst hn0
   refine wpList_append_own W hgd s x SE ho base E i0 z size bytes hu hi hz0 hz1 hz2 hzc hsz (.slice none 0 0) 0 [] hs hown ad 0 c [] hx (by simp) hnews h1 (by simp [maxLen]) (by simp) hbase ?_
   intro v' w' r1 r2 r3
   obtain rfl:=r3.2 ⟨rfl,rfl⟩
   exact h _ w' r1 ⟨r2,.inl rfl⟩
  ·refine wpList_append_grows W hgd s x SE ho E i0 z size bytes hu hi hz0 hz1 hz2 hzc hsz none 0 0 [] hs (fun _=>⟨rfl,rfl⟩) (by simp) (fun b hb=>by cases hb) ad m c news hx hl hnews h1 (by omega) (by simp only [maxLen];omega) hb2 ?_
   intro v' w' r1 r2
   exact grow w' v' r1 r2
 ·by_cases hr:n + m <= cap
  ·subst hv
   refine wpList_append_fits W hgd s x SE ho base E i0 size hu hi hz1 g n cap xs hs hown ad m c news hx hl hnews h1 hr ?_
   intro w' r1 r2
   exact h _ w' r1 ⟨r2,.inl rfl⟩
  ·refine wpList_append_grows W hgd s x SE ho E i0 z size bytes hu hi hz0 hz1 hz2 hzc hsz (some ⟨g,0,none⟩) n cap xs (by rw [hs,hv]) (fun c=>by cases c) hown.1 ?_ ad m c news hx hl hnews h1 (by omega) (by simp only [maxLen];omega) hb2 ?_
   ·intro b hb j u hj
    cases hb
    exact World.ownsRow.cells hown (by rw [hv];rfl) j u hj
   ·intro v' w' r1 r2
    exact grow w' v' r1 r2
theorem append_gnJ {SE E:TypeId} {z:Value} {size bytes:Nat} (hu:Tryz.prog.underlying SE = some (.slice E)) (hinfo:(Tryz.prog.info? E).map (fun i=>(i.zero,i.size,i.bytes)) = some (some z,size,bytes)) (hzc:z.cells.size = size) (hsz:0 < size) (hby:bytes <= 64)
  {ops:Array Oper} {rest:List Oper} {o:Oper} {a:Act} {Q:Exit -> Act -> World -> Prop} (W:World) (hgd:o.guard = none) (s x:Operand) (ho:o.op = .call { callee:=.builtin .append,args:=#[s,x],argTypes:=#[SE,SE] })
  (base:Nat) (v:Value) (n:Nat) (xs:List Value) (hs:a.eval s = v) (hown:W.ownsRow base E size v n xs)
  (xo:Option Addr) (m c:Nat) (news:List Value) (hx:a.eval x = .slice xo m c) (hnone:xo = none -> m = 0 /\ c = 0) (hl:news.length = m * size) (hnews:∀ ad,xo = some ad -> ∀ j u,news[j]? = some u -> W.cell? (ad.add j) = some u) (h1:∀ u ∈ news,u.oneCell' = true)
  (hlen:n + m <= 4000000) (hbase:base <= W.heap.size)
  (h:∀ v' w',w'.ownsRow base E size v' (n + m) (xs ++ news) -> Grw W w' v.ownBlock v'.ownBlock -> wpList Tryz.prog ops Q rest (a.put o.dst v') w'):wpList Tryz.prog ops Q (o :: rest) a W:=by
 cases xo with
 | some ad=>exact append_gsJ hu hinfo hzc hsz hby W hgd s x ho base v n xs hs hown ad m c news hx hl (hnews ad rfl) h1 hlen hbase h
 | none=>
  obtain ⟨rfl,rfl⟩:=hnone rfl
  obtain ⟨i0,hi,hz0,hz1,hz2⟩:=info3' hinfo
  have hn0:news = []:=List.eq_nil_of_length_eq_zero (by simpa using hl)
  subst hn0
  refine wpList_append_own_none hgd s x SE ho base E i0 size hu hi v n xs hs hown hx (h v W (by rw [List.append_nil];exact hown) ⟨⟨rfl,rfl,rfl,Nat.le_refl _,fun _ _ _=>rfl⟩,.inl rfl⟩)
def mkF (i:Nat):Nat:=4651136495631990784 + i * 8796093022208
structure WdB (w:World) (base g cap:Nat) (us:List Nat):Prop where
 lo:base <= g
 room:us.length + 5 <= cap
 max:cap <= maxLen
 lt:∀ u ∈ us,u < 18446744073709551616
 cur:∃ cur,w.heap[g]? = some (.cells cur 45) /\ (∀ j,j < us.length -> cur[j]? = some (.float .f64 (us[j]?.getD 0))) /\ ∀ i,i < 5 -> cur[us.length + i]? = some (.float .f64 (mkF i))
theorem WdB.keep {w w':World} {base g cap:Nat} {us:List Nat} (h:WdB w base g cap us) (hk:∀ (k:Nat) (cur:Array Value),w.heap[k]? = some (.cells cur 45) -> w'.heap[k]? = w.heap[k]?):WdB w' base g cap us:=by
 obtain ⟨cur,h1,h2⟩:=h.cur
 exact ⟨h.lo,h.room,h.max,h.lt,cur,(hk g cur h1).trans h1,h2⟩
theorem WdB.later {w w':World} {base g cap:Nat} {us:List Nat} (h:WdB w base g cap us) (hb:Below w.heap.size w w'):WdB w' base g cap us:=h.keep fun k cur hc=>hb.block k (blk_lt hc)
theorem WdB.mono {w:World} {base base' g cap:Nat} {us:List Nat} (h:WdB w base g cap us) (hb:base' <= base):WdB w base' g cap us:=⟨Nat.le_trans hb h.lo,h.room,h.max,h.lt,h.cur⟩
theorem WdB.rd {w:World} {base g cap:Nat} {us:List Nat} (h:WdB w base g cap us):RdF w (some ⟨g,0,none⟩) us.length cap us:=by
 obtain ⟨cur,h1,h2,h3⟩:=h.cur
 exact ⟨rfl,by have:=h.room;have:=h.max;omega,h.lt,.inr ⟨g,0,rfl,fun j hj=>by rw [Nat.zero_add];exact cellAtJ h1 j _ (h2 j hj)⟩⟩
def flJ (us:List Nat):List Value:=us.map (Value.float .f64)
theorem flJ_len (us:List Nat):(flJ us).length = us.length:=List.length_map _
theorem flJ_at (us:List Nat) (j:Nat) (h:j < us.length):(flJ us)[j]? = some (.float .f64 (us[j]?.getD 0)):=by
 unfold flJ
 rw [List.getElem?_map,List.getElem?_eq_getElem h]
 rfl
def mksJ (i:Nat):List Nat:=(List.range i).map mkF
theorem mksJ_len (i:Nat):(mksJ i).length = i:=by unfold mksJ;simp
theorem mksJ_at (i j:Nat) (h:j < i):(mksJ i)[j]?.getD 0 = mkF j:=by unfold mksJ;rw [List.getElem?_map,List.getElem?_range h,Option.map_some,Option.getD_some]
theorem Tryz.infoFJ2:(Tryz.prog.info? 45).map (fun i=>(i.zero,i.size,i.bytes)) = some (some (.float .f64 0),1,8):=by kernel_rfl
theorem WdB.of {w:World} {base c g n:Nat} {us:List Nat} (hu:∀ u ∈ us,u < 18446744073709551616) (h:w.ownsRow base 45 1 (.slice (some ⟨g,0,none⟩) n c) n (flJ (us ++ mksJ 5))):WdB w base g c us /\ n = us.length + 5:=by
 have hl:n = us.length + 5:=by have:=h.1;rw [flJ_len,List.length_append,mksJ_len] at this;omega
 subst hl
 rcases h.2 with ⟨h1,h2⟩ | ⟨g',cap,cur,hv,hg,hh,k1,k2,k3,k4⟩
 ·cases h1
 ·cases hv
  have hat:∀ j,j < us.length + 5 -> cur[j]? = (flJ (us ++ mksJ 5))[j]?:=fun j hj=>by rw [<- k4,List.getElem?_take,if_pos (by omega),Array.getElem?_toList]
  refine ⟨⟨hg,k1,k2,hu,cur,hh,fun j hj=>?_,fun i hi=>?_⟩,rfl⟩
  ·rw [hat j (by omega),flJ_at _ j (by simp;omega),List.getElem?_append_left hj]
  ·rw [hat _ (by omega),flJ_at _ _ (by simp [mksJ_len];omega),List.getElem?_append_right (by omega)]
   rw [show us.length + i - us.length = i by omega,mksJ_at 5 i hi]
def uJ (us:List Nat):List Value:=us.map fun (u:Nat)=>Value.int .u64 (u:Int)
theorem uJ_snoc (us:List Nat) (u:Nat):uJ (us ++ [u]) = uJ us ++ [.int .u64 (u:Int)]:=List.map_append
theorem uJ_at (us:List Nat) (j:Nat) (h:j < us.length):(uJ us)[j]? = some (.int .u64 ((us[j]?.getD 0:Nat):Int)):=by
 unfold uJ
 rw [List.getElem?_map,List.getElem?_eq_getElem h]
 rfl
theorem Tryz.infoUJ:(Tryz.prog.info? 72).map (fun i=>(i.zero,i.size,i.bytes)) = some (some (.int .u64 0),1,8):=by kernel_rfl
theorem Tryz.infoUsJ:(Tryz.prog.info? 27).map (fun i=>(i.zero,i.size,i.bytes)) = some (some (.slice none 0 0),1,24):=by kernel_rfl
theorem Tryz.szUss:(Tryz.prog.info? 28).map (·.size) = some 1:=by kernel_rfl
theorem Tryz.infoZu:(Tryz.prog.info? 30).map (·.size) = some 6:=by kernel_rfl
theorem take_snocJ {us:List Nat} {k:Nat} (h:k < us.length):us.take (k + 1) = us.take k ++ [us[k]?.getD 0]:=by
 rw [List.take_succ_eq_append_getElem h,List.getElem?_eq_getElem h];rfl
theorem oneI:∀ (x:Value),x.oneCell' = true -> ∀ u ∈ [x],u.oneCell' = true:=by
 intro x hx u hu
 simp only [List.mem_cons,List.not_mem_nil,or_false] at hu
 subst hu
 exact hx
theorem bits10_any (ao:Option Addr) (len cap:Nat) (us:List Nat) (w:World) (hr:RdF w ao len cap us) (hl:len <= 1050000) :
  Calls Tryz.prog 15 #[.slice ao len cap] w fun e w'=>∃ v,e = .returned v /\ w'.ownsRow w.heap.size 72 1 v us.length (uJ us) /\ Below w.heap.size w w':=by
 have HR:Hid _:=hr
 have HLN:Hid _:=hr.length
 clear hr
 go_enter Tryz.func15,Tryz.ntmps15
 go_wp2_with fail
 go_loopg [3,4] len (fun g v u wx=>∃ (i:Nat),u = .int .i64 i /\ i + g = len /\ Hid (wx.ownsRow w.heap.size 72 1 v i (uJ (us.take i))) /\ Hid (Below w.heap.size w wx))
 case atStart=>exact ⟨0,rfl,by omega,World.ownsRow_nil _ _ _ _,Below.refl _ _⟩
 case round=>
  obtain ⟨i,rfl,hi,HO,HB⟩:=hrel
  have hsr:=HB.out.size
  by_cases hlt:i < len
  ·have hd:decide ((i:Int) < (len:Int)) = true:=decide_eq_true (by omega)
   obtain ⟨g,rfl⟩:∃ g,gk = g + 1:=⟨gk - 1,by omega⟩
   rcases (HR.out.later HB.out).cells with h0 | ⟨b,off,rfl,hc⟩
   ·omega
   have g0:=hc i hlt
   have HTS:Hid _:=take_snocJ (us:=us) (k:=i) (by rw [HLN.out];exact hlt)
   obtain ⟨x,hx⟩:∃ x,us[i]?.getD 0 = x:=⟨_,rfl⟩
   rw [hx] at g0 HTS
   have HIG:Hid _:=hi
   clear hc hi hx
   go_wp2_with (first
    | (go_at_call 31;refine Calls.mono (apiBits_any x _) ?_;rintro e w' ⟨rfl,hw⟩;rw [hw];clear hw)
    | (at_builtin;refine append_gsJ Tryz.underlying27 Tryz.infoUJ rfl (by decide) (by decide) _ (by rfl) _ _ (by rfl) w.heap.size _ _ _ (by rfl) (World.ownsRow.alloc HO.out _) ⟨wr.heap.size,0,none⟩ 1 1 [.int .u64 (x:Int)] (by rfl) rfl (news_oneJ (heap_alloc_new wr _)) (oneI _ rfl) (by omega) (by simp only [alloc_size];omega) ?_;intro v5 w5 o5 g5))
   have B5:Hid (Below w.heap.size w w5):=(HB.out.alloc hsr _).trans (g5.below (fun k hk=>(World.ownsRow.lt HO.out k hk).1) (by simp only [alloc_size];omega))
   have O5:Hid _:=o5
   clear o5 g5
   go_roundg g
   case measure=>omega
   case rel=>
    refine ⟨i + 1,by go_num,by have:=HIG.out;omega,?_,B5⟩
    unfold Hid
    rw [HTS.out,uJ_snoc]
    exact O5.out
  ·have hd:decide ((i:Int) < (len:Int)) = false:=decide_eq_false (by omega)
   have HO2:Hid (wr.ownsRow w.heap.size 72 1 u3 us.length (uJ us)):=by
    have:=HO.out
    rw [List.take_of_length_le (by rw [HLN.out];omega),show i = us.length by rw [HLN.out];omega] at this
    exact this
   go_wp2
   go_ret
   exact ⟨_,rfl,HO2.out,HB.out⟩
structure ZW (z:ZD):Prop where
 c:z.co = none -> z.cn = 0 /\ z.cc = 0
 i:z.io = none -> z.dn = 0 /\ z.dc = 0
 r:z.ro = none -> z.rn = 0 /\ z.rc = 0
 col:∀ k,k < z.gn -> (z.gv k).1 = none -> (z.gv k).2.1 = 0 /\ (z.gv k).2.2 = 0
 cl:z.cn <= 1050000
 il:z.dn <= 1050000
 gl:z.gn <= 1050000
 rl:z.rn <= 1050000
 coll:∀ k,k < z.gn -> (z.gv k).2.1 <= 1050000
theorem rdI_news {w:World} {ao:Option Addr} {len cap:Nat} {is:List Int} (h:RdIs w ao len cap is):∀ ad,ao = some ad -> ∀ j u,(is.map (Value.int .i64))[j]? = some u -> w.cell? (ad.add j) = some u:=by
 intro ad ha j u hj
 have hl:j < is.length:=by have:=(List.getElem?_eq_some_iff.1 hj).1;rw [List.length_map] at this;exact this
 rw [List.getElem?_map,List.getElem?_eq_getElem hl] at hj
 cases hj
 have hlen:=h.length
 rcases h.cells with h0 | ⟨b,off,he,hc⟩
 ·omega
 ·rw [ha] at he
  cases he
  rw [Addr.add_mid]
  have:=hc j (by omega)
  rw [List.getElem?_eq_getElem hl] at this
  exact this
theorem intJ_one (is:List Int):∀ u ∈ is.map (Value.int .i64),u.oneCell' = true:=by
 intro u hu
 obtain ⟨x,_,rfl⟩:=List.mem_map.1 hu
 rfl
theorem rdU_of {w:World} {base:Nat} {v:Value} {us:List Nat} (h:w.ownsRow base 72 1 v us.length (uJ us)):∃ ao cap,v = .slice ao us.length cap /\ RdUs w ao us.length cap us:=by
 obtain ⟨ao,cap,rfl,hm,hc⟩:=owns_slice h
 refine ⟨ao,cap,rfl,rfl,hm,?_⟩
 rcases hc with h0 | ⟨g,rfl,hc⟩
 ·exact .inl h0
 ·exact .inr ⟨g,0,rfl,fun j hj=>by rw [Nat.zero_add,hc j hj,uJ_at us j hj]⟩
structure OfL (w:World) (base:Nat) (cs rs:List Nat) (ids:List Int) (gs:List (List Nat)) (vc vr vi vg:Value) (gl:List Value):Prop where
 c:w.ownsRow base 72 1 vc cs.length (uJ cs)
 r:w.ownsRow base 72 1 vr rs.length (uJ rs)
 i:w.ownsRow base 3 1 vi ids.length (ids.map (Value.int .i64))
 g:w.ownsRow base 27 1 vg gl.length gl
 len:gl.length = gs.length
 col:∀ (j:Nat) (u:Value),gl[j]? = some u -> w.ownsRow base 72 1 u (gs[j]?.getD []).length (uJ (gs[j]?.getD []))
theorem OfL.keep {w w':World} {base:Nat} {cs rs:List Nat} {ids:List Int} {gs:List (List Nat)} {vc vr vi vg:Value} {gl:List Value} (h:OfL w base cs rs ids gs vc vr vi vg gl) (hk:∀ (k:Nat) (cur:Array Value) (t:TypeId),t ≠ 30 -> w.heap[k]? = some (.cells cur t) -> w'.heap[k]? = w.heap[k]?):OfL w' base cs rs ids gs vc vr vi vg gl:=
 ⟨owns_keepT h.c fun k cur=>hk k cur _ (by decide),owns_keepT h.r fun k cur=>hk k cur _ (by decide),owns_keepT h.i fun k cur=>hk k cur _ (by decide),owns_keepT h.g fun k cur=>hk k cur _ (by decide),h.len,fun j u hj=>owns_keepT (h.col j u hj) fun k cur=>hk k cur _ (by decide)⟩
theorem OfL.later {w w':World} {base:Nat} {cs rs:List Nat} {ids:List Int} {gs:List (List Nat)} {vc vr vi vg:Value} {gl:List Value} (h:OfL w base cs rs ids gs vc vr vi vg gl) (hb:Below w.heap.size w w'):OfL w' base cs rs ids gs vc vr vi vg gl:=
 ⟨owns_keepT h.c fun k cur hc=>hb.block k (blk_lt hc),owns_keepT h.r fun k cur hc=>hb.block k (blk_lt hc),owns_keepT h.i fun k cur hc=>hb.block k (blk_lt hc),owns_keepT h.g fun k cur hc=>hb.block k (blk_lt hc),h.len,fun j u hj=>owns_keepT (h.col j u hj) fun k cur hc=>hb.block k (blk_lt hc)⟩
theorem OfL.pushI {w w':World} {base:Nat} {cs rs:List Nat} {ids:List Int} {gs:List (List Nat)} {vc vr vi vg vi':Value} {gl:List Value} {is:List Int} (h:OfL w base cs rs ids gs vc vr vi vg gl) (hg:Grw w w' vi.ownBlock vi'.ownBlock)
  (ho:w'.ownsRow base 3 1 vi' is.length (is.map (Value.int .i64))):OfL w' base cs rs is gs vc vr vi' vg gl:=by
 have hk:=grw_types h.i hg
 exact ⟨owns_keepT h.c fun k cur=>hk k cur _ (by decide),owns_keepT h.r fun k cur=>hk k cur _ (by decide),ho,owns_keepT h.g fun k cur=>hk k cur _ (by decide),h.len,fun j u hj=>owns_keepT (h.col j u hj) fun k cur=>hk k cur _ (by decide)⟩
theorem OfL.pushG {w w':World} {base:Nat} {cs rs us:List Nat} {ids:List Int} {gs:List (List Nat)} {vc vr vi vg vg' v:Value} {gl:List Value} (h:OfL w base cs rs ids gs vc vr vi vg gl) (hg:Grw w w' vg.ownBlock vg'.ownBlock)
  (ho:w'.ownsRow base 27 1 vg' (gl.length + 1) (gl ++ [v])) (hv:w.ownsRow base 72 1 v us.length (uJ us)):OfL w' base cs rs ids (gs ++ [us]) vc vr vi vg' (gl ++ [v]):=by
 have hk:=grw_types h.g hg
 refine ⟨owns_keepT h.c fun k cur=>hk k cur _ (by decide),owns_keepT h.r fun k cur=>hk k cur _ (by decide),owns_keepT h.i fun k cur=>hk k cur _ (by decide),by simpa using ho,by simp [h.len],fun j u hj=>?_⟩
 by_cases e:j < gl.length
 ·rw [List.getElem?_append_left e] at hj
  rw [List.getElem?_append_left (by rw [<- h.len];exact e)]
  exact owns_keepT (h.col j u hj) fun k cur=>hk k cur _ (by decide)
 ·have hl:=(List.getElem?_eq_some_iff.1 hj).1
  have ej:j = gl.length:=by simp at hl;omega
  subst ej
  rw [List.getElem?_append_right (Nat.le_refl _),Nat.sub_self,List.getElem?_cons_zero] at hj
  cases hj
  rw [List.getElem?_append_right (by rw [h.len];exact Nat.le_refl _),h.len,Nat.sub_self,List.getElem?_cons_zero]
  exact owns_keepT hv fun k cur=>hk k cur _ (by decide)
theorem OfL.zu {w:World} {base:Nat} {cs rs:List Nat} {ids:List Int} {gs:List (List Nat)} {vc vr vi vg:Value} {gl:List Value} (h:OfL w base cs rs ids gs vc vr vi vg gl) (N:Int) (bad:Bool) :
  ∃ u:ZD,(.agg #[.int .i64 N,vc,vi,vg,vr,.bool bad]:Value) = .agg (zRow u) /\ ZU w u /\ u.N = N /\ u.bad = bad /\ u.cs = cs /\ u.rs = rs /\ u.ids = ids /\ u.gs = gs /\ u.dn = ids.length /\ u.gn = gs.length /\ u.cn = cs.length /\ u.rn = rs.length:=by
 obtain ⟨co,cc,rfl,hc⟩:=rdU_of h.c
 obtain ⟨ro,rc,rfl,hr⟩:=rdU_of h.r
 obtain ⟨io,dc,rfl,hm1,h1⟩:=owns_slice h.i
 obtain ⟨go,gc,rfl,hm2,h2⟩:=owns_slice h.g
 have hx:∀ j:Nat,∃ p:Option Addr × Nat × Nat,j < gl.length -> gl[j]? = some (.slice p.1 p.2.1 p.2.2) /\ RdUs w p.1 p.2.1 p.2.2 (gs[j]?.getD []):=fun j=>by
  by_cases hj:j < gl.length
  ·obtain ⟨ao,cap,hv,hr⟩:=rdU_of (h.col j _ (List.getElem?_eq_getElem hj))
   exact ⟨(ao,_,cap),fun _=>⟨by rw [List.getElem?_eq_getElem hj,hv],hr⟩⟩
  ·exact ⟨(none,0,0),fun h=>absurd h hj⟩
 have hln:=h.len
 refine ⟨⟨N,co,cs.length,cc,io,ids.length,dc,go,gl.length,gc,ro,rs.length,rc,bad,cs,ids,fun j=>Classical.choose (hx j),gs,rs⟩,rfl,⟨hc,⟨rfl,hm1,?_⟩,⟨hln.symm,hm2,?_,fun j hj=>(Classical.choose_spec (hx j) hj).2⟩,hr⟩,rfl,rfl,rfl,rfl,rfl,rfl,rfl,hln,rfl,rfl⟩
 ·rcases h1 with h0 | ⟨g,rfl,hc⟩
  ·exact .inl h0
  ·refine .inr ⟨g,0,rfl,fun j hj=>?_⟩
   dsimp only at hj ⊢
   rw [Nat.zero_add,hc j hj,List.getElem?_map,List.getElem?_eq_getElem hj]
   rfl
 ·rcases h2 with h0 | ⟨g,rfl,hc⟩
  ·exact .inl h0
  ·refine .inr ⟨g,0,rfl,fun j hj=>?_⟩
   rw [Nat.zero_add,hc j hj,(Classical.choose_spec (hx j) hj).1]
def OfO (w:World) (base:Nat) (u:ZD):Prop:=∃ gl,OfL w base u.cs u.rs u.ids u.gs (.slice u.co u.cn u.cc) (.slice u.ro u.rn u.rc) (.slice u.io u.dn u.dc) (.slice u.go u.gn u.gc) gl
theorem OfL.ofO {w:World} {base:Nat} {cs rs:List Nat} {ids:List Int} {gs:List (List Nat)} {vc vr vi vg:Value} {gl:List Value} (h:OfL w base cs rs ids gs vc vr vi vg gl) {N:Int} {bad:Bool} {u:ZD} (e:(.agg #[.int .i64 N,vc,vi,vg,vr,.bool bad]:Value) = .agg (zRow u)) (e1:u.cs = cs) (e2:u.rs = rs) (e3:u.ids = ids) (e4:u.gs = gs):OfO w base u:=by
 unfold zRow at e
 simp only [Value.agg.injEq,Array.mk.injEq,List.cons.injEq,and_true,true_and] at e
 obtain ⟨_,q1,q2,q3,q4,_⟩:=e
 subst q1 q2 q3 q4 e1 e2 e3 e4
 exact ⟨gl,h⟩
theorem allocUJ (w:World):(Instr.alloc 30 true (.tuple #[])).run Tryz.prog w = .ok (.pointer (some ⟨w.heap.size,0,none⟩)) (w.alloc (.cells #[.int .i64 0,.slice none 0 0,.slice none 0 0,.slice none 0 0,.slice none 0 0,.bool false] 30)):=by kernel_rfl
theorem take_snocG {us:List (List Nat)} {k:Nat} (h:k < us.length):us.take (k + 1) = us.take k ++ [us[k]?.getD []]:=by
 rw [List.take_succ_eq_append_getElem h,List.getElem?_eq_getElem h];rfl
theorem rdGs_at {w:World} {b off len cap:Nat} {gv:Nat -> Option Addr × Nat × Nat} {gs:List (List Nat)} (h:RdGs w (some ⟨b,off,none⟩) len cap gv gs) {k:Nat} (hk:k < len):w.cell? ⟨b,off + k,none⟩ = some (.slice (gv k).1 (gv k).2.1 (gv k).2.2):=by
 rcases h.cells with h0 | ⟨b',off',e,hc⟩
 ·omega
 ·cases e
  exact hc k hk
theorem of10_any (z:ZD) (w:World) (hz:ZR w z) (hw:ZW z) :
  Calls Tryz.prog 4 #[.agg (zRow z)] w fun e w'=>∃ u:ZD,e = .returned (.agg (zRow u)) /\ ZU w' u /\ u.N = z.N /\ u.bad = z.bad /\ u.cs = z.cs /\ u.rs = z.rs /\ u.ids = z.ids /\ u.gs = z.gs /\ u.dn = z.dn /\ u.gn = z.gn /\ u.cn = z.cn /\ u.rn = z.rn /\ Below w.heap.size w w' /\ OfO w' w.heap.size u:=by
 obtain ⟨N,co,cn,cc,io,dn,dc,go,gn,gc,ro,rn,rc,bad,cs,ids,gv,gs,rs⟩:=z
 have HC:Hid (∀ W',Below w.heap.size w W' -> Calls Tryz.prog 15 #[.slice co cn cc] W' fun e w'=>∃ v,e = .returned v /\ w'.ownsRow W'.heap.size 72 1 v cs.length (uJ cs) /\ Below W'.heap.size W' w'):=fun W' hb=>bits10_any co cn cc cs W' (hz.later hb).c hw.cl
 have HR:Hid (∀ W',Below w.heap.size w W' -> Calls Tryz.prog 15 #[.slice ro rn rc] W' fun e w'=>∃ v,e = .returned v /\ w'.ownsRow W'.heap.size 72 1 v rs.length (uJ rs) /\ Below W'.heap.size W' w'):=fun W' hb=>bits10_any ro rn rc rs W' (hz.later hb).r hw.rl
 have HG:Hid (∀ x,x < gn -> ∀ W',Below w.heap.size w W' -> Calls Tryz.prog 15 #[.slice (gv x).1 (gv x).2.1 (gv x).2.2] W' fun e w'=>∃ v,e = .returned v /\ w'.ownsRow W'.heap.size 72 1 v (gs[x]?.getD []).length (uJ (gs[x]?.getD [])) /\ Below W'.heap.size W' w'):=fun x hx W' hb=>bits10_any _ _ _ _ W' ((hz.later hb).g.each x hx) (hw.coll x hx)
 have HIR:Hid (∀ W',Below w.heap.size w W' -> RdIs W' io dn dc ids):=fun W' hb=>(hz.later hb).i
 have HGR:Hid (∀ W',Below w.heap.size w W' -> RdGs W' go gn gc gv gs):=fun W' hb=>(hz.later hb).g
 have HNI:Hid (io = none -> dn = 0 /\ dc = 0):=hw.i
 have HLN:Hid (ids.length = dn /\ gs.length = gn):=⟨hz.i.length,hz.g.length⟩
 have HLC:Hid (cs.length = cn /\ rs.length = rn):=⟨hz.c.length,hz.r.length⟩
 have hdl:dn <= 1050000:=hw.il
 have hgl:gn <= 1050000:=hw.gl
 clear hz hw
 have X0:Below w.heap.size w ((w.alloc (.cells #[.int .i64 N,.slice co cn cc,.slice io dn dc,.slice go gn gc,.slice ro rn rc,.bool bad] 26)).alloc (.cells #[.int .i64 0,.slice none 0 0,.slice none 0 0,.slice none 0 0,.slice none 0 0,.bool false] 30)):=((Below.refl _ w).alloc (Nat.le_refl _) _).alloc (by simp only [alloc_size];omega) _
 have Y0:((w.alloc (.cells #[.int .i64 N,.slice co cn cc,.slice io dn dc,.slice go gn gc,.slice ro rn rc,.bool bad] 26)).alloc (.cells #[.int .i64 0,.slice none 0 0,.slice none 0 0,.slice none 0 0,.slice none 0 0,.bool false] 30)).heap[w.heap.size]? = some (.cells #[.int .i64 N,.slice co cn cc,.slice io dn dc,.slice go gn gc,.slice ro rn rc,.bool bad] 26):=alloc_kept (heap_alloc_new w _) _
 have Y1:((w.alloc (.cells #[.int .i64 N,.slice co cn cc,.slice io dn dc,.slice go gn gc,.slice ro rn rc,.bool bad] 26)).alloc (.cells #[.int .i64 0,.slice none 0 0,.slice none 0 0,.slice none 0 0,.slice none 0 0,.bool false] 30)).heap[w.heap.size + 1]? = some (.cells #[.int .i64 0,.slice none 0 0,.slice none 0 0,.slice none 0 0,.slice none 0 0,.bool false] 30):=heap_at _ _ (w.heap.size + 1) (by simp only [alloc_size])
 unfold zRow
 dsimp only
 go_enter Tryz.func4,Tryz.ntmps4
 go_upto_region 1 with fail
 obtain ⟨X,hX⟩:∃ X,((w.alloc (.cells #[.int .i64 N,.slice co cn cc,.slice io dn dc,.slice go gn gc,.slice ro rn rc,.bool bad] 26)).alloc (.cells #[.int .i64 0,.slice none 0 0,.slice none 0 0,.slice none 0 0,.slice none 0 0,.bool false] 30)) = X:=⟨_,rfl⟩
 rw [hX] at X0 Y0 Y1 ⊢
 clear hX
 have HX:Hid (Below w.heap.size w X /\ X.heap[w.heap.size]? = some (.cells #[.int .i64 N,.slice co cn cc,.slice io dn dc,.slice go gn gc,.slice ro rn rc,.bool bad] 26) /\ X.heap[w.heap.size + 1]? = some (.cells #[.int .i64 0,.slice none 0 0,.slice none 0 0,.slice none 0 0,.slice none 0 0,.bool false] 30)):=⟨X0,Y0,Y1⟩
 clear X0 Y0 Y1
 go_cut [3] (fun v wx=>∃ D vc vr,v = .pointer (some ⟨D,0,none⟩) /\ Hid (wx.heap[D]? = some (.cells #[.int .i64 N,vc,.slice none 0 0,.slice none 0 0,vr,.bool bad] 30)) /\ Hid (OfL wx w.heap.size cs rs [] [] vc vr (.slice none 0 0) (.slice none 0 0) []) /\ Hid (Below w.heap.size w wx) /\ Hid (wx.heap[w.heap.size]? = some (.cells #[.int .i64 N,.slice co cn cc,.slice io dn dc,.slice go gn gc,.slice ro rn rc,.bool bad] 26) /\ wx.heap[w.heap.size + 1]? = some (.cells #[.int .i64 0,.slice none 0 0,.slice none 0 0,.slice none 0 0,.slice none 0 0,.bool false] 30)) /\ w.heap.size + 1 < D)
 case first=>
  have bX:Below X.heap.size X X.drew:=(Below.refl _ _).drew
  refine wp_region_noPanic ?_
  refine wp_region_held_drew (S:=(fun W'=>Below X.heap.size X W')) (by kernel_rfl) bX (fun _=>?_)
  refine tzI 5 0 ?_ ?_ bX ?_
  rotate_left
  ·intro w' hSw;obtain ⟨c0,c1,c2,c3,c4,c5⟩:=cells6 ((hSw.block _ (blk_lt HX.out.2.1)).trans HX.out.2.1);go_simp;try with_reducible rfl
  try simp only [pA,pE,pB,pC,pD]
  refine tzI 6 1 ?_ ?_ bX ?_
  rotate_left
  ·intro w' hSw;obtain ⟨c0,c1,c2,c3,c4,c5⟩:=cells6 ((hSw.block _ (blk_lt HX.out.2.1)).trans HX.out.2.1);go_simp;try with_reducible rfl
  try simp only [pA,pE,pB,pC,pD]
  refine tzI 7 2 ?_ ?_ bX ?_
  rotate_left
  ·intro w' hSw;obtain ⟨c0,c1,c2,c3,c4,c5⟩:=cells6 ((hSw.block _ (blk_lt HX.out.2.1)).trans HX.out.2.1);go_simp;try with_reducible rfl
  try simp only [pA,pE,pB,pC,pD]
  refine tzI 8 3 ?_ ?_ bX ?_
  rotate_left
  ·intro w' hSw;obtain ⟨c0,c1,c2,c3,c4,c5⟩:=cells6 ((hSw.block _ (blk_lt HX.out.2.1)).trans HX.out.2.1);go_simp;try with_reducible rfl
  try simp only [pA,pE,pB,pC,pD]
  refine tzI 10 5 ?_ ?_ bX ?_
  rotate_left
  ·intro w' hSw;obtain ⟨c0,c1,c2,c3,c4,c5⟩:=cells6 ((hSw.block _ (blk_lt HX.out.2.1)).trans HX.out.2.1);go_simp;try with_reducible rfl
  try simp only [pA,pE,pB,pC,pD]
  refine tzI 11 6 ?_ ?_ bX ?_
  rotate_left
  ·intro w' hSw;obtain ⟨c0,c1,c2,c3,c4,c5⟩:=cells6 ((hSw.block _ (blk_lt HX.out.2.1)).trans HX.out.2.1);go_simp;try with_reducible rfl
  try simp only [pA,pE,pB,pC,pD]
  refine tzI 13 8 ?_ ?_ bX ?_
  rotate_left
  ·intro w' hSw;obtain ⟨c0,c1,c2,c3,c4,c5⟩:=cells6 ((hSw.block _ (blk_lt HX.out.2.1)).trans HX.out.2.1);go_simp;try with_reducible rfl
  try simp only [pA,pE,pB,pC,pD]
  refine tzI 14 9 ?_ ?_ bX ?_
  rotate_left
  ·intro w' hSw;obtain ⟨c0,c1,c2,c3,c4,c5⟩:=cells6 ((hSw.block _ (blk_lt HX.out.2.1)).trans HX.out.2.1);go_simp;try with_reducible rfl
  try simp only [pA,pE,pB,pC,pD]
  obtain ⟨V,hV⟩:∃ V,X.drew = V:=⟨_,rfl⟩
  have bV:Below X.heap.size X V:=hV ▸ bX
  rw [hV]
  clear hV bX
  refine rzH [4,11] ?_
  refine consH _ rfl ?_ (consH _ rfl ?_ AllReadyH.nil)
  ·refine hzC 9 (Calls.mono (HC.out _ (HX.out.1.trans (bV.mono HX.out.1.size))) ?_)
   rintro e Vc ⟨vc,rfl,o1,hb⟩
   obtain ⟨avc,pvc,hvc,-⟩:=owns_slice o1
   subst hvc
   have bVc:Below X.heap.size X Vc:=bV.trans (hb.mono bV.size)
   have ocVc:=owns_monoJ o1 bV.size
   clear o1 hb
   refine ⟨_,rfl,bVc,?_⟩
   try simp only [pA,pE,pB,pC,pD]
   refine rzH [7,11] ?_
   refine consH _ rfl ?_ (consH _ rfl ?_ AllReadyH.nil)
   ·refine hzC 12 (Calls.mono (HR.out _ (HX.out.1.trans (bVc.mono HX.out.1.size))) ?_)
    rintro e Vcr ⟨vr,rfl,o1,hb⟩
    obtain ⟨avr,pvr,hvr,-⟩:=owns_slice o1
    subst hvr
    have bVcr:Below X.heap.size X Vcr:=bVc.trans (hb.mono bVc.size)
    have ocVcr:=owns_keepT ocVc fun k cur hc=>hb.block k (blk_lt hc)
    have orVcr:=owns_monoJ o1 bVc.size
    clear o1 hb
    refine ⟨_,rfl,bVcr,?_⟩
    try simp only [pA,pE,pB,pC,pD]
    refine tzH 15 10 (.agg #[.int .i64 N,(.slice avc cs.length pvc),.slice none 0 0,.slice none 0 0,(.slice avr rs.length pvr),.bool bad]) (Or.inl ⟨by kernel_rfl,fun w' _=>by kernel_rfl⟩) bVcr ?_
    try simp only [pA,pE,pB,pC,pD]
    refine rzH [11] ?_
    refine consH _ rfl ?_ AllReadyH.nil
    ·refine hopAJ 3 rfl rfl rfl 30 rfl #[.int .i64 0,.slice none 0 0,.slice none 0 0,.slice none 0 0,.slice none 0 0,.bool false] allocUJ fun D Vcra hDVcra hDl hb=>?_
     have bVcra:Below X.heap.size X Vcra:=bVcr.trans (hb.mono bVcr.size)
     have hDX:X.heap.size <= D:=Nat.le_trans bVcr.size hDl
     have ocVcra:=owns_keepT ocVcr fun k cur hc=>hb.block k (blk_lt hc)
     have orVcra:=owns_keepT orVcr fun k cur hc=>hb.block k (blk_lt hc)
     refine ⟨bVcra,?_⟩
     try simp only [pA,pE,pB,pC,pD]
     refine rzH [12] ?_
     refine consH _ rfl (hopL rfl (wpList_store_row (by rfl) 30 _ _ (by rfl) X X.heap.size D #[.int .i64 N,(.slice avc cs.length pvc),.slice none 0 0,.slice none 0 0,(.slice avr rs.length pvr),.bool bad] _ (by kernel_rfl) (by kernel_rfl) hDVcra bVcra hDX 6 Tryz.infoZu (by rfl) (by rfl) (oneZ _ _ _ _ _ (own_valJ ocVcra).1 rfl rfl (own_valJ orVcra).1 _) fun W9 e9 b9 hs9 ho9=>?_)) AllReadyH.nil
     refine (And.intro b9 ?_:_ /\ _)
     try simp only [pA,pE,pB,pC,pD]
     refine wpAnyH_done (by kernel_rfl) ?_ _
     refine NoPanic.normal ?_
     try simp only [pA,pE,pB,pC,pD]
     go_wp2_with fail
     go_meet
     have hk9:∀ (k:Nat) (cur:Array Value),Vcra.heap[k]? = some (.cells cur 72) -> W9.heap[k]? = Vcra.heap[k]?:=fun k cur hc=>ho9 k (by rintro rfl;rw [hDVcra] at hc;cases hc)
     exact ⟨D,.slice avc cs.length pvc,.slice avr rs.length pvr,rfl,e9,⟨owns_monoJ (owns_keepT ocVcra hk9) HX.out.1.size,owns_monoJ (owns_keepT orVcra hk9) HX.out.1.size,World.ownsRow_nil _ _ _ _,World.ownsRow_nil _ _ _ _,rfl,fun j u hj=>(by simp at hj)⟩,HX.out.1.trans (b9.mono HX.out.1.size),⟨(b9.block _ (blk_lt HX.out.2.1)).trans HX.out.2.1,(b9.block _ (blk_lt HX.out.2.2)).trans HX.out.2.2⟩,Nat.lt_of_lt_of_le (blk_lt HX.out.2.2) hDX⟩
   ·refine hopAJ 3 rfl rfl rfl 30 rfl #[.int .i64 0,.slice none 0 0,.slice none 0 0,.slice none 0 0,.slice none 0 0,.bool false] allocUJ fun D Vca hDVca hDl hb=>?_
    have bVca:Below X.heap.size X Vca:=bVc.trans (hb.mono bVc.size)
    have hDX:X.heap.size <= D:=Nat.le_trans bVc.size hDl
    have ocVca:=owns_keepT ocVc fun k cur hc=>hb.block k (blk_lt hc)
    refine ⟨bVca,?_⟩
    try simp only [pA,pE,pB,pC,pD]
    refine rzH [7] ?_
    refine consH _ rfl ?_ AllReadyH.nil
    ·refine hzC 12 (Calls.mono (HR.out _ (HX.out.1.trans (bVca.mono HX.out.1.size))) ?_)
     rintro e Vcar ⟨vr,rfl,o1,hb⟩
     obtain ⟨avr,pvr,hvr,-⟩:=owns_slice o1
     subst hvr
     have bVcar:Below X.heap.size X Vcar:=bVca.trans (hb.mono bVca.size)
     have ocVcar:=owns_keepT ocVca fun k cur hc=>hb.block k (blk_lt hc)
     have hDVcar:=kept hb hDVca
     have orVcar:=owns_monoJ o1 bVca.size
     clear o1 hb
     refine ⟨_,rfl,bVcar,?_⟩
     try simp only [pA,pE,pB,pC,pD]
     refine tzH 15 10 (.agg #[.int .i64 N,(.slice avc cs.length pvc),.slice none 0 0,.slice none 0 0,(.slice avr rs.length pvr),.bool bad]) (Or.inl ⟨by kernel_rfl,fun w' _=>by kernel_rfl⟩) bVcar ?_
     try simp only [pA,pE,pB,pC,pD]
     refine rzH [12] ?_
     refine consH _ rfl (hopL rfl (wpList_store_row (by rfl) 30 _ _ (by rfl) X X.heap.size D #[.int .i64 N,(.slice avc cs.length pvc),.slice none 0 0,.slice none 0 0,(.slice avr rs.length pvr),.bool bad] _ (by kernel_rfl) (by kernel_rfl) hDVcar bVcar hDX 6 Tryz.infoZu (by rfl) (by rfl) (oneZ _ _ _ _ _ (own_valJ ocVcar).1 rfl rfl (own_valJ orVcar).1 _) fun W9 e9 b9 hs9 ho9=>?_)) AllReadyH.nil
     refine (And.intro b9 ?_:_ /\ _)
     try simp only [pA,pE,pB,pC,pD]
     refine wpAnyH_done (by kernel_rfl) ?_ _
     refine NoPanic.normal ?_
     try simp only [pA,pE,pB,pC,pD]
     go_wp2_with fail
     go_meet
     have hk9:∀ (k:Nat) (cur:Array Value),Vcar.heap[k]? = some (.cells cur 72) -> W9.heap[k]? = Vcar.heap[k]?:=fun k cur hc=>ho9 k (by rintro rfl;rw [hDVcar] at hc;cases hc)
     exact ⟨D,.slice avc cs.length pvc,.slice avr rs.length pvr,rfl,e9,⟨owns_monoJ (owns_keepT ocVcar hk9) HX.out.1.size,owns_monoJ (owns_keepT orVcar hk9) HX.out.1.size,World.ownsRow_nil _ _ _ _,World.ownsRow_nil _ _ _ _,rfl,fun j u hj=>(by simp at hj)⟩,HX.out.1.trans (b9.mono HX.out.1.size),⟨(b9.block _ (blk_lt HX.out.2.1)).trans HX.out.2.1,(b9.block _ (blk_lt HX.out.2.2)).trans HX.out.2.2⟩,Nat.lt_of_lt_of_le (blk_lt HX.out.2.2) hDX⟩
  ·refine hopAJ 3 rfl rfl rfl 30 rfl #[.int .i64 0,.slice none 0 0,.slice none 0 0,.slice none 0 0,.slice none 0 0,.bool false] allocUJ fun D Va hDVa hDl hb=>?_
   have bVa:Below X.heap.size X Va:=bV.trans (hb.mono bV.size)
   have hDX:X.heap.size <= D:=Nat.le_trans bV.size hDl
   refine ⟨bVa,?_⟩
   try simp only [pA,pE,pB,pC,pD]
   refine rzH [4] ?_
   refine consH _ rfl ?_ AllReadyH.nil
   ·refine hzC 9 (Calls.mono (HC.out _ (HX.out.1.trans (bVa.mono HX.out.1.size))) ?_)
    rintro e Vac ⟨vc,rfl,o1,hb⟩
    obtain ⟨avc,pvc,hvc,-⟩:=owns_slice o1
    subst hvc
    have bVac:Below X.heap.size X Vac:=bVa.trans (hb.mono bVa.size)
    have hDVac:=kept hb hDVa
    have ocVac:=owns_monoJ o1 bVa.size
    clear o1 hb
    refine ⟨_,rfl,bVac,?_⟩
    try simp only [pA,pE,pB,pC,pD]
    refine rzH [7] ?_
    refine consH _ rfl ?_ AllReadyH.nil
    ·refine hzC 12 (Calls.mono (HR.out _ (HX.out.1.trans (bVac.mono HX.out.1.size))) ?_)
     rintro e Vacr ⟨vr,rfl,o1,hb⟩
     obtain ⟨avr,pvr,hvr,-⟩:=owns_slice o1
     subst hvr
     have bVacr:Below X.heap.size X Vacr:=bVac.trans (hb.mono bVac.size)
     have ocVacr:=owns_keepT ocVac fun k cur hc=>hb.block k (blk_lt hc)
     have hDVacr:=kept hb hDVac
     have orVacr:=owns_monoJ o1 bVac.size
     clear o1 hb
     refine ⟨_,rfl,bVacr,?_⟩
     try simp only [pA,pE,pB,pC,pD]
     refine tzH 15 10 (.agg #[.int .i64 N,(.slice avc cs.length pvc),.slice none 0 0,.slice none 0 0,(.slice avr rs.length pvr),.bool bad]) (Or.inl ⟨by kernel_rfl,fun w' _=>by kernel_rfl⟩) bVacr ?_
     try simp only [pA,pE,pB,pC,pD]
     refine rzH [12] ?_
     refine consH _ rfl (hopL rfl (wpList_store_row (by rfl) 30 _ _ (by rfl) X X.heap.size D #[.int .i64 N,(.slice avc cs.length pvc),.slice none 0 0,.slice none 0 0,(.slice avr rs.length pvr),.bool bad] _ (by kernel_rfl) (by kernel_rfl) hDVacr bVacr hDX 6 Tryz.infoZu (by rfl) (by rfl) (oneZ _ _ _ _ _ (own_valJ ocVacr).1 rfl rfl (own_valJ orVacr).1 _) fun W9 e9 b9 hs9 ho9=>?_)) AllReadyH.nil
     refine (And.intro b9 ?_:_ /\ _)
     try simp only [pA,pE,pB,pC,pD]
     refine wpAnyH_done (by kernel_rfl) ?_ _
     refine NoPanic.normal ?_
     try simp only [pA,pE,pB,pC,pD]
     go_wp2_with fail
     go_meet
     have hk9:∀ (k:Nat) (cur:Array Value),Vacr.heap[k]? = some (.cells cur 72) -> W9.heap[k]? = Vacr.heap[k]?:=fun k cur hc=>ho9 k (by rintro rfl;rw [hDVacr] at hc;cases hc)
     exact ⟨D,.slice avc cs.length pvc,.slice avr rs.length pvr,rfl,e9,⟨owns_monoJ (owns_keepT ocVacr hk9) HX.out.1.size,owns_monoJ (owns_keepT orVacr hk9) HX.out.1.size,World.ownsRow_nil _ _ _ _,World.ownsRow_nil _ _ _ _,rfl,fun j u hj=>(by simp at hj)⟩,HX.out.1.trans (b9.mono HX.out.1.size),⟨(b9.block _ (blk_lt HX.out.2.1)).trans HX.out.2.1,(b9.block _ (blk_lt HX.out.2.2)).trans HX.out.2.2⟩,Nat.lt_of_lt_of_le (blk_lt HX.out.2.2) hDX⟩
 case rest=>
 obtain ⟨D,vc,vr,rfl,ED,EL,EB,EK,hDl'⟩:=hcut
 have hDl:w.heap.size <= D:=by omega
 have hDz:w.heap.size ≠ D:=by omega
 have hD1:w.heap.size + 1 ≠ D:=by omega
 clear HX HC HR
 obtain ⟨d0,d1,d2,d3,d4,d5⟩:=cells6 ED.out
 obtain ⟨z0,z1,z2,z3,z4,z5⟩:=cells6 EK.out.1
 go_upto_region 3 with (first
  | (at_builtin;refine append_gnJ Tryz.underlying23 Tryz.infoIJ rfl (by decide) (by decide) wc (by rfl) _ _ (by rfl) w.heap.size (.slice none 0 0) 0 [] (by rfl) (World.ownsRow_nil _ _ _ _) io dn dc (ids.map (Value.int .i64)) (by rfl) HNI.out (by rw [List.length_map,HLN.out.1];omega) (rdI_news (HIR.out _ EB.out)) (intJ_one ids) (by omega) EB.out.size ?_;intro vi w1 o1 g1;rw [List.nil_append,Nat.zero_add,<- HLN.out.1] at o1;have s1D:w1.heap[D]? = _:=(g1.by'.block D (blk_lt ED.out) (by intro e;cases e)).trans ED.out;have q1:Below w.heap.size w w1:=EB.out.trans (g1.below (fun k hk=>by cases hk) EB.out.size))
  | (refine wpList_store_at (by rfl) 23 _ _ (by rfl) w w.heap.size D 2 vi _ #[.int .i64 N,vc,vi,.slice none 0 0,vr,.bool bad] 30 (by rfl) (by rfl) s1D q1 hDl 1 Tryz.szIs (by rw [(own_valJ o1).2];rfl) (Nat.le_of_ble_eq_true rfl) (by intro u hu;rw [(own_valJ o1).2] at hu;simp only [List.mem_cons,List.not_mem_nil,or_false] at hu;subst hu;exact (own_valJ o1).1) (by rw [(own_valJ o1).2];rfl) ?_;intro w2 e2 b2 s2 k2))
 have L2:OfL w2 w.heap.size cs rs ids [] vc vr vi (.slice none 0 0) []:=(EL.out.pushI (vi':=vi) g1 o1).keep fun k cur t ht hc=>k2 k (by rintro rfl;rw [s1D] at hc;cases hc;exact ht rfl)
 have Z2:w2.heap[w.heap.size]? = some (.cells #[.int .i64 N,.slice co cn cc,.slice io dn dc,.slice go gn gc,.slice ro rn rc,.bool bad] 26):=(k2 _ hDz).trans ((g1.by'.block _ (blk_lt EK.out.1) (by intro e;cases e)).trans EK.out.1)
 have R2:w2.heap[w.heap.size + 1]? = some (.cells #[.int .i64 0,.slice none 0 0,.slice none 0 0,.slice none 0 0,.slice none 0 0,.bool false] 30):=(k2 _ hD1).trans ((g1.by'.block _ (blk_lt EK.out.2) (by intro e;cases e)).trans EK.out.2)
 have H2:Hid _:=And.intro e2 (And.intro L2 (And.intro b2 (And.intro Z2 R2)))
 clear e2 L2 b2 Z2 R2 s2 k2 o1 g1 s1D q1 ED EL EB EK d0 d1 d2 d3 d4 d5 z0 z1 z2 z3 z4 z5 HIR HNI
 go_wp2_with fail
 go_loopg [4] gn (fun g u wx=>∃ (k:Nat) (vg:Value) (gl:List Value),u = .int .i64 k /\ k + g = gn /\ Hid (OfL wx w.heap.size cs rs ids (gs.take k) vc vr vi vg gl) /\ Hid (wx.heap[D]? = some (.cells #[.int .i64 N,vc,vi,vg,vr,.bool bad] 30)) /\ Hid (Below w.heap.size w wx) /\ Hid (wx.heap[w.heap.size]? = some (.cells #[.int .i64 N,.slice co cn cc,.slice io dn dc,.slice go gn gc,.slice ro rn rc,.bool bad] 26) /\ wx.heap[w.heap.size + 1]? = some (.cells #[.int .i64 0,.slice none 0 0,.slice none 0 0,.slice none 0 0,.slice none 0 0,.bool false] 30)))
 case atStart=>
  obtain ⟨e2,L2,b2,z2,r2⟩:=H2.out
  exact ⟨0,_,[],rfl,by omega,L2,e2,b2,⟨z2,r2⟩⟩
 case round=>
  obtain ⟨k,vg,gl,rfl,hk,HL,HD,HB,HK⟩:=hrel
  clear H2
  obtain ⟨z0,z1,z2,z3,z4,z5⟩:=cells6 HK.out.1
  by_cases hlt:k < gn
  ·have hd:decide ((k:Int) < (gn:Int)) = true:=decide_eq_true (by omega)
   obtain ⟨g,rfl⟩:∃ g,gk = g + 1:=⟨gk - 1,by omega⟩
   have HIG:Hid _:=hk
   obtain ⟨gb,goff,rfl⟩:∃ gb goff,go = some ⟨gb,goff,none⟩:=by
    rcases (HGR.out wr HB.out).cells with h0 | ⟨b,off,e,_⟩
    ·omega
    ·exact ⟨b,off,e⟩
   go_upto_region 6 with fail
   have HLG:Hid (gl.length + 1 <= 4000000):=by unfold Hid;have:=HL.out.len;rw [List.length_take] at this;omega
   have sV:wr.drew.heap[D]? = some (.cells #[.int .i64 N,vc,vi,vg,vr,.bool bad] 30) /\ wr.drew.heap[w.heap.size]? = some (.cells #[.int .i64 N,.slice co cn cc,.slice io dn dc,.slice (some ⟨gb,goff,none⟩) gn gc,.slice ro rn rc,.bool bad] 26) /\ RdGs wr.drew (some ⟨gb,goff,none⟩) gn gc gv gs:=⟨HD.out,HK.out.1,HGR.out _ HB.out.drew⟩
   have rV:wr.drew.heap[w.heap.size + 1]? = some (.cells #[.int .i64 0,.slice none 0 0,.slice none 0 0,.slice none 0 0,.slice none 0 0,.bool false] 30):=HK.out.2
   have LV:=HL.out.keep (w':=wr.drew) fun _ _ _ _ _=>rfl
   have qV:Below w.heap.size w wr.drew:=HB.out.drew
   clear z0 z1 z2 z3 z4 z5 hk
   refine wp_region_noPanic ?_
   refine wp_region_P (fun V=>V.heap[D]? = some (.cells #[.int .i64 N,vc,vi,vg,vr,.bool bad] 30) /\ V.heap[w.heap.size]? = some (.cells #[.int .i64 N,.slice co cn cc,.slice io dn dc,.slice (some ⟨gb,goff,none⟩) gn gc,.slice ro rn rc,.bool bad] 26) /\ RdGs V (some ⟨gb,goff,none⟩) gn gc gv gs) 11 (by kernel_rfl) ?_
   refine tzQ 29 0 ?_ ?_ (fun _=>sV) ?_
   rotate_left
   ·intro w' hSw;go_simp;try with_reducible rfl
   try simp only [pA,pE,pB,pC,pD]
   refine tzP 30 1 ?_ (Or.inl ⟨by kernel_rfl,?_⟩) sV ?_
   rotate_left
   ·intro w' hSw;obtain ⟨c0,c1,c2,c3,c4,c5⟩:=cells6 hSw.1;obtain ⟨z0,z1,z2,z3,z4,z5⟩:=cells6 hSw.2.1;go_simp;try with_reducible rfl
   try simp only [pA,pE,pB,pC,pD]
   refine tzQ 31 2 ?_ ?_ (fun _=>sV) ?_
   rotate_left
   ·intro w' hSw;go_simp;try with_reducible rfl
   try simp only [pA,pE,pB,pC,pD]
   refine tzP 32 3 ?_ (Or.inl ⟨by kernel_rfl,?_⟩) sV ?_
   rotate_left
   ·intro w' hSw;obtain ⟨c0,c1,c2,c3,c4,c5⟩:=cells6 hSw.1;obtain ⟨z0,z1,z2,z3,z4,z5⟩:=cells6 hSw.2.1;go_simp;try with_reducible rfl
   try simp only [pA,pE,pB,pC,pD]
   refine tzQ 33 4 ?_ ?_ (fun _=>sV) ?_
   rotate_left
   ·intro w' hSw;go_simp;try with_reducible rfl
   try simp only [pA,pE,pB,pC,pD]
   refine tzQ 34 5 ?_ ?_ (fun _=>sV) ?_
   rotate_left
   ·intro w' hSw;go_simp;try with_reducible rfl
   try simp only [pA,pE,pB,pC,pD]
   refine tzP 35 6 ?_ (Or.inl ⟨by kernel_rfl,?_⟩) sV ?_
   rotate_left
   ·intro w' hSw;have q0:=rdGs_at hSw.2.2 hlt;go_simp;try with_reducible rfl
   try simp only [pA,pE,pB,pC,pD]
   refine rzP [7] ?_
   refine consP _ rfl (hzC 36 (Calls.mono (HG.out k hlt _ qV) ?_)) AllReadyP.nil
   rintro e V1 ⟨v1,rfl,o1,b1⟩
   obtain ⟨a1,cp1,hv1,-⟩:=owns_slice o1
   subst hv1
   have s1:=And.intro (kept b1 sV.1) (And.intro (kept b1 sV.2.1) (sV.2.2.later b1))
   have L1:=LV.later b1
   have o1':=owns_monoJ o1 qV.size
   have q1:=qV.trans (b1.mono qV.size)
   refine ⟨_,rfl,s1,?_⟩
   try simp only [pA,pE,pB,pC,pD]
   refine rzP [8] ?_
   refine consP _ rfl (hopBJ 37 (Value.slice a1 (gs[k]?.getD []).length cp1) 27 rfl rfl rfl (by kernel_rfl) fun I V2 hI b2=>?_) AllReadyP.nil
   have s2:=And.intro (kept b2 s1.1) (And.intro (kept b2 s1.2.1) (s1.2.2.later b2))
   have L2:=L1.later b2
   have o2:=owns_keepT o1' fun k cur hc=>b2.block k (blk_lt hc)
   have q2:=q1.trans (b2.mono q1.size)
   refine ⟨s2,?_⟩
   try simp only [pA,pE,pB,pC,pD]
   refine rzP [9] ?_
   refine consP _ rfl (hopL rfl (append_gsJ Tryz.underlying28 Tryz.infoUsJ rfl (by decide) (by decide) V2 (by rfl) _ _ (by rfl) w.heap.size vg _ _ (by kernel_rfl) L2.g ⟨I,0,none⟩ 1 1 [(Value.slice a1 (gs[k]?.getD []).length cp1)] (by kernel_rfl) rfl (news_oneJ hI) (oneI _ (own_valJ o2).1) HLG.out q2.size fun v6 w6 o6 g6=>?_)) AllReadyP.nil
   change QK _ _ Exit.normal (Act.put _ (some 38) v6) w6
   have q6:=q2.trans (g6.below (fun k hk=>(World.ownsRow.lt L2.g k hk).1) q2.size)
   have s6D:=(grw_types L2.g g6 D _ _ (by decide) s2.1).trans s2.1
   have s6Z:=(grw_types L2.g g6 _ _ _ (by decide) s2.2.1).trans s2.2.1
   have s6R:w6.heap[w.heap.size + 1]? = _:=(grw_types L2.g g6 _ _ _ (by decide) (kept b2 (kept b1 rV))).trans (kept b2 (kept b1 rV))
   have s6G:=HGR.out w6 q6
   have L6:=L2.pushG g6 o6 o2
   refine (And.intro (And.intro s6D (And.intro s6Z s6G)) ?_:_ /\ _)
   try simp only [pA,pE,pB,pC,pD]
   clear g6
   refine tzQ 39 10 ?_ ?_ (fun _=>And.intro s6D (And.intro s6Z s6G)) ?_
   rotate_left
   ·intro w' hSw;go_simp;try with_reducible rfl
   try simp only [pA,pE,pB,pC,pD]
   refine rzP [11] ?_
   refine consPs _ rfl (by kernel_rfl) (hopL rfl (wpList_store_at (by rfl) 28 _ _ (by rfl) w w.heap.size D 3 v6 _ #[.int .i64 N,vc,vi,v6,vr,.bool bad] 30 (by kernel_rfl) (by kernel_rfl) s6D q6 hDl 1 Tryz.szUss (by rw [(own_valJ L6.g).2];rfl) (Nat.le_of_ble_eq_true rfl) (by intro u hu;rw [(own_valJ L6.g).2] at hu;simp only [List.mem_cons,List.not_mem_nil,or_false] at hu;subst hu;exact (own_valJ L6.g).1) (by rw [(own_valJ L6.g).2];rfl) fun w8 e8 b8 s8 k8=>?_)) AllReadyP.nil
   refine (And.intro trivial ?_:_ /\ _)
   try simp only [pA,pE,pB,pC,pD]
   refine wpAnyP_done (by kernel_rfl) ?_ _
   refine NoPanic.normal ?_
   try simp only [pA,pE,pB,pC,pD]
   have L8:=L6.keep (w':=w8) fun k cur t ht hc=>k8 k (by rintro rfl;rw [s6D] at hc;cases hc;exact ht rfl)
   have E8:Hid _:=And.intro e8 (And.intro L8 (And.intro b8 (And.intro ((k8 _ hDz).trans s6Z) ((k8 _ hD1).trans s6R))))
   clear s6D s6Z s6R s6G L6 q6 e8 b8 s8 k8 L8 o6 o2 o1 o1' L1 L2 q1 q2 b1 b2 hI s1 s2 sV LV qV rV
   go_wp2_with fail
   go_roundg g
   case measure=>omega
   case rel=>
    obtain ⟨e8,L8,b8,z8,r8⟩:=E8.out
    refine ⟨k + 1,v6,gl ++ [(Value.slice a1 (gs[k]?.getD []).length cp1)],by go_num,by have:=HIG.out;omega,?_,e8,b8,⟨z8,r8⟩⟩
    unfold Hid
    rw [take_snocG (by rw [HLN.out.2];exact hlt)]
    exact L8
  ·have hd:decide ((k:Int) < (gn:Int)) = false:=decide_eq_false (by omega)
   obtain rfl:k = gn:=by omega
   have L9:=HL.out
   rw [List.take_of_length_le (by rw [HLN.out.2];exact Nat.le_refl _)] at L9
   have HL9:Hid _:=L9
   clear L9
   go_wp2_with (first
    | (refine wpList_load_row (by rfl) 30 _ (by rfl) D _ (by rfl) HD.out _ Tryz.underlying30 rfl 6 Tryz.infoZu (by rfl) ?_)
    | (refine wpList_store_row (by rfl) 30 _ _ (by rfl) w w.heap.size (w.heap.size + 1) _ _ (by rfl) (by rfl) HK.out.2 HB.out (Nat.le_succ _) 6 Tryz.infoZu (by rfl) (by rfl) (oneZ _ _ _ _ _ (own_valJ HL.out.c).1 (own_valJ HL.out.i).1 (own_valJ HL.out.g).1 (own_valJ HL.out.r).1 _) ?_;intro W9 e9 b9 s9 o9))
   have L10:=HL9.out.keep (w':=W9) fun j cur t ht hc=>o9 j (by rintro rfl;rw [HK.out.2] at hc;cases hc;exact ht rfl)
   obtain ⟨u,hu,h1,h2,h3,h4,h5,h6,h7,h8,h9,h10,h11⟩:=L10.zu N bad
   refine bodyPost_ret (res_oneJ _ 2 30 (by kernel_rfl) _ _ (w.heap.size + 1) _ (by rfl) _ Tryz.underlying30 rfl 6 Tryz.infoZu rfl e9) rfl ?_
   exact ⟨u,congrArg Ending.returned hu,h1,h2,h3,h4,h5,h6,h7,h8.trans HLN.out.1,h9.trans HLN.out.2,h10.trans HLC.out.1,h11.trans HLC.out.2,b9,L10.ofO hu h4 h5 h6 h7⟩
theorem colsB_drop (z:ZD):∀ (m k:Nat) (last:Int),k + m = z.dn -> (colsB z last ((List.finRange z.dn).drop k) = true ↔ ∀ j:Nat,k <= j -> j < z.dn -> (if j = k then last else z.ids[j - 1]?.getD 0) < z.ids[j]?.getD 0 /\ z.ids[j]?.getD 0 <= 1073741824 /\ numN (z.gs[j]?.getD []) z.N = true)
 | 0,k,last,h=>by
  rw [List.drop_of_length_le (by rw [List.length_finRange];omega)]
  exact ⟨fun _ j h1 h2=>by omega,fun _=>rfl⟩
 | m + 1,k,last,h=>by
  have hk:k < (List.finRange z.dn).length:=by rw [List.length_finRange];omega
  rw [List.drop_eq_getElem_cons hk]
  have ih:=colsB_drop z m (k + 1) (z.ids[k]?.getD 0) (by omega)
  have hst:colsB z last ((List.finRange z.dn)[k] :: (List.finRange z.dn).drop (k + 1)) = (colOk z last (List.finRange z.dn)[k] && colsB z (idZ z (List.finRange z.dn)[k]) ((List.finRange z.dn).drop (k + 1))):=rfl
  have he:((List.finRange z.dn)[k]).val = k:=by simp
  have hid:idZ z (List.finRange z.dn)[k] = z.ids[k]?.getD 0:=by unfold idZ;rw [he]
  rw [hst,Bool.and_eq_true,hid,ih]
  unfold colOk
  rw [hid,he]
  simp only [Bool.and_eq_true,decide_eq_true_eq]
  constructor
  ·rintro ⟨⟨⟨a1,a2⟩,a3⟩,a4⟩ j h1 h2
   by_cases e:j = k
   ·subst e;rw [if_pos rfl];exact ⟨a1,a2,a3⟩
   ·have:=a4 j (by omega) h2
    rw [if_neg e]
    by_cases e':j = k + 1
    ·subst e';rw [if_pos rfl] at this;rw [Nat.add_sub_cancel];exact this
    ·rw [if_neg e'] at this;exact this
  ·intro H
   have h0:=H k (Nat.le_refl _) (by omega)
   rw [if_pos rfl] at h0
   refine ⟨⟨⟨h0.1,h0.2.1⟩,h0.2.2⟩,fun j h1 h2=>?_⟩
   have:=H j (by omega) h2
   rw [if_neg (by omega)] at this
   by_cases e':j = k + 1
   ·subst e';rw [if_pos rfl];rw [Nat.add_sub_cancel] at this;exact this
   ·rw [if_neg e'];exact this
theorem wholeB_iff (z:ZD):wholeB z = true ↔ (1 <= z.N /\ z.N <= 256 /\ numN z.cs z.N = true /\ numN z.rs z.N = true /\ z.dn = z.gn /\ posB z.rs = true /\ ∀ j:Nat,j < z.dn -> (if j = 0 then -1 else z.ids[j - 1]?.getD 0) < z.ids[j]?.getD 0 /\ z.ids[j]?.getD 0 <= 1073741824 /\ numN (z.gs[j]?.getD []) z.N = true):=by
 have h:=colsB_drop z z.dn 0 (-1) (by omega)
 rw [List.drop_zero] at h
 unfold wholeB
 simp only [Bool.and_eq_true,decide_eq_true_eq,h]
 constructor
 ·rintro ⟨⟨⟨⟨⟨⟨a1,a2⟩,a3⟩,a4⟩,a5⟩,a6⟩,a7⟩
  exact ⟨a1,a2,a3,a4,a5,a6,fun j hj=>a7 j (Nat.zero_le _) hj⟩
 ·rintro ⟨a1,a2,a3,a4,a5,a6,a7⟩
  exact ⟨⟨⟨⟨⟨⟨a1,a2⟩,a3⟩,a4⟩,a5⟩,a6⟩,fun j _ hj=>a7 j hj⟩
end Go.Proofs.YtmdjoaipkbnelaaGreat
namespace Go.Proofs.YtmdjoaipkbnelaaGreat
open Go.RowKit
def rE (m:Nat) (e:Int):Int:=max ((bl m:Int) + e - 53) (-1074)
def rH (m:Nat) (e:Int):Nat:=if rE m e - 1 <= e then m * 2 ^ (e - (rE m e - 1)).toNat else m / 2 ^ (rE m e - 1 - e).toNat
def rR (m:Nat) (e:Int):Bool:=if rE m e - 1 <= e then false else nz (m % 2 ^ (rE m e - 1 - e).toNat)
def rP (d:Int) (neg rest:Bool) (h:Nat) (e:Int):Nat × Bool:=if infK <= ((e + 1074).toNat * 4503599627370496 + h / 2 + (moreR d neg rest h).toNat) \/ 971 < e then (if d = 0 \/ moreR d neg rest h = true \/ (d = 1 /\ neg = false) \/ (d = 2 /\ neg = true) then (0,false) else (sgnK neg 9218868437227405311,true)) else (sgnK neg ((e + 1074).toNat * 4503599627370496 + h / 2 + (moreR d neg rest h).toNat),true)
def RoundRes (d:Int) (neg:Bool) (n D:Nat) (w:World) (e':Ending) (w':World):Prop:=∃ (a:Nat) (b:Bool),e' = .returned (.tuple #[.int .u64 (a:Int),.bool b]) /\ Rnd d neg n D (a,b) /\ Below w.heap.size w w'
def RoundZ (d z:Int) (D:Nat) (w:World) (e':Ending) (w':World):Prop:=∃ (a:Nat) (b:Bool),e' = .returned (.tuple #[.int .u64 (a:Int),.bool b]) /\ RndZ d z D (a,b) /\ Below w.heap.size w w'
def NumC (w:World) (v:Value) (s:Nat) (T:Int) (z:Int):Prop:=∃ neg m e,NumV w v neg m e /\ -(s:Int) <= e /\ (bl m:Int) + e <= T /\ zv s neg m e = z /\ (m = 0 -> e = 0)
theorem NumC.later {w w':World} {v:Value} {s:Nat} {T z:Int} (h:NumC w v s T z) (hb:Below w.heap.size w w'):NumC w' v s T z:=by
 obtain ⟨neg,m,e,h1,h2⟩:=h
 exact ⟨neg,m,e,h1.later hb,h2⟩
theorem NumC.toZ {w:World} {v:Value} {s:Nat} {T z:Int} (h:NumC w v s T z):NumZ w v s T z:=by
 obtain ⟨neg,m,e,h1,h2,h3,h4,_⟩:=h
 exact ⟨neg,m,e,h1,h2,h3,h4⟩
theorem NumC.mono {w:World} {v:Value} {s:Nat} {T T' z:Int} (h:NumC w v s T z) (hT:T <= T'):NumC w v s T' z:=by
 obtain ⟨neg,m,e,h1,h2,h3,h4⟩:=h
 exact ⟨neg,m,e,h1,h2,by omega,h4⟩
theorem NumC.size {w:World} {nb:Bool} {ao:Option Addr} {len cap:Nat} {e:Int} {s:Nat} {T z:Int} (h:NumC w (.agg #[.bool nb,.slice ao len cap,.int .i64 e]) s T z):NumC w (.agg #[.bool false,.slice ao len cap,.int .i64 e]) s T (z.natAbs:Int):=by
 obtain ⟨neg,m,e',⟨a,l,c,xs,h1,h2,h3,h4⟩,h5,h6,h7,h8⟩:=h
 cases h1
 refine ⟨false,m,e,⟨ao,len,cap,xs,rfl,h2,h3,h4⟩,h5,h6,?_,h8⟩
 rw [<- h7,zv_abs];unfold zv sv
 simp only [Bool.false_eq_true,if_false]
 rw [Int.natCast_mul]
open Go.RowKit Go.Shelf
structure WdI (w:World) (base g cap:Nat) (is:List Int):Prop where
 lo:base <= g
 room:is.length + 2 <= cap
 max:cap <= maxLen
 cur:∃ cur,w.heap[g]? = some (.cells cur 3) /\ (∀ j,j < is.length -> cur[j]? = some (.int .i64 (is[j]?.getD 0))) /\ cur[is.length]? = some (.int .i64 901) /\ cur[is.length + 1]? = some (.int .i64 902)
theorem WdI.keep {w w':World} {base g cap:Nat} {is:List Int} (h:WdI w base g cap is) (hk:∀ (k:Nat) (cur:Array Value),w.heap[k]? = some (.cells cur 3) -> w'.heap[k]? = w.heap[k]?):WdI w' base g cap is:=by
 obtain ⟨cur,h1,h2⟩:=h.cur
 exact ⟨h.lo,h.room,h.max,cur,(hk g cur h1).trans h1,h2⟩
theorem WdI.rd {w:World} {base g cap:Nat} {is:List Int} (h:WdI w base g cap is):RdIs w (some ⟨g,0,none⟩) is.length cap is:=by
 obtain ⟨cur,h1,h2,h3⟩:=h.cur
 exact ⟨rfl,by have:=h.room;have:=h.max;omega,.inr ⟨g,0,rfl,fun j hj=>by rw [Nat.zero_add];exact cellAtJ h1 j _ (h2 j hj)⟩⟩
theorem WdI.of {w:World} {base c g n:Nat} {is:List Int} (h:w.ownsRow base 3 1 (.slice (some ⟨g,0,none⟩) n c) n (is.map (Value.int .i64) ++ [.int .i64 901,.int .i64 902])):WdI w base g c is /\ n = is.length + 2:=by
 have hl:n = is.length + 2:=by have:=h.1;simp at this;omega
 subst hl
 rcases h.2 with ⟨h1,h2⟩ | ⟨g',cap,cur,hv,hg,hh,k1,k2,k3,k4⟩
 ·cases h1
 ·cases hv
  have hat:∀ j,j < is.length + 2 -> cur[j]? = (is.map (Value.int .i64) ++ [.int .i64 901,.int .i64 902])[j]?:=fun j hj=>by rw [<- k4,List.getElem?_take,if_pos (by omega),Array.getElem?_toList]
  refine ⟨⟨hg,k1,k2,cur,hh,fun j hj=>?_,?_,?_⟩,rfl⟩
  ·rw [hat j (by omega),List.getElem?_append_left (by simpa using hj),List.getElem?_map,List.getElem?_eq_getElem hj]
   rfl
  ·rw [hat _ (by omega),List.getElem?_append_right (by simp)]
   simp
  ·rw [hat _ (by omega),List.getElem?_append_right (by simp)]
   simp
structure ColW (w:World) (base:Nat) (gs:List (List Nat)) (vs:List Value):Prop where
 len:vs.length = gs.length
 col:∀ (j:Nat) (u:Value),vs[j]? = some u -> ∃ b c,u = .slice (some ⟨b,0,none⟩) (gs[j]?.getD []).length c /\ WdB w base b c (gs[j]?.getD [])
theorem ColW.nil (w:World) (base:Nat):ColW w base [] []:=⟨rfl,fun j u hj=>by simp at hj⟩
theorem ColW.keep {w w':World} {base:Nat} {gs:List (List Nat)} {vs:List Value} (h:ColW w base gs vs) (hk:∀ (k:Nat) (cur:Array Value),w.heap[k]? = some (.cells cur 45) -> w'.heap[k]? = w.heap[k]?):ColW w' base gs vs:=
 ⟨h.len,fun j u hj=>by obtain ⟨b,c,h1,h2⟩:=h.col j u hj;exact ⟨b,c,h1,h2.keep hk⟩⟩
theorem ColW.snoc {w:World} {base b c:Nat} {gs:List (List Nat)} {vs:List Value} {us:List Nat} (h:ColW w base gs vs) (hb:WdB w base b c us):ColW w base (gs ++ [us]) (vs ++ [.slice (some ⟨b,0,none⟩) us.length c]):=by
 refine ⟨by simp [h.len],fun j u hj=>?_⟩
 by_cases e:j < vs.length
 ·rw [List.getElem?_append_left e] at hj
  rw [List.getElem?_append_left (by rw [<- h.len];exact e)]
  exact h.col j u hj
 ·have hl:=(List.getElem?_eq_some_iff.1 hj).1
  have ej:j = vs.length:=by simp at hl;omega
  subst ej
  rw [List.getElem?_append_right (Nat.le_refl _),Nat.sub_self,List.getElem?_cons_zero] at hj
  cases hj
  rw [List.getElem?_append_right (by rw [h.len];exact Nat.le_refl _),h.len,Nat.sub_self,List.getElem?_cons_zero]
  exact ⟨b,c,rfl,hb⟩
structure LdR (w:World) (base:Nat) (z x:ZD):Prop where
 zr:ZR w x
 N:x.N = z.N
 bad:x.bad = z.bad
 cs:x.cs = z.cs
 rs:x.rs = z.rs
 ids:x.ids = z.ids
 gs:x.gs = z.gs
 c:∃ g,x.co = some ⟨g,0,none⟩ /\ WdB w base g x.cc x.cs /\ x.cn = x.cs.length
 r:∃ g,x.ro = some ⟨g,0,none⟩ /\ WdB w base g x.rc x.rs /\ x.rn = x.rs.length
 i:∃ g,x.io = some ⟨g,0,none⟩ /\ WdI w base g x.dc x.ids /\ x.dn = x.ids.length
 g:∃ g mb,x.go = some ⟨g,0,none⟩ /\ x.gn = x.gs.length /\ x.gn + 1 <= x.gc /\ x.gc <= maxLen /\ w.cell? ⟨g,x.gn,none⟩ = some (.slice (some ⟨mb,0,none⟩) 1 1) /\ w.cell? ⟨mb,0,none⟩ = some (.float .f64 4651136495631990784)
 col:∀ j,j < x.gn -> ∃ b,x.gv j = (some ⟨b,0,none⟩,(x.gs[j]?.getD []).length,(x.gv j).2.2) /\ WdB w base b (x.gv j).2.2 (x.gs[j]?.getD [])
theorem LdR.later {w w':World} {base:Nat} {z x:ZD} (h:LdR w base z x) (hb:Below w.heap.size w w'):LdR w' base z x:=by
 have cell:∀ (p:Addr) (v:Value),w.cell? p = some v -> w'.cell? p = some v:=fun p v hp=>(hb.cell (World.block_lt_of_cell? _ _ hp)).trans hp
 refine ⟨h.zr.later hb,h.N,h.bad,h.cs,h.rs,h.ids,h.gs,?_,?_,?_,?_,fun j hj=>?_⟩
 ·obtain ⟨g,h1,h2,h3⟩:=h.c;exact ⟨g,h1,h2.later hb,h3⟩
 ·obtain ⟨g,h1,h2,h3⟩:=h.r;exact ⟨g,h1,h2.later hb,h3⟩
 ·obtain ⟨g,h1,h2,h3⟩:=h.i;exact ⟨g,h1,h2.keep fun k cur hc=>hb.block k (blk_lt hc),h3⟩
 ·obtain ⟨g,mb,h1,h2,h3,h4,h5,h6⟩:=h.g;exact ⟨g,mb,h1,h2,h3,h4,cell _ _ h5,cell _ _ h6⟩
 ·obtain ⟨b,h1,h2⟩:=h.col j hj;exact ⟨b,h1,h2.later hb⟩
end Go.Proofs.YtmdjoaipkbnelaaGreat
