import Derived.Test.YtmdjoaipkbnelaaGreatPPi
set_option maxRecDepth 100000
set_option maxHeartbeats 20000000
set_option linter.unusedVariables false
set_option linter.unusedSimpArgs false
namespace Go.Proofs.YtmdjoaipkbnelaaGreat
open Go.RowKit Go.Shelf
theorem put_noneL {P:Program} {ops:Array Oper} {Q:Exit -> Act -> World -> Prop} {rest:List Oper} {a:Act} {dst:Option Tmp} {v:Value} {w:World} (hd:dst = none) (h:wpList P ops Q rest a w):wpList P ops Q rest (a.put dst v) w:=by subst hd;exact h
structure GdZ (z:ZD):Prop where
 nb:z.bad = false
 wh:WhF z
 wb:wholeB z = true
 fz:FinZ z
theorem tk_gd {w:World} {z:ZD} (hz:ZR w z) (hd:z.dn <= 1050000) (h:(tkZ z).bad = false):GdZ (tkZ z):=by
 have hf:=tkZ_fin hz
 have hr:=tkZ_ZR hz
 unfold tkZ at h hf hr ⊢
 split at h
 ·rename_i hc
  rw [if_pos hc] at hf hr
  rw [if_pos hc]
  have hw:wholeB z = true:=by unfold checkB at hc;rw [h] at hc;exact hc
  exact ⟨h,WhF.of hz hd hw,hw,hf⟩
 ·cases h
theorem tk_dn {z:ZD} {d:Nat} (h:z.dn <= d):(tkZ z).dn <= d:=by
 unfold tkZ
 split
 ·exact h
 ·exact Nat.zero_le _
theorem SuPost.mono {a b:ZD} {n base base':Nat} {w w':World} {c:Array Value} {ok:Bool} (h:SuPost a b n base w c ok) (hb:base' <= base) (hk:∀ (k:Nat) (cur:Array Value) (t:TypeId),t ≠ 26 -> w.heap[k]? = some (.cells cur t) -> w'.heap[k]? = w.heap[k]?):SuPost a b n base' w' c ok:=by
 refine ⟨h.sz,h.one,fun ho=>?_,h.no⟩
 obtain ⟨bc,br,vi,vg,gl,cu,cv,UL,VL,rs,e,hf,r⟩:=h.yes ho
 exact ⟨bc,br,vi,vg,gl,cu,cv,UL,VL,rs,e,(hf.mono hb).keep hk,r⟩
structure PlR (a b:ZD) (base:Nat) (w':World) (c:Array Value):Prop where
 un:a.N ≠ b.N -> c = #[.int .i64 0,.slice none 0 0,.slice none 0 0,.slice none 0 0,.slice none 0 0,.bool true]
 bd:a.N = b.N -> (a.bad = true \/ b.bad = true) -> c = #[.int .i64 a.N,.slice none 0 0,.slice none 0 0,.slice none 0 0,.slice none 0 0,.bool true]
 gd:a.N = b.N -> a.bad = false -> b.bad = false -> GdZ a /\ GdZ b /\ a.rn = b.rn /\ ((c = #[.int .i64 a.N,.slice none 0 0,.slice none 0 0,.slice none 0 0,.slice none 0 0,.bool true] /\ NoS a b a.rn) \/ SuPost a b a.rn base w' c true)
def PlA (a b:ZD) (base:Nat) (e:Ending) (w':World):Prop:=∃ c,e = .returned (.agg c) /\ PlR a b base w' c
theorem PlR.mk_un {a b:ZD} {base:Nat} {w':World} (h:a.N ≠ b.N):PlR a b base w' #[.int .i64 0,.slice none 0 0,.slice none 0 0,.slice none 0 0,.slice none 0 0,.bool true]:=⟨fun _=>rfl,fun e=>absurd e h,fun e=>absurd e h⟩
theorem PlR.mk_bd {a b:ZD} {base:Nat} {w':World} (h:a.N = b.N) (hb:a.bad = true \/ b.bad = true):PlR a b base w' #[.int .i64 a.N,.slice none 0 0,.slice none 0 0,.slice none 0 0,.slice none 0 0,.bool true]:=⟨fun e=>absurd h e,fun _ _=>rfl,fun _ h1 h2=>absurd hb (by rw [h1,h2];simp)⟩
theorem plusP_any (a b:ZD) (w:World) (ha:ZR w a) (hb:ZR w b) (da:a.dn <= 1050000) (db:b.dn <= 1050000) :
  Calls Tryz.prog 7 #[.agg (zRow a),.agg (zRow b)] w fun e w'=>PlA (tkZ a) (tkZ b) w.heap.size e w' /\ Below w.heap.size w w':=by
 have HTA:Hid (∀ W',Below w.heap.size w W' -> _):=fun W' h=>takenZ_any a W' (ha.later h)
 have HTB:Hid (∀ W',Below w.heap.size w W' -> _):=fun W' h=>takenZ_any b W' (hb.later h)
 have HRA:Hid (∀ W',Below w.heap.size w W' -> ZR W' (tkZ a)):=fun W' h=>tkZ_ZR (ha.later h)
 have HRB:Hid (∀ W',Below w.heap.size w W' -> ZR W' (tkZ b)):=fun W' h=>tkZ_ZR (hb.later h)
 have HGA:Hid ((tkZ a).bad = false -> GdZ (tkZ a)):=tk_gd ha da
 have HGB:Hid ((tkZ b).bad = false -> GdZ (tkZ b)):=tk_gd hb db
 have HDA:Hid ((tkZ a).dn <= 1050000 /\ (tkZ b).dn <= 1050000):=⟨tk_dn da,tk_dn db⟩
 obtain ⟨ta,hta⟩:∃ x,tkZ a = x:=⟨_,rfl⟩
 obtain ⟨tb,htb⟩:∃ x,tkZ b = x:=⟨_,rfl⟩
 rw [hta] at HTA HRA HGA HDA ⊢
 rw [htb] at HTB HRB HGB HDA ⊢
 clear hta htb ha hb da db
 have X0:Below w.heap.size w (((w.alloc (.cells (zRow a) 26)).alloc (.cells (zRow b) 26)).alloc (.cells #[.int .i64 0,.slice none 0 0,.slice none 0 0,.slice none 0 0,.slice none 0 0,.bool false] 26)):=(((Below.refl _ w).alloc (Nat.le_refl _) _).alloc (by simp only [alloc_size];omega) _).alloc (by simp only [alloc_size];omega) _
 have Y0:(((w.alloc (.cells (zRow a) 26)).alloc (.cells (zRow b) 26)).alloc (.cells #[.int .i64 0,.slice none 0 0,.slice none 0 0,.slice none 0 0,.slice none 0 0,.bool false] 26)).heap[w.heap.size]? = some (.cells (zRow a) 26):=alloc_kept (alloc_kept (heap_alloc_new w _) _) _
 have Y1:(((w.alloc (.cells (zRow a) 26)).alloc (.cells (zRow b) 26)).alloc (.cells #[.int .i64 0,.slice none 0 0,.slice none 0 0,.slice none 0 0,.slice none 0 0,.bool false] 26)).heap[w.heap.size + 1]? = some (.cells (zRow b) 26):=alloc_kept (heap_at _ _ _ (by simp only [alloc_size])) _
 have Y2:(((w.alloc (.cells (zRow a) 26)).alloc (.cells (zRow b) 26)).alloc (.cells #[.int .i64 0,.slice none 0 0,.slice none 0 0,.slice none 0 0,.slice none 0 0,.bool false] 26)).heap[w.heap.size + 2]? = some (.cells #[.int .i64 0,.slice none 0 0,.slice none 0 0,.slice none 0 0,.slice none 0 0,.bool false] 26):=heap_at _ _ _ (by simp only [alloc_size])
 go_enter Tryz.func7,Tryz.ntmps7
 go_upto_region 1 with fail
 obtain ⟨w3,hw3⟩:∃ X,(((w.alloc (.cells (zRow a) 26)).alloc (.cells (zRow b) 26)).alloc (.cells #[.int .i64 0,.slice none 0 0,.slice none 0 0,.slice none 0 0,.slice none 0 0,.bool false] 26)) = X:=⟨_,rfl⟩
 rw [hw3] at X0 Y0 Y1 Y2 ⊢
 clear hw3
 refine wp_region_noPanic ?_
 refine wp_region_P (fun V=>V.heap[w.heap.size + 1]? = some (.cells (zRow b) 26)) 5 (by kernel_rfl) ?_
 have SV:w3.drew.heap[w.heap.size + 1]? = some (.cells (zRow b) 26):=Y1
 have AV:w3.drew.heap[w.heap.size]? = some (.cells (zRow a) 26):=Y0
 have qV:Below w.heap.size w w3.drew:=X0.drew
 have nV:w3.drew.heap[w.heap.size + 2]? = some (.cells #[.int .i64 0,.slice none 0 0,.slice none 0 0,.slice none 0 0,.slice none 0 0,.bool false] 26):=Y2
 obtain ⟨V,hV⟩:∃ V,w3.drew = V:=⟨_,rfl⟩
 rw [hV] at SV AV qV nV ⊢
 clear hV
 refine tzP 9 2 (.agg (zRow b)) (Or.inl ⟨by kernel_rfl,fun w' hSw=>ex_loadRN _ 26 _ rfl (w.heap.size + 1) (by kernel_rfl) w' _ hSw _ Tryz.underlying26 rfl 6 Tryz.infoZq rfl⟩) SV ?_
 (try simp only [pA,pE,pB,pC,pD])
 refine rzP [0] ?_
 refine consP _ rfl (hopV 7 (v:=.agg (zRow a)) (w':=V) rfl rfl rfl (ex_loadRN _ 26 _ rfl w.heap.size (by kernel_rfl) V _ AV _ Tryz.underlying26 rfl 6 Tryz.infoZq rfl) ⟨SV,?_⟩) AllReadyP.nil
 (try simp only [pA,pE,pB,pC,pD])
 refine rzP [1] ?_
 refine consP _ rfl (hzC 8 (Calls.mono (HTA.out _ qV) ?_)) AllReadyP.nil
 rintro e V1 ⟨rfl,b1⟩
 have S1:=kept b1 SV
 have A1:=kept b1 AV
 have q1:=to_call qV b1
 have n1:=kept b1 nV
 refine ⟨_,rfl,S1,?_⟩
 (try simp only [pA,pE,pB,pC,pD])
 refine rzP [3] ?_
 refine consP _ rfl (hzC 10 (Calls.mono (HTB.out _ q1) ?_)) AllReadyP.nil
 rintro e V2 ⟨rfl,b2⟩
 have S2:=kept b2 S1
 have A2:=kept b2 A1
 have q2:=to_call q1 b2
 have n2:=kept b2 n1
 refine ⟨_,rfl,S2,?_⟩
 (try simp only [pA,pE,pB,pC,pD])
 refine rzP [4] ?_
 refine consP _ rfl (hopL rfl (wpList_store_row (by rfl) 26 _ _ (by rfl) w w.heap.size (w.heap.size) (zRow ta) _ (by kernel_rfl) (by kernel_rfl) A2 q2 (by omega) 6 Tryz.infoZq rfl rfl (oneZ _ _ _ _ _ rfl rfl rfl rfl _) fun V3 e3 b3 s3 o3=>put_noneL rfl ?_)) AllReadyP.nil
 have S3:=(o3 (w.heap.size + 1) (by omega)).trans S2
 refine ⟨S3,?_⟩
 (try simp only [pA,pE,pB,pC,pD])
 refine rzP [5] ?_
 refine consPs _ rfl (by kernel_rfl) (hopL rfl (wpList_store_row (by rfl) 26 _ _ (by rfl) w w.heap.size (w.heap.size + 1) (zRow tb) _ (by kernel_rfl) (by kernel_rfl) S3 b3 (by omega) 6 Tryz.infoZq rfl rfl (oneZ _ _ _ _ _ rfl rfl rfl rfl _) fun V4 e4 b4 s4 o4=>put_noneL rfl ?_)) AllReadyP.nil
 refine ⟨trivial,?_⟩
 (try simp only [pA,pE,pB,pC,pD])
 refine wpAnyP_done (by kernel_rfl) ?_ _
 refine NoPanic.normal ?_
 (try simp only [pA,pE,pB,pC,pD])
 have HE:Hid (V4.heap[w.heap.size]? = some (.cells (zRow ta) 26) /\ V4.heap[w.heap.size + 1]? = some (.cells (zRow tb) 26) /\ V4.heap[w.heap.size + 2]? = some (.cells #[.int .i64 0,.slice none 0 0,.slice none 0 0,.slice none 0 0,.slice none 0 0,.bool false] 26) /\ Below w.heap.size w V4):=⟨(o4 _ (by omega)).trans e3,e4,(o4 _ (by omega)).trans ((o3 _ (by omega)).trans n2),b4⟩
 clear e3 e4 o3 o4 n2 n1 nV S1 S2 S3 SV A1 A2 AV b1 b2 b3 b4 q1 q2 qV s3 s4 Y0 Y1 Y2 X0 HTA HTB
 obtain ⟨a0,a1,a2,a3,a4,a5⟩:=cells6 (show V4.heap[w.heap.size]? = some (.cells (zRow ta) 26) from HE.out.1)
 obtain ⟨b0,b1,b2,b3,b4,b5⟩:=cells6 (show V4.heap[w.heap.size + 1]? = some (.cells (zRow tb) 26) from HE.out.2.1)
 clear a1 a2 a3 a4 b1 b2 b3 b4
 go_upto_region 2 with fail
 have q4:Below w.heap.size w V4:=HE.out.2.2.2
 have n4:=HE.out.2.2.1
 by_cases q0:ta.N = tb.N
 case neg=>
  have d0:(ta.N == tb.N) = false:=by simpa using q0
  have HQ:Hid (ta.N ≠ tb.N):=q0
  clear q0
  go_wp2_with (first
   | (go_at_call 18;refine Calls.mono (badZ_any 0 V4) ?_;rintro e w7 ⟨rfl,b7⟩)
   | (refine wpList_store_row (by rfl) 26 _ _ (by rfl) w w.heap.size (w.heap.size + 2) #[.int .i64 0,.slice none 0 0,.slice none 0 0,.slice none 0 0,.slice none 0 0,.bool true] _ (by rfl) (by rfl) (kept b7 n4) (to_call q4 b7) (by omega) 6 Tryz.infoZq (by rfl) (by rfl) (oneZ _ _ _ _ _ rfl rfl rfl rfl _) ?_;intro W9 e9 b9 s9 o9))
  refine bodyPost_ret (res_oneJ _ 4 26 (by kernel_rfl) _ _ (w.heap.size + 2) #[.int .i64 0,.slice none 0 0,.slice none 0 0,.slice none 0 0,.slice none 0 0,.bool true] (by rfl) _ Tryz.underlying26 rfl 6 Tryz.infoZq rfl e9) rfl ?_
  exact ⟨⟨_,rfl,PlR.mk_un HQ.out⟩,b9⟩
 have d0:(ta.N == tb.N) = true:=by simpa using q0
 have HQ:Hid (ta.N = tb.N):=q0
 clear q0
 cases hba:ta.bad with
 | true=>
  have HB:Hid (ta.bad = true):=hba
  rw [hba] at a5
  clear hba
  go_wp2_with (first
   | (go_at_call 18;refine Calls.mono (badZ_any ta.N V4) ?_;rintro e w7 ⟨rfl,b7⟩)
   | (refine wpList_store_row (by rfl) 26 _ _ (by rfl) w w.heap.size (w.heap.size + 2) #[.int .i64 ta.N,.slice none 0 0,.slice none 0 0,.slice none 0 0,.slice none 0 0,.bool true] _ (by rfl) (by rfl) (kept b7 n4) (to_call q4 b7) (by omega) 6 Tryz.infoZq (by rfl) (by rfl) (oneZ _ _ _ _ _ rfl rfl rfl rfl _) ?_;intro W9 e9 b9 s9 o9))
  refine bodyPost_ret (res_oneJ _ 4 26 (by kernel_rfl) _ _ (w.heap.size + 2) #[.int .i64 ta.N,.slice none 0 0,.slice none 0 0,.slice none 0 0,.slice none 0 0,.bool true] (by rfl) _ Tryz.underlying26 rfl 6 Tryz.infoZq rfl e9) rfl ?_
  exact ⟨⟨_,rfl,PlR.mk_bd HQ.out (.inl HB.out)⟩,b9⟩
 | false=>
  have HB:Hid (ta.bad = false):=hba
  rw [hba] at a5
  clear hba
  cases hbb:tb.bad with
  | true=>
   have HB2:Hid (tb.bad = true):=hbb
   rw [hbb] at b5
   clear hbb
   go_wp2_with (first
    | (go_at_call 18;refine Calls.mono (badZ_any ta.N V4) ?_;rintro e w7 ⟨rfl,b7⟩)
    | (refine wpList_store_row (by rfl) 26 _ _ (by rfl) w w.heap.size (w.heap.size + 2) #[.int .i64 ta.N,.slice none 0 0,.slice none 0 0,.slice none 0 0,.slice none 0 0,.bool true] _ (by rfl) (by rfl) (kept b7 n4) (to_call q4 b7) (by omega) 6 Tryz.infoZq (by rfl) (by rfl) (oneZ _ _ _ _ _ rfl rfl rfl rfl _) ?_;intro W9 e9 b9 s9 o9))
   refine bodyPost_ret (res_oneJ _ 4 26 (by kernel_rfl) _ _ (w.heap.size + 2) #[.int .i64 ta.N,.slice none 0 0,.slice none 0 0,.slice none 0 0,.slice none 0 0,.bool true] (by rfl) _ Tryz.underlying26 rfl 6 Tryz.infoZq rfl e9) rfl ?_
   exact ⟨⟨_,rfl,PlR.mk_bd HQ.out (.inr HB2.out)⟩,b9⟩
  | false=>
   have HB2:Hid (tb.bad = false):=hbb
   rw [hbb] at b5
   clear hbb
   have GA:=HGA.out HB.out
   have GB:=HGB.out HB2.out
   have hrn:ta.rn = tb.rn:=by
    have h1:=GA.wh.N
    have h2:=GB.wh.N
    have h3:=HQ.out
    omega
   have HSU:Hid _:=sumOf_any ta tb ta.rn V4 (HRA.out _ q4) (HRB.out _ q4) GA.wh GB.wh GA.wb GB.wb GA.fz GB.fz rfl hrn.symm HDA.out.1 HDA.out.2
   have HG:Hid (GdZ ta /\ GdZ tb /\ ta.rn = tb.rn):=⟨GA,GB,hrn⟩
   clear GA GB hrn
   go_upto_region 7 with (first
    | (refine wpList_load_row (by rfl) 26 _ (by rfl) w.heap.size _ (by rfl) HE.out.1 _ Tryz.underlying26 rfl 6 Tryz.infoZq (by rfl) ?_)
    | (refine wpList_load_row (by rfl) 26 _ (by rfl) (w.heap.size + 1) _ (by rfl) HE.out.2.1 _ Tryz.underlying26 rfl 6 Tryz.infoZq (by rfl) ?_)
    | (go_at_call 23;refine Calls.mono HSU.out ?_;rintro e w5 ⟨⟨c,ok,rfl,hp⟩,b5'⟩)
    | (refine wpList_store_row (by rfl) 26 _ _ (by rfl) w w.heap.size w5.heap.size c _ (by rfl) (by rfl) (heap_alloc_new w5 _) ((to_call q4 b5').alloc (to_call q4 b5').size _) (to_call q4 b5').size 6 Tryz.infoZq hp.sz rfl hp.one ?_;intro W6 e6 b6 s6 o6))
   have K6:∀ k,k < w5.heap.size -> W6.heap[k]? = w5.heap[k]?:=fun k hk=>(o6 k (by omega)).trans (by first | exact heap_alloc_old w5 _ hk | exact heap_alloc_old w5 _ _ hk)
   have s5:=b5'.size
   have g4:=blk_lt n4
   have e4:W6.heap[w.heap.size]? = some (.cells (zRow ta) 26):=(K6 _ (by omega)).trans (kept b5' HE.out.1)
   have n6:W6.heap[w.heap.size + 2]? = some (.cells #[.int .i64 0,.slice none 0 0,.slice none 0 0,.slice none 0 0,.slice none 0 0,.bool false] 26):=(K6 _ (by omega)).trans (kept b5' n4)
   obtain ⟨c0,c1,c2,c3,c4,c5⟩:=cells6 (show W6.heap[w.heap.size]? = some (.cells (zRow ta) 26) from e4)
   have HK:Hid ((∀ k,k < w5.heap.size -> W6.heap[k]? = w5.heap[k]?) /\ w.heap.size <= V4.heap.size /\ w.heap.size + 2 < w5.heap.size):=⟨K6,q4.size,by omega⟩
   have HP5:Hid (SuPost ta tb ta.rn V4.heap.size w5 c ok):=hp
   have hsz:=hp.sz
   have hone:=hp.one
   clear c1 c2 c3 c4 c5 K6 hp o6 s6 b5' a0 a5 b0 b5 HSU
   cases ok with
   | false=>
    go_wp2_with (first
     | (go_at_call 18;refine Calls.mono (badZ_any ta.N W6) ?_;rintro e w7 ⟨rfl,b7⟩)
     | (refine wpList_store_row (by rfl) 26 _ _ (by rfl) w w.heap.size (w.heap.size + 2) #[.int .i64 ta.N,.slice none 0 0,.slice none 0 0,.slice none 0 0,.slice none 0 0,.bool true] _ (by rfl) (by rfl) (kept b7 n6) (to_call b6 b7) (by omega) 6 Tryz.infoZq (by rfl) (by rfl) (oneZ _ _ _ _ _ rfl rfl rfl rfl _) ?_;intro W9 e9 b9 s9 o9))
    refine bodyPost_ret (res_oneJ _ 4 26 (by kernel_rfl) _ _ (w.heap.size + 2) #[.int .i64 ta.N,.slice none 0 0,.slice none 0 0,.slice none 0 0,.slice none 0 0,.bool true] (by rfl) _ Tryz.underlying26 rfl 6 Tryz.infoZq rfl e9) rfl ?_
    exact ⟨⟨_,rfl,⟨fun e=>absurd HQ.out e,fun _ h=>absurd h (by rw [HB.out,HB2.out];simp),fun _ _ _=>⟨HG.out.1,HG.out.2.1,HG.out.2.2,.inl ⟨rfl,HP5.out.no rfl⟩⟩⟩⟩,b9⟩
   | true=>
    go_wp2_with (first
     | (refine wpList_load_row (by rfl) 26 _ (by rfl) w5.heap.size _ (by rfl) e6 _ Tryz.underlying26 rfl 6 Tryz.infoZq hsz ?_)
     | (refine wpList_store_row (by rfl) 26 _ _ (by rfl) w w.heap.size (w.heap.size + 2) c _ (by rfl) (by rfl) n6 b6 (by omega) 6 Tryz.infoZq hsz rfl hone ?_;intro W9 e9 b9 s9 o9))
    refine bodyPost_ret (res_oneJ _ 4 26 (by kernel_rfl) _ _ (w.heap.size + 2) c (by rfl) _ Tryz.underlying26 rfl 6 Tryz.infoZq hsz e9) rfl ?_
    refine ⟨⟨_,rfl,⟨fun e=>absurd HQ.out e,fun _ h=>absurd h (by rw [HB.out,HB2.out];simp),fun _ _ _=>⟨HG.out.1,HG.out.2.1,HG.out.2.2,.inr (HP5.out.mono HK.out.2.1 fun k cur t ht hc=>(o9 k ?_).trans (HK.out.1 k (blk_lt hc)))⟩⟩⟩,b9⟩
    rintro rfl
    have h1:=HK.out.1 _ HK.out.2.2
    rw [n6] at h1
    rw [<- h1] at hc
    cases hc
    exact ht rfl
end Go.Proofs.YtmdjoaipkbnelaaGreat
