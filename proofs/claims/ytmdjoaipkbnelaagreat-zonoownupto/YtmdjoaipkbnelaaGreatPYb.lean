import Derived.Test.YtmdjoaipkbnelaaGreatPWf
set_option maxRecDepth 100000
set_option maxHeartbeats 1500000
set_option linter.unusedVariables false
set_option linter.unusedSimpArgs false
namespace Go.Proofs.YtmdjoaipkbnelaaGreat
open Go.RowKit Go.Shelf
open Ieee
attribute [local go_sem] Oper.semAt_some
attribute [local go_sem] Oper.semAt_some
attribute [local go_sem] Oper.semAt_some
attribute [local go_sem] Oper.semAt_some
def sumA {α:Type} (A:α -> Nat):List α -> Nat
 | []=>0
 | k :: ks=>A k + sumA A ks
theorem sumA_le {α:Type} {A:α -> Nat} {M:Nat}:∀ (l:List α),(∀ k ∈ l,A k <= M) -> sumA A l <= l.length * M
 | [],_=>Nat.zero_le _
 | k :: ks,h=>by
  have h1:=sumA_le ks fun j hj=>h j (List.mem_cons_of_mem _ hj)
  have h2:=h k List.mem_cons_self
  rw [sumA,List.length_cons,Nat.succ_mul]
  omega
theorem farC_sum {a E len j:Nat} {z:ZD} {A:_root_.Fin z.dn -> Nat} (ha:a = 1166) (hE:E = 2140) (hj:j < len) :
  ∀ (pre:List (_root_.Fin z.dn)) (os:Nat -> Option Int) (x:Int),os j = some (x * ((2 ^ a:Nat):Int)) -> (∀ k ∈ pre,Fin ((z.gs[k.val]?.getD [])[j]?.getD 0) /\ rmag (frung ((z.gs[k.val]?.getD [])[j]?.getD 0)) = A k) -> x.natAbs + sumA A pre < 2 ^ E →
   farC z len os pre j = some ((x + (sumA A pre:Nat)) * ((2 ^ a:Nat):Int))
 | [],os,x,ho,_,_=>by simp [farC,sumA,ho]
 | k :: ks,os,x,ho,h,hb=>by
  obtain ⟨hf,hA⟩:=h k List.mem_cons_self
  rw [sumA] at hb
  have hst:farC z len os (k :: ks) = farC z len (addJ (z.gs[k.val]?.getD []) os len) ks:=rfl
  have hn:addJ (z.gs[k.val]?.getD []) os len j = some ((x + (A k:Nat)) * ((2 ^ a:Nat):Int)):=by
   unfold addJ
   rw [if_pos hj,ho]
   exact prodO_step ha hE (fin_frung hf) (by decide) (by rw [prodZ_oneJ ha,fval_frung,hA]) (by omega)
  rw [hst,farC_sum ha hE hj ks _ (x + (A k:Nat)) hn (fun j hj=>h j (List.mem_cons_of_mem _ hj)) (by omega),sumA,Int.natCast_add,Int.add_assoc]
def clA (z:ZD) (i:Nat) (k:_root_.Fin z.dn):Nat:=rmag (frung ((z.gs[k.val]?.getD [])[i]?.getD 0))
def reA (z:ZD) (i:Nat):Int:=fval (z.rs[i]?.getD 0) + (sumA (clA z i) (List.finRange z.dn):Nat)
theorem sum_bound {z:ZD} (h:FnZ z) (i:Nat) {F:Nat} (hF:F = 2098):sumA (clA z i) (List.finRange z.dn) <= 1050000 * 2 ^ F:=by
 have h1:=sumA_le (A:=clA z i) (M:=2 ^ F) (List.finRange z.dn) fun k _=>Nat.le_of_lt (fval_ltJ (h.g k.val i) hF)
 rw [List.length_finRange] at h1
 exact Nat.le_trans h1 (Nat.mul_le_mul_right _ h.few)
theorem great_bound {F E:Nat} (hF:F = 2098) (hE:E = 2140):2097152 * 2 ^ F <= 2 ^ E:=by
 rw [show (2097152:Nat) = 2 ^ 21 by decide,<- Nat.pow_add]
 exact Nat.pow_le_pow_right (by omega) (by omega)
theorem farZ_is {a i:Nat} {z:ZD} (ha:a = 1166) (h:FnZ z) (hi:i < z.rn):farZ z i = some (reA z i * ((2 ^ a:Nat):Int)):=by
 obtain ⟨F,hF⟩:∃ F:Nat,F = 2098:=⟨_,rfl⟩
 obtain ⟨E,hE⟩:∃ E:Nat,E = 2140:=⟨_,rfl⟩
 have hs:=sum_bound h i hF
 have hg:=great_bound hF hE
 have hr:=fval_ltJ (h.r i) hF
 rw [<- fval_absJ] at hr
 unfold farZ reA
 refine farC_sum ha hE hi _ _ _ ?_ (fun k _=>⟨h.g k.val i,rfl⟩) (by generalize 2 ^ F = X at *;generalize 2 ^ E = Y at *;omega)
 unfold accB
 have:=prodO_step (x:=0) ha hE (h.r i) (by decide) (prodZ_oneJ ha _) (by rw [Int.zero_add];generalize 2 ^ F = X at *;generalize 2 ^ E = Y at *;omega)
 rw [Int.zero_mul,Int.zero_add] at this
 exact this
theorem tk_bad {z:ZD} (h:(!z.bad && wholeB z) = false):(tkZ z).bad = true:=by
 unfold tkZ checkB
 cases hb:z.bad with
 | true=>
  simp only [if_true]
  split
  ·exact hb
  ·rfl
 | false=>
  rw [hb] at h
  have hw:wholeB z = false:=by simpa using h
  simp only [Bool.false_eq_true,if_false,hw]
  rfl
theorem madeN_le (rs:List Nat):madeN rs <= rs.length:=List.countP_le_length
theorem bounds_no (z:ZD) (w:World) (hz:ZR w z) (hb:(tkZ z).bad = true) :
  Calls Tryz.prog 9 #[.agg #[.int .i64 z.N,.slice z.co z.cn z.cc,.slice z.io z.dn z.dc,.slice z.go z.gn z.gc,.slice z.ro z.rn z.rc,.bool z.bad]] w fun e w'=>e = .returned (.slice none 0 0) /\ Below w.heap.size w w':=by
 have X0:Below w.heap.size w (w.alloc (.cells #[.int .i64 z.N,.slice z.co z.cn z.cc,.slice z.io z.dn z.dc,.slice z.go z.gn z.gc,.slice z.ro z.rn z.rc,.bool z.bad] 26)):=(Below.refl _ w).alloc (Nat.le_refl _) _
 have HT:=takenZ_any z _ (hz.later X0)
 obtain ⟨a1,hea⟩:∃ a1,tkZ z = a1:=⟨_,rfl⟩
 rw [hea] at HT hb
 clear hz hea
 obtain ⟨N1,co1,cn1,cc1,io1,dn1,dc1,go1,gn1,gc1,ro1,rn1,rc1,bad1,cs1,ids1,gv1,gs1,rs1⟩:=a1
 dsimp only at hb
 subst hb
 unfold zRow at HT
 dsimp only at HT
 have HT':Hid _:=HT
 clear HT
 go_enter Tryz.func9,Tryz.ntmps9
 go_upto_region 2 with (first
  | (go_at_call 16;refine Calls.mono HT'.out ?_;rintro e w1 ⟨rfl,hb1⟩)
  | (refine wpList_store_row (by rfl) 26 _ _ (by rfl) w w.heap.size w.heap.size _ _ (by rfl) (by rfl) (kept hb1 (heap_alloc_new w _)) (to_call X0 hb1) (Nat.le_refl _) 6 Tryz.infoZ (by rfl) (by rfl) (oneZ _ _ _ _ _ rfl rfl rfl rfl _) ?_;intro W2 e2 b2 s2 o2))
 obtain ⟨c0,c1,c2,c3,c4,c5⟩:=cells6 e2
 clear hb1 X0 HT' s2 o2
 go_wp2_with fail
 go_ret
 exact ⟨rfl,b2⟩
theorem lift_bad (z:ZD) (next:Int) (w:World) (hz:ZR w z) (hb:(tkZ z).bad = true) :
  Calls Tryz.prog 5 #[.agg #[.int .i64 z.N,.slice z.co z.cn z.cc,.slice z.io z.dn z.dc,.slice z.go z.gn z.gc,.slice z.ro z.rn z.rc,.bool z.bad],.int .i64 next] w fun e w'=>e = .returned (.tuple #[.agg #[.int .i64 (tkZ z).N,.slice none 0 0,.slice none 0 0,.slice none 0 0,.slice none 0 0,.bool true],.int .i64 next]) /\ Below w.heap.size w w':=by
 have X0:Below w.heap.size w ((w.alloc (.cells #[.int .i64 z.N,.slice z.co z.cn z.cc,.slice z.io z.dn z.dc,.slice z.go z.gn z.gc,.slice z.ro z.rn z.rc,.bool z.bad] 26)).alloc (.cells #[.int .i64 0,.slice none 0 0,.slice none 0 0,.slice none 0 0,.slice none 0 0,.bool false] 26)):=((Below.refl _ w).alloc (Nat.le_refl _) _).alloc (by simp only [alloc_size];omega) _
 have Y0:((w.alloc (.cells #[.int .i64 z.N,.slice z.co z.cn z.cc,.slice z.io z.dn z.dc,.slice z.go z.gn z.gc,.slice z.ro z.rn z.rc,.bool z.bad] 26)).alloc (.cells #[.int .i64 0,.slice none 0 0,.slice none 0 0,.slice none 0 0,.slice none 0 0,.bool false] 26)).heap[w.heap.size]? = _:=alloc_kept (heap_alloc_new w _) _
 have Y1:((w.alloc (.cells #[.int .i64 z.N,.slice z.co z.cn z.cc,.slice z.io z.dn z.dc,.slice z.go z.gn z.gc,.slice z.ro z.rn z.rc,.bool z.bad] 26)).alloc (.cells #[.int .i64 0,.slice none 0 0,.slice none 0 0,.slice none 0 0,.slice none 0 0,.bool false] 26)).heap[w.heap.size + 1]? = _:=heap_at _ _ (w.heap.size + 1) (by simp only [alloc_size])
 have HT:=takenZ_any z _ (hz.later X0)
 obtain ⟨a1,hea⟩:∃ a1,tkZ z = a1:=⟨_,rfl⟩
 rw [hea] at HT hb ⊢
 clear hz hea
 obtain ⟨N1,co1,cn1,cc1,io1,dn1,dc1,go1,gn1,gc1,ro1,rn1,rc1,bad1,cs1,ids1,gv1,gs1,rs1⟩:=a1
 dsimp only at hb ⊢
 subst hb
 unfold zRow at HT
 dsimp only at HT
 have HT':Hid _:=HT
 clear HT
 go_enter Tryz.func5,Tryz.ntmps5
 go_upto_region 2 with (first
  | (go_at_call 16;refine Calls.mono HT'.out ?_;rintro e w1 ⟨rfl,hb1⟩)
  | (refine wpList_store_row (by rfl) 26 _ _ (by rfl) w w.heap.size w.heap.size _ _ (by rfl) (by rfl) (kept hb1 Y0) (to_call X0 hb1) (Nat.le_refl _) 6 Tryz.infoZ (by rfl) (by rfl) (oneZ _ _ _ _ _ rfl rfl rfl rfl _) ?_;intro W2 e2 b2 s2 o2))
 obtain ⟨c0,c1,c2,c3,c4,c5⟩:=cells6 e2
 have e2':=(o2 (w.heap.size + 1) (by omega)).trans (kept hb1 Y1)
 have HK:Hid (Below w.heap.size w W2 /\ _ /\ _):=⟨b2,e2,e2'⟩
 clear hb1 X0 Y0 Y1 HT' s2 o2 e2 e2' b2
 go_wp2_with (first
  | (go_at_call 18;refine Calls.mono (badZ_any N1 _) ?_;rintro e w3 ⟨rfl,hb3⟩)
  | (refine wpList_store_row (by rfl) 26 _ _ (by rfl) w w.heap.size (w.heap.size + 1) _ _ (by rfl) (by rfl) (kept hb3 HK.out.2.2) (to_call HK.out.1 hb3) (Nat.le_succ _) 6 Tryz.infoZ (by rfl) (by rfl) (oneZ _ _ _ _ _ rfl rfl rfl rfl _) ?_;intro W9 e9 b9 s9 o9))
 exact bodyPost_ret (res_ctJ _ 4 5 26 (by kernel_rfl) _ _ (w.heap.size + 1) _ _ (by rfl) (by rfl) _ Tryz.underlying26 rfl 6 Tryz.infoZ rfl e9) rfl ⟨rfl,b9⟩
theorem lift_no (z:ZD) (next:Int) (w:World) (hz:ZR w z) (hb:(tkZ z).bad = false) (hnx:-9223372036854775808 <= next /\ next < 9223372036854775808) (hrn:(tkZ z).rn <= 1000000) (hdn:(tkZ z).dn <= 1000000000) (hm:mayB (tkZ z) next = false) :
  Calls Tryz.prog 5 #[.agg #[.int .i64 z.N,.slice z.co z.cn z.cc,.slice z.io z.dn z.dc,.slice z.go z.gn z.gc,.slice z.ro z.rn z.rc,.bool z.bad],.int .i64 next] w fun e w'=>e = .returned (.tuple #[.agg #[.int .i64 (tkZ z).N,.slice none 0 0,.slice none 0 0,.slice none 0 0,.slice none 0 0,.bool true],.int .i64 next]) /\ Below w.heap.size w w':=by
 have X0:Below w.heap.size w ((w.alloc (.cells #[.int .i64 z.N,.slice z.co z.cn z.cc,.slice z.io z.dn z.dc,.slice z.go z.gn z.gc,.slice z.ro z.rn z.rc,.bool z.bad] 26)).alloc (.cells #[.int .i64 0,.slice none 0 0,.slice none 0 0,.slice none 0 0,.slice none 0 0,.bool false] 26)):=((Below.refl _ w).alloc (Nat.le_refl _) _).alloc (by simp only [alloc_size];omega) _
 have Y0:((w.alloc (.cells #[.int .i64 z.N,.slice z.co z.cn z.cc,.slice z.io z.dn z.dc,.slice z.go z.gn z.gc,.slice z.ro z.rn z.rc,.bool z.bad] 26)).alloc (.cells #[.int .i64 0,.slice none 0 0,.slice none 0 0,.slice none 0 0,.slice none 0 0,.bool false] 26)).heap[w.heap.size]? = _:=alloc_kept (heap_alloc_new w _) _
 have Y1:((w.alloc (.cells #[.int .i64 z.N,.slice z.co z.cn z.cc,.slice z.io z.dn z.dc,.slice z.go z.gn z.gc,.slice z.ro z.rn z.rc,.bool z.bad] 26)).alloc (.cells #[.int .i64 0,.slice none 0 0,.slice none 0 0,.slice none 0 0,.slice none 0 0,.bool false] 26)).heap[w.heap.size + 1]? = _:=heap_at _ _ (w.heap.size + 1) (by simp only [alloc_size])
 have HT:=takenZ_any z _ (hz.later X0)
 have HM:∀ W',Below w.heap.size w W' -> _:=fun W' h=>mayNumber_any (tkZ z) next hnx W' ((tkZ_ZR hz).later h) (tkZ_fin hz).r hrn hdn
 rw [hm] at HM
 clear hnx hrn hdn hm
 obtain ⟨a1,hea⟩:∃ a1,tkZ z = a1:=⟨_,rfl⟩
 rw [hea] at HT HM hb ⊢
 clear hz hea
 obtain ⟨N1,co1,cn1,cc1,io1,dn1,dc1,go1,gn1,gc1,ro1,rn1,rc1,bad1,cs1,ids1,gv1,gs1,rs1⟩:=a1
 dsimp only at hb HM ⊢
 subst hb
 unfold zRow at HT
 dsimp only at HT
 have HT':Hid _:=HT
 have HM':Hid _:=HM
 clear HT HM
 go_enter Tryz.func5,Tryz.ntmps5
 go_upto_region 2 with (first
  | (go_at_call 16;refine Calls.mono HT'.out ?_;rintro e w1 ⟨rfl,hb1⟩)
  | (refine wpList_store_row (by rfl) 26 _ _ (by rfl) w w.heap.size w.heap.size _ _ (by rfl) (by rfl) (kept hb1 Y0) (to_call X0 hb1) (Nat.le_refl _) 6 Tryz.infoZ (by rfl) (by rfl) (oneZ _ _ _ _ _ rfl rfl rfl rfl _) ?_;intro W2 e2 b2 s2 o2))
 obtain ⟨c0,c1,c2,c3,c4,c5⟩:=cells6 e2
 have e2':=(o2 (w.heap.size + 1) (by omega)).trans (kept hb1 Y1)
 have HK:Hid (Below w.heap.size w W2 /\ _ /\ _):=⟨b2,e2,e2'⟩
 clear hb1 X0 Y0 Y1 HT' s2 o2 e2 e2' b2
 go_wp2_with (first
  | (refine wpList_load_rowG (by rfl) 26 _ (by rfl) w.heap.size _ (by rfl) HK.out.2.1 _ Tryz.underlying26 rfl 6 Tryz.infoZ (by rfl) ?_)
  | (go_at_call 17;refine Calls.mono (HM'.out _ HK.out.1) ?_;rintro e w4 ⟨rfl,hb4⟩;obtain ⟨k0,k1,k2,k3,k4,k5⟩:=cells6 (kept hb4 HK.out.2.1))
  | (go_at_call 18;refine Calls.mono (badZ_any N1 _) ?_;rintro e w3 ⟨rfl,hb3⟩)
  | (refine wpList_store_row (by rfl) 26 _ _ (by rfl) w w.heap.size (w.heap.size + 1) _ _ (by rfl) (by rfl) (kept hb3 (kept hb4 HK.out.2.2)) (to_call (to_call HK.out.1 hb4) hb3) (Nat.le_succ _) 6 Tryz.infoZ (by rfl) (by rfl) (oneZ _ _ _ _ _ rfl rfl rfl rfl _) ?_;intro W9 e9 b9 s9 o9))
 exact bodyPost_ret (res_ctJ _ 4 5 26 (by kernel_rfl) _ _ (w.heap.size + 1) _ _ (by rfl) (by rfl) _ Tryz.underlying26 rfl 6 Tryz.infoZ rfl e9) rfl ⟨rfl,b9⟩
attribute [local go_sem] Oper.semAt_some
theorem zrL_all (rs:List Nat) (n:Nat) (h:rs.length = n):zrL rs n = rs.map (fun r=>if 0 < srung r then 0 else r):=by unfold zrL;rw [List.take_of_length_le (by omega),List.drop_eq_nil_of_le (by omega),List.append_nil]
theorem getD_plain (us:List Nat) (j:Nat):(us.map plainM)[j]?.getD 0 = plainM (us[j]?.getD 0):=by
 rw [List.getElem?_map]
 cases us[j]? with
 | none=>decide
 | some x=>rfl
theorem rmag_pos {r:Nat} (h:0 < r):0 < rmag r:=by
 unfold rmag
 split
 ·exact h
 ·exact Nat.mul_pos (by omega) (Nat.two_pow_pos _)
theorem fval_pos_iff (u:Nat):0 < fval u ↔ 0 < srung u:=by
 unfold fval srung
 by_cases h:frung u = 0
 ·rw [h,rmag_zeroJ]
 ·have:=rmag_pos (Nat.pos_of_ne_zero h)
  split <;> omega
theorem fval_zero_iff (u:Nat):fval u = 0 ↔ srung u = 0:=by
 unfold fval srung
 by_cases h:frung u = 0
 ·rw [h,rmag_zeroJ]
 ·have:=rmag_pos (Nat.pos_of_ne_zero h)
  split <;> omega
theorem zrL_none {rs:List Nat} {n:Nat} (hl:rs.length = n) (hp:∀ j:Nat,0 <= fval (rs[j]?.getD 0)) (j:Nat):srung ((zrL rs n)[j]?.getD 0) = 0:=by
 rw [zrL_all rs n hl,List.getElem?_map]
 have h:=hp j
 cases hj:rs[j]? with
 | none=>decide
 | some r=>
  rw [hj] at h
  simp only [Option.map_some,Option.getD_some] at *
  split
  ·decide
  ·rename_i hr
   have h2:=mt (fval_pos_iff _).1 hr
   exact (fval_zero_iff _).1 (by omega)
theorem lfS_count (n:Nat) (rs:List Nat) (next:Int):∀ k,k <= rs.length -> (lfS n rs next k).1.length = madeN (rs.take k)
 | 0,_=>by simp [lfS,madeN]
 | k + 1,h=>by
  have ih:=lfS_count n rs next k (by omega)
  rw [madeN_take (by omega)]
  unfold lfS
  split
  ·dsimp only
   rw [List.length_append,ih];rfl
  ·rw [ih];omega
theorem lfS_id (n:Nat) (rs:List Nat) (next:Int):∀ k,k <= rs.length -> ∀ j:Nat,j < (lfS n rs next k).1.length -> (lfS n rs next k).1[j]?.getD 0 = next + (j:Int)
 | 0,_,j,hj=>by simp [lfS] at hj
 | k + 1,h,j,hj=>by
  have ih:=lfS_id n rs next k (by omega) j
  have hc:=lfS_count n rs next k (by omega)
  have hx:=lfS_next n rs next k (by omega)
  unfold lfS at hj ⊢
  split at hj
  ·rename_i hp
   rw [if_pos hp]
   dsimp only at hj ⊢
   by_cases e:j < (lfS n rs next k).1.length
   ·rw [List.getElem?_append_left e];exact ih e
   ·rw [List.length_append,List.length_singleton] at hj
    have ej:j = (lfS n rs next k).1.length:=by omega
    rw [List.getElem?_append_right (by omega),ej,Nat.sub_self,hx,hc];rfl
  ·rename_i hp
   rw [if_neg hp]
   exact ih hj
theorem lfS_col (n:Nat) (rs:List Nat) (next:Int):∀ k,∀ g ∈ (lfS n rs next k).2.1,∃ i:Nat,g = unitL n i (rs[i]?.getD 0)
 | 0,g,hg=>by simp [lfS] at hg
 | k + 1,g,hg=>by
  have ih:=lfS_col n rs next k g
  unfold lfS at hg
  split at hg
  ·dsimp only at hg
   rcases List.mem_append.1 hg with h | h
   ·exact ih h
   ·exact ⟨k,List.mem_singleton.1 h⟩
  ·exact ih hg
theorem unitL_fin {n i r:Nat} (hr:Fin r):∀ u ∈ unitL n i r,Fin u:=fun u hu=>by
 rcases List.mem_or_eq_of_mem_set hu with h | h
 ·rw [List.eq_of_mem_replicate h];exact fin_zeroJ
 ·rw [h];exact hr
theorem numN_of {us:List Nat} {N:Int} (hl:(us.length:Int) = N) (hf:∀ u ∈ us,Fin u):numN us N = true:=by
 unfold numN
 rw [decide_eq_true hl,numsB_fin hf];rfl
theorem numN_plainM {us:List Nat} {N:Int} (h:numN us N = true):numN (us.map plainM) N = true:=by
 obtain ⟨h1,h2⟩:=numN_fin h
 refine numN_of (by rw [List.length_map];exact h1) fun u hu=>?_
 obtain ⟨v,hv,rfl⟩:=List.mem_map.1 hu
 exact fin_plainM (h2 v hv)
theorem getD_map_plain (gs:List (List Nat)) (j:Nat):(gs.map (·.map plainM))[j]?.getD [] = (gs[j]?.getD []).map plainM:=by
 rw [List.getElem?_map]
 cases gs[j]? with
 | none=>rfl
 | some x=>rfl
structure LfR (z:ZD) (next:Int) (y:ZD):Prop where
 N:y.N = z.N
 bad:y.bad = false
 cs:y.cs = z.cs.map plainM
 rs:y.rs = zrL (z.rs.map plainM) z.rn
 ids:y.ids = z.ids ++ (lfS z.rn (z.rs.map plainM) next z.rn).1
 gs:y.gs = z.gs.map (·.map plainM) ++ (lfS z.rn (z.rs.map plainM) next z.rn).2.1
 cn:y.cn = z.rn
 rn:y.rn = z.rn
 dn:y.dn = y.ids.length
 gn:y.gn = y.gs.length
theorem LfR.count {z y:ZD} {next:Int} (h:LfR z next y) (hr:z.rs.length = z.rn) (hi:z.ids.length = z.dn):y.dn = z.dn + madeN z.rs /\ (lfS z.rn (z.rs.map plainM) next z.rn).2.2 = next + (madeN z.rs:Nat):=by
 have e1:(z.rs.map plainM).length = z.rn:=by rw [List.length_map];exact hr
 have h1:=lfS_count z.rn (z.rs.map plainM) next z.rn (by omega)
 have h2:=lfS_next z.rn (z.rs.map plainM) next z.rn (by omega)
 rw [List.take_of_length_le (by omega),madeN_plain] at h1 h2
 exact ⟨by rw [h.dn,h.ids,List.length_append,h1,hi],h2⟩
theorem LfR.whole {z y:ZD} {next:Int} (h:LfR z next y) (hw:wholeB z = true) (hz:WhF z) (hi:z.ids.length = z.dn) (hg:z.gs.length = z.gn) (hm:mayB z next = true):wholeB y = true:=by
 obtain ⟨a1,a2,a3,a4,a5,a6,a7⟩:=(wholeB_iff z).1 hw
 obtain ⟨c1,c2⟩:=h.count hz.rl hi
 have e1:(z.rs.map plainM).length = z.rn:=by rw [List.length_map];exact hz.rl
 have hp':∀ j:Nat,0 <= fval ((z.rs.map plainM)[j]?.getD 0):=fun j=>by rw [getD_plain,fval_plainM];exact hz.pos j
 have hcnt:=lfS_count z.rn (z.rs.map plainM) next z.rn (by omega)
 rw [List.take_of_length_le (by omega),madeN_plain] at hcnt
 have hlen:=(lfS_len z.rn (z.rs.map plainM) next z.rn).2
 unfold mayB lastB at hm
 simp only [Bool.and_eq_true,Bool.or_eq_true,Bool.not_eq_true',Bool.or_eq_false_iff,decide_eq_false_iff_not,decide_eq_true_eq,Bool.and_eq_false_iff] at hm
 obtain ⟨⟨m1,m2⟩,m3⟩:=hm
 refine (wholeB_iff y).2 ⟨by rw [h.N];exact a1,by rw [h.N];exact a2,by rw [h.N,h.cs];exact numN_plainM a3,?_,?_,?_,?_⟩
 ·refine numN_of ?_ ?_
  ·rw [h.rs,h.N,zrL_len _ _ (by omega),List.length_map,hz.rl,hz.N]
  ·intro u hu
   rw [h.rs,zrL_all _ _ e1] at hu
   obtain ⟨r,hr,rfl⟩:=List.mem_map.1 hu
   split
   ·exact fin_zeroJ
   ·exact (numN_fin (numN_plainM a4)).2 r hr
 ·rw [h.dn,h.gn,h.ids,h.gs,List.length_append,List.length_append,List.length_map,hlen,hi,hg,a5]
 ·unfold posB
  rw [List.all_eq_true]
  intro u hu
  rw [h.rs] at hu
  obtain ⟨j,hj⟩:=List.getElem?_of_mem hu
  have:=zrL_none e1 hp' j
  rw [hj,Option.getD_some] at this
  simp [this]
 ·intro j hj
  rw [c1] at hj
  by_cases hjd:j < z.dn
  ·have q:=a7 j hjd
   have ei:y.ids[j]?.getD 0 = z.ids[j]?.getD 0:=by rw [h.ids,List.getElem?_append_left (by omega)]
   have eg:y.gs[j]?.getD [] = (z.gs[j]?.getD []).map plainM:=by rw [h.gs,List.getElem?_append_left (by rw [List.length_map];omega),getD_map_plain]
   rw [ei,eg,h.N]
   refine ⟨?_,q.2.1,numN_plainM q.2.2⟩
   by_cases e0:j = 0
   ·have:=q.1
    rw [if_pos e0] at this ⊢
    exact this
   ·have:=q.1
    rw [if_neg e0] at this ⊢
    rw [h.ids,List.getElem?_append_left (by omega)]
    exact this
  ·have ei:y.ids[j]?.getD 0 = next + ((j - z.dn:Nat):Int):=by
    rw [h.ids,List.getElem?_append_right (by omega),hi]
    exact lfS_id _ _ _ _ (by omega) _ (by omega)
   have eg:numN (y.gs[j]?.getD []) y.N = true:=by
    have hl:j - z.gn < (lfS z.rn (z.rs.map plainM) next z.rn).2.1.length:=by rw [hlen,hcnt];omega
    rw [h.gs,List.getElem?_append_right (by rw [List.length_map];omega),List.length_map,hg,List.getElem?_eq_getElem hl,Option.getD_some]
    obtain ⟨i,hi'⟩:=lfS_col z.rn (z.rs.map plainM) next z.rn _ (List.getElem_mem hl)
    rw [hi']
    refine numN_of ?_ (unitL_fin ?_)
    ·unfold unitL
     rw [List.length_set,List.length_replicate,h.N,hz.N]
    ·rw [getD_plain];exact fin_plainM (hz.fin.r i)
   refine ⟨?_,?_,eg⟩
   ·rw [ei]
    by_cases e0:j = 0
    ·rw [if_pos e0];omega
    ·rw [if_neg e0]
     by_cases e1':j = z.dn
     ·rw [h.ids,List.getElem?_append_left (by omega),e1']
      rcases m2 with m2 | m2
      ·omega
      ·omega
     ·rw [h.ids,List.getElem?_append_right (by omega),hi,lfS_id _ _ _ _ (by omega) _ (by omega)]
      omega
   ·rw [ei]
    omega
theorem owns_none {w:World} {E:TypeId} {base:Nat} {n m c:Nat} {o:Option Addr} {xs:List Value} (h:w.ownsRow base E 1 (.slice o m c) n xs) (ho:o = none):m = 0 /\ c = 0:=by
 subst ho
 rcases h.2 with ⟨h1,_⟩ | ⟨g,cap,cur,h1,_⟩
 ·injection h1 with _ h2 h3
  exact ⟨h2,h3⟩
 ·cases h1
theorem FrL.zrW {w:World} {base n bc br:Nat} {cs rs:List Nat} {ids:List Int} {gs:List (List Nat)} {vi vg:Value} {gl:List Nat} (h:FrL w base n bc br cs rs ids gs vi vg gl) (N:Int) (bad:Bool) (hn:n <= 100000) (hi:ids.length <= 1050000) (hg:gs.length <= 1050000) :
  ∃ y:ZD,(.agg #[.int .i64 N,slN n bc,vi,vg,slN n br,.bool bad]:Value) = .agg (zRow y) /\ ZR w y /\ ZW y /\ y.N = N /\ y.bad = bad /\ y.cs = cs /\ y.rs = rs /\ y.ids = ids /\ y.gs = gs /\ y.cn = n /\ y.rn = n /\ y.dn = ids.length /\ y.gn = gs.length:=by
 have hI:=h.i
 have hG:=h.g
 obtain ⟨io,dc,rfl,hm1,h1⟩:=owns_slice h.i
 obtain ⟨go,gc,rfl,hm2,h2⟩:=owns_slice h.g
 have e1:(ids.map (Value.int .i64)).length = ids.length:=List.length_map _
 have e2:(gl.map (slN n)).length = gs.length:=(List.length_map _).trans h.col.len
 have hni:=fun ho=>owns_none hI ho
 rw [e1] at hm1 h1 hni
 rw [e2] at hm2 h2
 rw [e1,e2]
 refine ⟨⟨N,some ⟨bc,0,none⟩,n,n,io,ids.length,dc,go,gs.length,gc,some ⟨br,0,none⟩,n,n,bad,cs,ids,fun j=>(some ⟨gl[j]?.getD 0,0,none⟩,n,n),gs,rs⟩,rfl,⟨h.c.rd,⟨rfl,hm1,?_⟩,⟨rfl,hm2,?_,fun j hj=>(h.col.row j (by rw [h.col.len];exact hj)).rd⟩,h.r.rd⟩,⟨(fun hc=>by cases hc),hni,(fun hc=>by cases hc),fun k _ hc=>(by cases hc),by dsimp only;omega,hi,hg,by dsimp only;omega,fun k _=>by dsimp only;omega⟩,rfl,rfl,rfl,rfl,rfl,rfl,rfl,rfl,rfl,rfl⟩
 ·rcases h1 with h0 | ⟨g,rfl,hc⟩
  ·exact .inl h0
  ·refine .inr ⟨g,0,rfl,fun j hj=>?_⟩
   dsimp only at hj ⊢
   rw [Nat.zero_add,hc j hj,List.getElem?_map,List.getElem?_eq_getElem hj]
   rfl
 ·rcases h2 with h0 | ⟨g,rfl,hc⟩
  ·exact .inl h0
  ·refine .inr ⟨g,0,rfl,fun j hj=>?_⟩
   dsimp only at hj ⊢
   have hj':j < gl.length:=by rw [h.col.len];exact hj
   rw [Nat.zero_add,hc j hj,List.getElem?_map,List.getElem?_eq_getElem hj']
   rfl
theorem check_whole {z:ZD} (hb:z.bad = false) (h:wholeB z = true):checkB z = true:=by unfold checkB;rw [hb];exact h
theorem makeFJ4 (n:Nat) (hn:n <= 4000000) (w:World) :
  (Instr.makeSlice 22 (.int .i64 (n:Int)) (.int .i64 (n:Int))).run Tryz.prog w = .ok (.slice (some ⟨w.heap.size,0,none⟩) n n) (w.alloc (.cells (flN n) 45)):=by
 obtain ⟨i0,hi,hz0,hz1,hz2⟩:=info3' Tryz.infoFJ2
 have h:=run_makeSlice (P:=Tryz.prog) w 22 45 i0 (.float .f64 0) Tryz.underlying22 hi hz0 .i64 .i64 (n:Int) (n:Int) (by omega) (by omega) (by rw [hz1,Int.toNat_natCast];omega) (by rw [hz2];omega) (by omega)
 rw [Int.toNat_natCast,hz1,Nat.mul_one] at h
 exact h
theorem fresh_bad (z:ZD) (w:World) (hb:z.bad = true):Calls Tryz.prog 19 #[.agg (zRow z)] w fun e w'=>e = .returned (.agg #[.int .i64 z.N,.slice none 0 0,.slice none 0 0,.slice none 0 0,.slice none 0 0,.bool true]) /\ Below w.heap.size w w':=by
 obtain ⟨N,co,cn,cc,io,dn,dc,go,gn,gc,ro,rn,rc,bad,cs,ids,gv,gs,rs⟩:=z
 dsimp only at hb
 subst hb
 unfold zRow
 dsimp only
 have X0:Below w.heap.size w ((w.alloc (.cells #[.int .i64 N,.slice co cn cc,.slice io dn dc,.slice go gn gc,.slice ro rn rc,.bool true] 26)).alloc (.cells #[.int .i64 0,.slice none 0 0,.slice none 0 0,.slice none 0 0,.slice none 0 0,.bool false] 26)):=((Below.refl _ w).alloc (Nat.le_refl _) _).alloc (by simp only [alloc_size];omega) _
 have Y1:((w.alloc (.cells #[.int .i64 N,.slice co cn cc,.slice io dn dc,.slice go gn gc,.slice ro rn rc,.bool true] 26)).alloc (.cells #[.int .i64 0,.slice none 0 0,.slice none 0 0,.slice none 0 0,.slice none 0 0,.bool false] 26)).heap[w.heap.size + 1]? = _:=heap_at _ _ (w.heap.size + 1) (by simp only [alloc_size])
 have HK:Hid _:=And.intro X0 Y1
 clear X0 Y1
 go_enter Tryz.func19,Tryz.ntmps19
 go_wp2_with (first
  | (go_at_call 18;refine Calls.mono (badZ_any N _) ?_;rintro e w3 ⟨rfl,hb3⟩)
  | (refine wpList_store_row (by rfl) 26 _ _ (by rfl) w w.heap.size (w.heap.size + 1) _ _ (by rfl) (by rfl) (kept hb3 HK.out.2) (to_call HK.out.1 hb3) (Nat.le_succ _) 6 Tryz.infoZ (by rfl) (by rfl) (oneZ _ _ _ _ _ rfl rfl rfl rfl _) ?_;intro W9 e9 b9 s9 o9))
 exact bodyPost_ret (res_oneJ _ 2 26 (by kernel_rfl) _ _ (w.heap.size + 1) _ (by rfl) _ Tryz.underlying26 rfl 6 Tryz.infoZ rfl e9) rfl ⟨rfl,b9⟩
def rgI (n:Nat):List Int:=(List.range n).map fun (k:Nat)=>(k:Int)
theorem rgI_len (n:Nat):(rgI n).length = n:=by unfold rgI;simp
theorem rgI_succ (n:Nat):rgI (n + 1) = rgI n ++ [(n:Int)]:=by unfold rgI;rw [List.range_succ,List.map_append];rfl
def nwZ (cs:List Nat) (gs:List (List Nat)):ZD:=⟨(cs.length:Int),none,cs.length,0,none,gs.length,0,none,gs.length,0,none,cs.length,0,false,cs,rgI gs.length,fun _=>(none,0,0),gs,List.replicate cs.length 0⟩
def nwA (cs:List Nat) (gs:List (List Nat)):ZD:=if checkB (nwZ cs gs) then nwZ (cs.map plainM) (gs.map (·.map plainM)) else badZD
theorem plainM_zero:plainM 0 = 0:=by decide
theorem map_rep0 (n:Nat):(List.replicate n 0).map plainM = List.replicate n 0:=by rw [List.map_replicate,plainM_zero]
theorem nwZ_ok {cs:List Nat} {gs:List (List Nat)} (h:checkB (nwZ cs gs) = true):cs.length <= 256 /\ ∀ k,k < gs.length -> (gs[k]?.getD []).length = cs.length:=by
 unfold checkB at h
 simp only [nwZ,Bool.false_eq_true,if_false,wholeB,Bool.and_eq_true,decide_eq_true_eq] at h
 refine ⟨by have h5:(cs.length:Int) <= 256:=of_decide_eq_true h.1.1.1.1.1.2;omega,fun k hk=>?_⟩
 obtain ⟨la,hok⟩:=colsB_mem (nwZ cs gs) _ _ h.2 ⟨k,hk⟩ (List.mem_finRange _)
 unfold colOk at hok
 simp only [Bool.and_eq_true] at hok
 have:=(numN_fin hok.2).1
 dsimp only [nwZ] at this
 omega
theorem rdF_zero4 (n:Nat) (w:World) (hn:n <= 4000000):OwB (w.alloc (.cells (flN n) 45)) w.heap.size n w.heap.size (List.replicate n 0):=
 ⟨Nat.le_refl _,⟨_,heap_alloc_new w _⟩,⟨by simp,by simp only [maxLen];omega,fun u hu=>by rw [(List.mem_replicate.1 hu).2];decide,.inr ⟨_,0,rfl,fun j hj=>by rw [Nat.zero_add,List.getElem?_replicate,if_pos hj];exact cellAtJ (heap_alloc_new w _) j _ (flN_at n j hj)⟩⟩⟩
structure BdR (w:World) (x:ZD) (v:Value):Prop where
 is:((!x.bad && wholeB x) = true /\ ∃ g,v = .slice (some ⟨g,0,none⟩) x.rn x.rn /\ SpL w g x.rn x.rn (fun j r=>AroR (x.cs[j]?.getD 0) (farZ x j) r)) \/ ((!x.bad && wholeB x) = false /\ v = .slice none 0 0)
theorem BdR.later {w w':World} {x:ZD} {v:Value} (h:BdR w x v) (hb:Below w.heap.size w w'):BdR w' x v:=by
 rcases h.is with ⟨h1,g,h2,h3⟩ | h1
 ·obtain ⟨arr,ha,_⟩:=h3.ex
  exact ⟨.inl ⟨h1,g,h2,h3.heap (by rw [kept hb ha,ha])⟩⟩
 ·exact ⟨.inr h1⟩
structure BxR (z y:ZD):Prop where
 is:((!z.bad && wholeB z) = true /\ y.N = z.N /\ y.bad = false /\ y.cs = z.cs.map plainM /\ y.rs.length = z.rn /\ (∀ j,j < z.rn -> RndO 1 (farZ z j) (y.rs[j]?.getD 0) true) /\ y.ids = [] /\ y.gs = [] /\ y.cn = z.rn /\ y.rn = z.rn /\ y.dn = 0 /\ y.gn = 0) \/ (((!z.bad && wholeB z) = false \/ ∃ j u,j < z.rn /\ RndO 1 (farZ z j) u false) /\ y = ⟨(tkZ z).N,none,0,0,none,0,0,none,0,0,none,0,0,true,[],[],fun _=>(none,0,0),[],[]⟩)
attribute [local go_sem] Oper.semAt_some
attribute [local go_sem] Oper.semAt_some
theorem nilz_cells {o:Nat} {v:Value} (h:(#[.int .i64 0,.slice none 0 0,.slice none 0 0,.slice none 0 0,.slice none 0 0,.bool false]:Array Value)[o]? = some v):v = .int .i64 0 \/ v = .slice none 0 0 \/ v = .bool false:=by
 match o,h with
 | 0,h=>simp at h;exact .inl h.symm
 | 1,h=>simp at h;exact .inr (.inl h.symm)
 | 2,h=>simp at h;exact .inr (.inl h.symm)
 | 3,h=>simp at h;exact .inr (.inl h.symm)
 | 4,h=>simp at h;exact .inr (.inl h.symm)
 | 5,h=>simp at h;exact .inr (.inr h.symm)
 | o + 6,h=>simp at h
theorem RdF.store {w W':World} {B:Nat} {t:TypeId} {ao:Option Addr} {len cap:Nat} {us:List Nat} (h:RdF w ao len cap us) (hB:w.heap[B]? = some (.cells #[.int .i64 0,.slice none 0 0,.slice none 0 0,.slice none 0 0,.slice none 0 0,.bool false] t)) (ho:∀ k,k ≠ B -> W'.heap[k]? = w.heap[k]?):RdF W' ao len cap us:=by
 refine ⟨h.length,h.max,h.lt,?_⟩
 rcases h.cells with h0 | ⟨b,off,ha,hc⟩
 ·exact .inl h0
 ·refine .inr ⟨b,off,ha,fun j hj=>?_⟩
  have h1:=hc j hj
  rw [<- h1]
  refine cell_heapJ (ho b ?_) _
  rintro rfl
  rw [cell_of_row _ _ _ _ _ _ hB] at h1
  rcases nilz_cells h1 with h2 | h2 | h2 <;> cases h2
theorem ZR.store {w W':World} {y:ZD} {B:Nat} {t:TypeId} (h:ZR w y) (hB:w.heap[B]? = some (.cells #[.int .i64 0,.slice none 0 0,.slice none 0 0,.slice none 0 0,.slice none 0 0,.bool false] t)) (ho:∀ k,k ≠ B -> W'.heap[k]? = w.heap[k]?) (hi:y.dn = 0 \/ ∀ b off,y.io = some ⟨b,off,none⟩ -> b ≠ B) (hg:∀ j,j < y.gn -> 0 < (y.gv j).2.1):ZR W' y:=by
 refine ⟨h.c.store hB ho,⟨h.i.length,h.i.max,?_⟩,⟨h.g.length,h.g.max,?_,fun j hj=>(h.g.each j hj).store hB ho⟩,h.r.store hB ho⟩
 ·rcases hi with h0 | hi
  ·exact .inl h0
  ·rcases h.i.cells with h0 | ⟨b,off,ha,hc⟩
   ·exact .inl h0
   ·exact .inr ⟨b,off,ha,fun j hj=>(cell_heapJ (ho b (hi b off ha)) _).trans (hc j hj)⟩
 ·rcases h.g.cells with h0 | ⟨b,off,ha,hc⟩
  ·exact .inl h0
  ·refine .inr ⟨b,off,ha,fun j hj=>?_⟩
   have h1:=hc j hj
   rw [<- h1]
   refine cell_heapJ (ho b ?_) _
   rintro rfl
   rw [cell_of_row _ _ _ _ _ _ hB] at h1
   have h3:=hg j hj
   rcases nilz_cells h1 with h2 | h2 | h2
   ·cases h2
   ·injection h2 with _ h4 _
    omega
   ·cases h2
def fz (u:Nat):Nat:=if Fin u then u else 0
attribute [local go_sem] Oper.semAt_some
attribute [local go_sem] Oper.semAt_some
attribute [local go_sem] Oper.semAt_some
attribute [local go_sem] Oper.semAt_some
attribute [local go_sem] Oper.semAt_some
attribute [local go_sem] Oper.semAt_some
attribute [local go_sem] Oper.semAt_some
section
end
theorem FrL.monoF {w:World} {base b n bc br:Nat} {cs rs:List Nat} {ids:List Int} {gs:List (List Nat)} {vi vg:Value} {gl:List Nat} (h:FrL w base n bc br cs rs ids gs vi vg gl) (hb:b <= base):FrL w b n bc br cs rs ids gs vi vg gl:=
 ⟨⟨Nat.le_trans hb h.c.lo,h.c.cur,h.c.rd⟩,⟨Nat.le_trans hb h.r.lo,h.r.cur,h.r.rd⟩,owns_monoJ h.i hb,owns_monoJ h.g hb,⟨h.col.len,fun j hj=>⟨Nat.le_trans hb (h.col.row j hj).lo,(h.col.row j hj).cur,(h.col.row j hj).rd⟩,h.col.nodup⟩,h.cr,h.cg,h.rg⟩
def FrY (w:World) (base:Nat) (y:ZD):Prop:=∃ n bc br vi vg gl,zRow y = #[.int .i64 y.N,slN n bc,vi,vg,slN n br,.bool y.bad] /\ FrL w base n bc br y.cs y.rs y.ids y.gs vi vg gl
end Go.Proofs.YtmdjoaipkbnelaaGreat
