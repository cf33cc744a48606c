import Derived.Test.YtgialbaeekkkhaaGreatPPb8
set_option maxRecDepth 100000
set_option maxHeartbeats 8000000
set_option linter.unusedVariables false
set_option linter.unusedSimpArgs false
namespace Go.Proofs.YtgialbaeekkkhaaGreat
open Go.RowKit Go.Shelf
theorem cell_later {w w':World} {a:Addr} {v:Value} (h:w.cell? a = some v) (hb:Below w.heap.size w w'):w'.cell? a = some v:=(hb.cell (World.block_lt_of_cell? _ _ h)).trans h
structure RowZ (w:World) (base:Nat) (v:Value) (s:Nat) (T:Int) (zs:List Int):Prop where
 own:∃ xs,w.ownsRow base 56 3 v zs.length xs /\ ∀ j,j < zs.length -> ∃ n o l c e,xs[j * 3]? = some (.bool n) /\ xs[j * 3 + 1]? = some (.slice o l c) /\ xs[j * 3 + 2]? = some (.int .i64 e) /\ NumC w (.agg #[.bool n,.slice o l c,.int .i64 e]) s T (zs[j]?.getD 0)
 cl:∀ g,v.ownBlock = some g -> Cl noU w g
theorem RowZ.nil (w:World) (base s:Nat) (T:Int):RowZ w base (.slice none 0 0) s T []:=⟨⟨[],World.ownsRow_nil _ _ _ _,fun j hj=>absurd hj (Nat.not_lt_zero _)⟩,fun g hg=>by cases hg⟩
theorem RowZ.later {w w':World} {base s:Nat} {T:Int} {v:Value} {zs:List Int} (h:RowZ w base v s T zs) (hb:Below w.heap.size w w'):RowZ w' base v s T zs:=by
 obtain ⟨xs,h1,h2⟩:=h.own
 exact ⟨⟨xs,owns_keep h1 fun k hk=>hb.block k (World.ownsRow.lt h1 k hk).2,fun j hj=>by obtain ⟨n,o,l,c,e,a1,a2,a3,a4⟩:=h2 j hj;exact ⟨n,o,l,c,e,a1,a2,a3,a4.later hb⟩⟩,fun g hg=>(h.cl g hg).later hb⟩
theorem RowZ.push {w w':World} {base s:Nat} {T z:Int} {v v':Value} {zs:List Int} {n:Bool} {o:Option Addr} {l c:Nat} {e:Int} {xs:List Value} (hx:w.ownsRow base 56 3 v zs.length xs) (h2:∀ j,j < zs.length -> ∃ n o l c e,xs[j * 3]? = some (.bool n) /\ xs[j * 3 + 1]? = some (.slice o l c) /\ xs[j * 3 + 2]? = some (.int .i64 e) /\ NumC w (.agg #[.bool n,.slice o l c,.int .i64 e]) s T (zs[j]?.getD 0))
  (hcl:∀ g,v.ownBlock = some g -> Cl noU w g) (hn:NumC w (.agg #[.bool n,.slice o l c,.int .i64 e]) s T z) (ho:w'.ownsRow base 56 3 v' (zs.length + 1) (xs ++ [.bool n,.slice o l c,.int .i64 e])) (hg:Grw w w' v.ownBlock v'.ownBlock) (hcl':∀ g,v'.ownBlock = some g -> Cl noU w' g):RowZ w' base v' s T (zs ++ [z]):=by
 have keep:∀ (y:Value) (z:Int),NumC w y s T z -> NumC w' y s T z:=fun y z hy=>hy.grw hg hcl
 have hl:xs.length = zs.length * 3:=hx.1
 refine ⟨⟨_,by simpa using ho,fun j hj=>?_⟩,hcl'⟩
 by_cases ej:j < zs.length
 ·obtain ⟨n1,o1,l1,c1,e1,a1,a2,a3,a4⟩:=h2 j ej
  refine ⟨n1,o1,l1,c1,e1,?_,?_,?_,?_⟩
  ·rw [List.getElem?_append_left (by omega)];exact a1
  ·rw [List.getElem?_append_left (by omega)];exact a2
  ·rw [List.getElem?_append_left (by omega)];exact a3
  ·rw [List.getElem?_append_left ej];exact keep _ _ a4
 ·have e2:j = zs.length:=by simp at hj;omega
  subst e2
  refine ⟨n,o,l,c,e,?_,?_,?_,?_⟩
  ·rw [List.getElem?_append_right (by omega),hl,Nat.sub_self];rfl
  ·rw [List.getElem?_append_right (by omega),hl,show zs.length * 3 + 1 - zs.length * 3 = 1 by omega];rfl
  ·rw [List.getElem?_append_right (by omega),hl,show zs.length * 3 + 2 - zs.length * 3 = 2 by omega];rfl
  ·rw [List.getElem?_append_right (Nat.le_refl _),Nat.sub_self];exact keep _ _ hn
theorem RowZ.range {w:World} {base s:Nat} {T:Int} {v:Value} {zs:List Int} (h:RowZ w base v s T zs) {k:Nat} (hk:k < zs.length):∃ b cap n o l c e,v = .slice (some ⟨b,0,none⟩) zs.length cap /\ w.rangeAt b (k * 3) [.bool n,.slice o l c,.int .i64 e] /\ NumC w (.agg #[.bool n,.slice o l c,.int .i64 e]) s T (zs[k]?.getD 0):=by
 obtain ⟨xs,h1,h2⟩:=h.own
 obtain ⟨n,o,l,c,e,a1,a2,a3,a4⟩:=h2 k hk
 have h1':=h1
 rcases h1.2 with ⟨_,h0⟩ | ⟨g,cap,cur,rfl,_⟩
 ·omega
 ·refine ⟨g,cap,n,o,l,c,e,rfl,range3 ?_ ?_ ?_,a4⟩
  ·rw [World.ownsRow.cellAt h1' (k * 3) (by omega)];exact a1
  ·rw [World.ownsRow.cellAt h1' (k * 3 + 1) (by omega)];exact a2
  ·rw [World.ownsRow.cellAt h1' (k * 3 + 2) (by omega)];exact a3
theorem RowZ.form {w:World} {base s:Nat} {T:Int} {v:Value} {zs:List Int} (h:RowZ w base v s T zs):∃ ao cap,v = .slice ao zs.length cap:=by
 obtain ⟨xs,h1,h2⟩:=h.own
 rcases h1.2 with ⟨rfl,h0⟩ | ⟨g,cap,cur,rfl,_⟩
 ·exact ⟨none,0,by rw [h0]⟩
 ·exact ⟨_,cap,rfl⟩
theorem NumC.moreJ {w:World} {v:Value} {s:Nat} {T z:Int} (h:NumC w v s T z) (k:Nat):NumC w v (s + k) T (z * ((2 ^ k:Nat):Int)):=by
 obtain ⟨neg,m,e,h1,h2,h3,h4,h5⟩:=h
 exact ⟨neg,m,e,h1,by omega,h3,by rw [zv_more k neg m h2,h4],h5⟩
theorem res_near (f:Func) (i j k:Nat) (hf:f.results = #[ResultVar.tmp i,ResultVar.cell j 56,ResultVar.tmp k]) (tmps:Array Value) (W:World) (B:Nat) (v0 v1 v2 u b:Value) (hi:tmps[i]? = some u) (hp:tmps[j]? = some (.pointer (some ⟨B,0,none⟩))) (hk:tmps[k]? = some b) (h:W.heap[B]? = some (.cells #[v0,v1,v2] 56)):(results f tmps).run Tryz.prog W = .ok (.tuple #[u,.agg #[v0,v1,v2],b]) W:=by
 obtain ⟨h0,h1,h2⟩:=three_cells h
 simp [results,hf,go_sem,hp,hi,hk,h0,h1,h2]
def mg:List Int -> List Int -> List Int
 | [],ys=>ys
 | x :: xs,[]=>x :: xs
 | x :: xs,y :: ys=>if x < y then x :: mg xs (y :: ys) else if y < x then y :: mg (x :: xs) ys else x :: mg xs ys
 termination_by xs ys=>xs.length + ys.length
theorem mg_nil (xs:List Int):mg xs [] = xs:=by cases xs <;> simp [mg]
theorem mg_len:∀ (xs ys:List Int),(mg xs ys).length <= xs.length + ys.length
 | [],ys=>by simp [mg]
 | x :: xs,[]=>by simp [mg]
 | x :: xs,y :: ys=>by
  have h1:=mg_len xs (y :: ys)
  have h2:=mg_len (x :: xs) ys
  have h3:=mg_len xs ys
  rw [mg]
  split
  ·simp only [List.length_cons] at *;omega
  ·split <;> (simp only [List.length_cons] at *;omega)
 termination_by xs ys=>xs.length + ys.length
theorem mg_lt {xs ys:List Int} {i k:Nat} (hi:i < xs.length) (h:k = ys.length \/ (k < ys.length /\ xs[i]?.getD 0 < ys[k]?.getD 0)):mg (xs.drop i) (ys.drop k) = (xs[i]?.getD 0) :: mg (xs.drop (i + 1)) (ys.drop k):=by
 rw [List.drop_eq_getElem_cons hi,List.getElem?_eq_getElem hi,Option.getD_some]
 rcases h with h | ⟨hk,h⟩
 ·rw [h,List.drop_length,mg_nil,mg_nil]
 ·rw [List.getElem?_eq_getElem hi,List.getElem?_eq_getElem hk,Option.getD_some,Option.getD_some] at h
  rw [List.drop_eq_getElem_cons hk,mg,if_pos h]
theorem mg_gt {xs ys:List Int} {i k:Nat} (hk:k < ys.length) (h:i = xs.length \/ (i < xs.length /\ ys[k]?.getD 0 < xs[i]?.getD 0)):mg (xs.drop i) (ys.drop k) = (ys[k]?.getD 0) :: mg (xs.drop i) (ys.drop (k + 1)):=by
 rw [List.drop_eq_getElem_cons hk,List.getElem?_eq_getElem hk,Option.getD_some]
 rcases h with h | ⟨hi,h⟩
 ·rw [h,List.drop_length];simp [mg]
 ·rw [List.getElem?_eq_getElem hi,List.getElem?_eq_getElem hk,Option.getD_some,Option.getD_some] at h
  rw [List.drop_eq_getElem_cons hi,mg,if_neg (by omega),if_pos h]
theorem mg_eq {xs ys:List Int} {i k:Nat} (hi:i < xs.length) (hk:k < ys.length) (h:xs[i]?.getD 0 = ys[k]?.getD 0):mg (xs.drop i) (ys.drop k) = (xs[i]?.getD 0) :: mg (xs.drop (i + 1)) (ys.drop (k + 1)):=by
 rw [List.drop_eq_getElem_cons hi,List.drop_eq_getElem_cons hk,List.getElem?_eq_getElem hi,Option.getD_some]
 rw [List.getElem?_eq_getElem hi,List.getElem?_eq_getElem hk,Option.getD_some,Option.getD_some] at h
 rw [mg,if_neg (by omega),if_neg (by omega)]
theorem made3 (n j:Nat) (h:j < n) (a b c:Value):(madeCells #[a,b,c] (n * 3)).toList[j * 3]? = some a /\ (madeCells #[a,b,c] (n * 3)).toList[j * 3 + 1]? = some b /\ (madeCells #[a,b,c] (n * 3)).toList[j * 3 + 2]? = some c:=by
 unfold madeCells
 have h0:j * 3 < n * 3:=by omega
 have h1:j * 3 + 1 < n * 3:=by omega
 have h2:j * 3 + 2 < n * 3:=by omega
 have e0:j * 3 % 3 = 0:=by omega
 have e1:(j * 3 + 1) % 3 = 1:=by omega
 have e2:(j * 3 + 2) % 3 = 2:=by omega
 refine ⟨?_,?_,?_⟩
 ·simp [h0,e0]
 ·simp [h1,e1]
 ·simp [h2,e2]
theorem makeNJ (n:Nat) (hn:n <= 1000000) (s:Nat) (T:Int) (hT:0 <= T) (w:World) :
  ∃ w',(Instr.makeSlice 47 (.int .i64 (n:Int)) (.int .i64 (n:Int))).run Tryz.prog w = .ok (.slice (some ⟨w.heap.size,0,none⟩) n n) w' /\ RowZ w' w.heap.size (.slice (some ⟨w.heap.size,0,none⟩) n n) s T (List.replicate n 0) /\ Below w.heap.size w w':=by
 obtain ⟨i0,hi,hz0,hz1,hz2⟩:=info3' Tryz.infoNumJ
 have h:=run_makeSlice (P:=Tryz.prog) w 47 56 i0 (.agg #[.bool false,.slice none 0 0,.int .i64 0]) Tryz.underlying47 hi hz0 .i64 .i64 (n:Int) (n:Int) (by omega) (by omega) (by rw [hz1,Int.toNat_natCast];omega) (by rw [hz2];omega) (by omega)
 rw [Int.toNat_natCast,hz1] at h
 have hc:(Value.agg #[.bool false,.slice none 0 0,.int .i64 0]).cells = #[.bool false,.slice none 0 0,.int .i64 0]:=rfl
 rw [hc] at h
 have hmx:n <= maxLen:=by simp only [maxLen];omega
 refine ⟨_,h,⟨⟨(madeCells #[.bool false,.slice none 0 0,.int .i64 0] (n * 3)).toList,?_,fun j hj=>?_⟩,fun g hg=>?_⟩,(Below.refl _ w).alloc (Nat.le_refl _) _⟩
 ·rw [List.length_replicate]
  exact World.ownsRow_lit w _ n (Nat.le_refl _) hmx (size_madeCells _ _)
 ·rw [List.length_replicate] at hj
  obtain ⟨m1,m2,m3⟩:=made3 n j hj (.bool false) (.slice none 0 0) (.int .i64 0)
  exact ⟨false,none,0,0,0,m1,m2,m3,by rw [List.getElem?_replicate,if_pos hj,Option.getD_some];exact NumC.zeroJ _ _ _ hT⟩
 ·cases hg
  refine ⟨_,_,heap_alloc_new w _,fun i v hv=>?_⟩
  have hv':=Array.mem_of_getElem? hv
  unfold madeCells at hv'
  simp at hv'
  obtain ⟨k,_,rfl⟩:=hv'
  have hk:k % 3 = 0 \/ k % 3 = 1 \/ k % 3 = 2:=by omega
  rcases hk with e | e | e <;> simp [e] <;> rfl
def colZ (n:Nat) (id:Int):List Int -> List (List Nat) -> List Int
 | i :: is,g :: gs=>if i = id then g.map fval else colZ n id is gs
 | _,_=>List.replicate n 0
theorem colZ_hit {n:Nat} {id:Int} {ids:List Int} {gs:List (List Nat)} {k:Nat} (h1:k < ids.length) (h2:k < gs.length) (h:ids[k]?.getD 0 = id):colZ n id (ids.drop k) (gs.drop k) = (gs[k]?.getD []).map fval:=by
 rw [List.getElem?_eq_getElem h1,Option.getD_some] at h
 rw [List.drop_eq_getElem_cons h1,List.drop_eq_getElem_cons h2,colZ,if_pos h,List.getElem?_eq_getElem h2,Option.getD_some]
theorem colZ_miss {n:Nat} {id:Int} {ids:List Int} {gs:List (List Nat)} {k:Nat} (h1:k < ids.length) (h2:k < gs.length) (h:ids[k]?.getD 0 ≠ id):colZ n id (ids.drop k) (gs.drop k) = colZ n id (ids.drop (k + 1)) (gs.drop (k + 1)):=by
 rw [List.getElem?_eq_getElem h1,Option.getD_some] at h
 rw [List.drop_eq_getElem_cons h1,List.drop_eq_getElem_cons h2,colZ,if_neg h]
theorem colZ_end {n:Nat} {id:Int} {ids:List Int} {gs:List (List Nat)} {k:Nat} (h:ids.length <= k):colZ n id (ids.drop k) (gs.drop k) = List.replicate n 0:=by
 rw [List.drop_eq_nil_of_le h]
 cases gs.drop k <;> rfl
theorem RlS.colAt2 {w:World} {base E:Nat} {cs rs:List Nat} {ids:List Int} {gs:List (List Nat)} {vc vr vi:Value} {a3:Option Addr} {l3 c3:Nat} {gl:List Value} (h:RlS w base E cs rs ids gs vc vr vi (.slice a3 l3 c3) gl) {k:Nat} (hk:k < gs.length):∃ g u,a3 = some ⟨g,0,none⟩ /\ w.cell? ⟨g,k,none⟩ = some u /\ RowN w base u E (gs[k]?.getD []):=by
 obtain ⟨ao,cap,h1,h2,h3⟩:=owns_slice h.g
 have hl:=h.len
 rcases h3 with h0 | ⟨g,rfl,hc⟩
 ·omega
 have hkl:k < gl.length:=by omega
 have hcell:=hc k hkl
 rw [List.getElem?_eq_getElem hkl] at hcell
 injection h1 with q1
 exact ⟨g,_,q1,hcell,h.col k _ (List.getElem?_eq_getElem hkl)⟩
theorem RowN.toZ2 {w:World} {base E:Nat} {v:Value} {us:List Nat} (h:RowN w base v E us):RowZ w base v E 1024 (us.map fval):=by
 obtain ⟨xs,h1,h2⟩:=h.own
 refine ⟨⟨xs,by rw [List.length_map];exact h1,fun j hj=>?_⟩,h.cl⟩
 rw [List.length_map] at hj
 obtain ⟨n,o,l,c,e,a1,a2,a3,a4⟩:=h2 j hj
 refine ⟨n,o,l,c,e,a1,a2,a3,?_⟩
 rw [List.getElem?_map,List.getElem?_eq_getElem hj]
 rw [List.getElem?_eq_getElem hj] at a4
 exact a4
theorem column_any (n0:Nat) (a1:Option Addr) (l1 c1:Nat) (a2:Option Addr) (l2 c2:Nat) (a3:Option Addr) (l3 c3:Nat) (a4:Option Addr) (l4 c4:Nat) (cs rs:List Nat) (ids:List Int) (gs:List (List Nat)) (gl:List Value) (id:Int) (base E:Nat) (w:World) (h:RlS w base E cs rs ids gs (.slice a1 l1 c1) (.slice a4 l4 c4) (.slice a2 l2 c2) (.slice a3 l3 c3) gl) (hi:ids.length = gs.length) (few:gs.length <= 1050000) (hn:n0 <= 256) :
  Calls Tryz.prog 24 #[.agg #[.int .i64 (n0:Int),.slice a1 l1 c1,.slice a2 l2 c2,.slice a3 l3 c3,.slice a4 l4 c4],.int .i64 id] w fun e w'=>∃ v B,e = .returned v /\ RowZ w' B v E 1024 (colZ n0 id ids gs) /\ Below w.heap.size w w':=by
 have hl3:=h.lenG
 obtain ⟨ia,ic,hi1,hi2,hi3⟩:=owns_slice h.i
 have hl2:l2 = gs.length:=by injection hi1 with _ e;rw [e,hi]
 have ha2:a2 = ia:=by injection hi1
 subst hl3 hl2 ha2
 have HR:Hid (∀ W',Below w.heap.size w W' -> RlS W' base E cs rs ids gs (.slice a1 l1 c1) (.slice a4 l4 c4) (.slice a2 gs.length c2) (.slice a3 gs.length c3) gl):=fun W' hb=>h.later hb
 have HI:Hid (∀ W',Below w.heap.size w W' -> gs.length = 0 \/ ∃ g,a2 = some ⟨g,0,none⟩ /\ ∀ j,j < gs.length -> W'.cell? ⟨g,j,none⟩ = some (.int .i64 (ids[j]?.getD 0))):=fun W' hb=>by
  rcases hi3 with h0 | ⟨g,e,hc⟩
  ·exact .inl (by omega)
  ·refine .inr ⟨g,e,fun j hj=>?_⟩
   have h9:=hc j (by omega)
   rw [List.getElem?_map,List.getElem?_eq_getElem (by omega)] at h9
   rw [List.getElem?_eq_getElem (by omega)]
   exact cell_later h9 hb
 have HL:Hid (ids.length = gs.length):=hi
 clear h hi hi1 hi2 hi3
 have X0:Below w.heap.size w (w.alloc (.cells #[.int .i64 (n0:Int),.slice a1 l1 c1,.slice a2 gs.length c2,.slice a3 gs.length c3,.slice a4 l4 c4] 50)):=(Below.refl _ w).alloc (Nat.le_refl _) _
 have Y0:(w.alloc (.cells #[.int .i64 (n0:Int),.slice a1 l1 c1,.slice a2 gs.length c2,.slice a3 gs.length c3,.slice a4 l4 c4] 50)).heap[w.heap.size]? = some (.cells #[.int .i64 (n0:Int),.slice a1 l1 c1,.slice a2 gs.length c2,.slice a3 gs.length c3,.slice a4 l4 c4] 50):=heap_alloc_new w _
 go_enter Tryz.func24,Tryz.ntmps24
 go_upto_region 1 with fail
 obtain ⟨X,hX⟩:∃ X,(w.alloc (.cells #[.int .i64 (n0:Int),.slice a1 l1 c1,.slice a2 gs.length c2,.slice a3 gs.length c3,.slice a4 l4 c4] 50)) = X:=⟨_,rfl⟩
 rw [hX] at X0 Y0 ⊢
 have HX:Hid (Below w.heap.size w X /\ X.heap[w.heap.size]? = some (.cells #[.int .i64 (n0:Int),.slice a1 l1 c1,.slice a2 gs.length c2,.slice a3 gs.length c3,.slice a4 l4 c4] 50)):=⟨X0,Y0⟩
 clear hX X0 Y0
 go_wp2_with fail
 go_loopg [5] gs.length (fun q v5 wx=>∃ (k:Nat),v5 = .int .i64 k /\ k + q = gs.length /\ Hid (Below w.heap.size w wx /\ wx.heap[w.heap.size]? = some (.cells #[.int .i64 (n0:Int),.slice a1 l1 c1,.slice a2 gs.length c2,.slice a3 gs.length c3,.slice a4 l4 c4] 50)) /\ Hid (colZ n0 id (ids.drop k) (gs.drop k) = colZ n0 id ids gs))
 case atStart=>exact ⟨0,rfl,by omega,HX,by unfold Hid;rw [List.drop_zero,List.drop_zero]⟩
 case round=>
  obtain ⟨k,rfl,hk,HB,HC⟩:=hrel
  have k2:wr.cell? ⟨w.heap.size,2,none⟩ = some (.slice a2 gs.length c2):=cellAtJ HB.out.2 2 _ rfl
  by_cases h1:k < gs.length
  ·have hd1:decide ((k:Int) < (gs.length:Int)) = true:=decide_eq_true (by omega)
   have hk0:(k:Int) < (gs.length:Int):=by omega
   obtain ⟨q,rfl⟩:∃ q,gk = q + 1:=⟨gk - 1,by omega⟩
   have HIG:Hid _:=hk
   clear hk
   obtain ⟨gi,hgi,hci⟩:∃ g,a2 = some ⟨g,0,none⟩ /\ wr.cell? ⟨g,k,none⟩ = some (.int .i64 (ids[k]?.getD 0)):=by
    rcases HI.out wr HB.out.1 with h0 | ⟨g,e,hc⟩
    ·omega
    ·exact ⟨g,e,hc k h1⟩
   rw [hgi] at k2
   obtain ⟨x,hx⟩:∃ x,ids[k]?.getD 0 = x:=⟨_,rfl⟩
   rw [hx] at hci
   have HXX:Hid (ids[k]?.getD 0 = x):=hx
   have HGI:Hid _:=hgi
   clear hx hgi
   obtain ⟨gg,uc,hg3,hc3,hcol⟩:=RlS.colAt2 (HR.out wr HB.out.1) h1
   have k3:wr.cell? ⟨w.heap.size,3,none⟩ = some (.slice (some ⟨gg,0,none⟩) gs.length c3):=by rw [<- hg3];exact cellAtJ HB.out.2 3 _ rfl
   have HCL:Hid (RowN wr base uc E (gs[k]?.getD [])):=hcol
   clear hg3 hcol
   by_cases he:x = id
   ·have e1:(x == id) = true:=by simpa using he
    have HZ:Hid (RowZ wr base uc E 1024 (colZ n0 id ids gs)):=by
     unfold Hid
     rw [<- HC.out,colZ_hit (by rw [HL.out];exact h1) h1 (by rw [HXX.out];exact he)]
     exact RowN.toZ2 HCL.out
    clear he
    go_wp2_with fail
    go_ret
    exact ⟨_,base,rfl,HZ.out,HB.out.1⟩
   ·have e1:(x == id) = false:=by simpa using he
    have HC2:Hid (colZ n0 id (ids.drop (k + 1)) (gs.drop (k + 1)) = colZ n0 id ids gs):=by
     unfold Hid
     rw [<- HC.out,colZ_miss (by rw [HL.out];exact h1) h1 (by rw [HXX.out];exact he)]
    clear he
    go_wp2_with fail
    go_roundg q
    case measure=>omega
    case rel=>exact ⟨k + 1,by go_num,by have:=HIG.out;omega,HB,HC2⟩
  ·have hd1:decide ((k:Int) < (gs.length:Int)) = false:=decide_eq_false (by omega)
   have k0:wr.cell? ⟨w.heap.size,0,none⟩ = some (.int .i64 (n0:Int)):=cellAtJ HB.out.2 0 _ rfl
   obtain ⟨W9,hrun,hrow,hbel⟩:=makeNJ n0 (by omega) E 1024 (by omega) wr
   have HZ:Hid (RowZ W9 wr.heap.size (.slice (some ⟨wr.heap.size,0,none⟩) n0 n0) E 1024 (colZ n0 id ids gs)):=by
    unfold Hid
    rw [<- HC.out,colZ_end (by rw [HL.out];omega)]
    exact hrow
   have HB9:Hid (Below w.heap.size w W9):=to_call HB.out.1 hbel
   clear hrow hbel
   go_wp2_with fail
   go_ret
   exact ⟨_,wr.heap.size,rfl,HZ.out,HB9.out⟩
theorem set3_eq {α:Type} (l:List α) (i:Nat) (a b c:α) (h:i + 3 <= l.length):l.take i ++ [a,b,c] ++ l.drop (i + 3) = ((l.set i a).set (i + 1) b).set (i + 2) c:=by
 apply List.ext_getElem?
 intro j
 have hl:(l.take i).length = i:=by rw [List.length_take];omega
 have hl2:(l.take i ++ [a,b,c]).length = i + 3:=by rw [List.length_append,hl];rfl
 by_cases h1:j < i
 ·rw [List.getElem?_append_left (by omega),List.getElem?_append_left (by omega),List.getElem?_take_of_lt h1,List.getElem?_set_ne (by omega),List.getElem?_set_ne (by omega),List.getElem?_set_ne (by omega)]
 by_cases h2:j < i + 3
 ·rw [List.getElem?_append_left (by omega),List.getElem?_append_right (by omega),hl]
  have hj:j = i \/ j = i + 1 \/ j = i + 2:=by omega
  rcases hj with rfl | rfl | rfl
  ·rw [Nat.sub_self,List.getElem?_set_ne (by omega),List.getElem?_set_ne (by omega),List.getElem?_set_self (by omega)];rfl
  ·rw [show i + 1 - i = 1 by omega,List.getElem?_set_ne (by omega),List.getElem?_set_self (by rw [List.length_set];omega)];rfl
  ·rw [show i + 2 - i = 2 by omega,List.getElem?_set_self (by rw [List.length_set,List.length_set];omega)];rfl
 ·rw [List.getElem?_append_right (by omega),hl2,List.getElem?_drop,List.getElem?_set_ne (by omega),List.getElem?_set_ne (by omega),List.getElem?_set_ne (by omega)]
  congr 1
  omega
theorem RowZ.stored {w W:World} {base g cap s:Nat} {T z:Int} {zs:List Int} {n:Bool} {o:Option Addr} {l c:Nat} {e:Int} {k:Nat} {cur:Array Value} (h:RowZ w base (.slice (some ⟨g,0,none⟩) zs.length cap) s T zs) (hk:k < zs.length) (hz:NumC w (.agg #[.bool n,.slice o l c,.int .i64 e]) s T z) (hg:w.heap[g]? = some (.cells cur 56))
  (hW:W.heap[g]? = some (.cells (cur.toList.take (k * 3) ++ [Value.bool n,Value.slice o l c,Value.int .i64 e] ++ cur.toList.drop (k * 3 + 3)).toArray 56)) (ho:∀ b,b ≠ g -> W.heap[b]? = w.heap[b]?):RowZ W base (.slice (some ⟨g,0,none⟩) zs.length cap) s T (zs.set k z):=by
 obtain ⟨xs,h1,h2⟩:=h.own
 have hcl:=h.cl g rfl
 rcases h1.2 with ⟨h',_⟩ | ⟨g',cap',cur',h',hb,hg',hnc,hcm,hcs,htake⟩
 ·cases h'
 simp only [Value.slice.injEq,Option.some.injEq,Addr.mk.injEq,and_true,true_and] at h'
 obtain ⟨rfl,rfl⟩:=h'
 rw [hg] at hg'
 obtain rfl:cur = cur':=by injection hg' with q;injection q
 have hlen:k * 3 + 3 <= cur.toList.length:=by
  have q:cur.size = cap * 3:=hcs
  rw [Array.length_toList,q]
  have:(k + 1) * 3 <= cap * 3:=Nat.mul_le_mul_right _ (by omega)
  omega
 rw [set3_eq _ _ _ _ _ hlen] at hW
 have hxl:xs.length = zs.length * 3:=h1.1
 have keep:∀ (y:Value) (x:Int),NumC w y s T x -> NumC W y s T x:=fun y x hy=>hy.cl hcl fun b hb _=>ho b hb
 refine ⟨⟨((xs.set (k * 3) (Value.bool n)).set (k * 3 + 1) (Value.slice o l c)).set (k * 3 + 2) (Value.int .i64 e),?_,fun j hj=>?_⟩,fun g2 hg2=>?_⟩
 ·rw [List.length_set]
  refine ⟨by simp only [List.length_set];exact h1.1,.inr ⟨g,cap,_,rfl,hb,hW,hnc,hcm,by simpa using hcs,?_⟩⟩
  rw [<- htake,List.take_set,List.take_set,List.take_set]
 ·rw [List.length_set] at hj
  by_cases ej:j = k
  ·subst ej
   refine ⟨n,o,l,c,e,?_,?_,?_,?_⟩
   ·rw [List.getElem?_set_ne (by omega),List.getElem?_set_ne (by omega),List.getElem?_set_self (by omega)]
   ·rw [List.getElem?_set_ne (by omega),List.getElem?_set_self (by rw [List.length_set];omega)]
   ·rw [List.getElem?_set_self (by rw [List.length_set,List.length_set];omega)]
   ·rw [List.getElem?_set_self hj,Option.getD_some];exact keep _ _ hz
  ·obtain ⟨n1,o1,l1,c1,e1,a1,a2,a3,a4⟩:=h2 j hj
   refine ⟨n1,o1,l1,c1,e1,?_,?_,?_,?_⟩
   ·rw [List.getElem?_set_ne (by omega),List.getElem?_set_ne (by omega),List.getElem?_set_ne (by omega)];exact a1
   ·rw [List.getElem?_set_ne (by omega),List.getElem?_set_ne (by omega),List.getElem?_set_ne (by omega)];exact a2
   ·rw [List.getElem?_set_ne (by omega),List.getElem?_set_ne (by omega),List.getElem?_set_ne (by omega)];exact a3
   ·rw [List.getElem?_set_ne (fun q=>ej q.symm)];exact keep _ _ a4
 ·cases hg2
  obtain ⟨cur2,t2,q1,q2⟩:=hcl
  rw [hg] at q1
  obtain ⟨rfl,rfl⟩:cur = cur2 /\ 56 = t2:=by injection q1 with q;injection q with qa qb;exact ⟨qa,qb⟩
  refine ⟨_,_,hW,fun i v hv=>?_⟩
  rw [List.getElem?_toArray] at hv
  by_cases e1:k * 3 + 2 = i
  ·subst e1
   rw [List.getElem?_set_self (by rw [List.length_set,List.length_set];omega)] at hv
   cases hv;rfl
  rw [List.getElem?_set_ne e1] at hv
  by_cases e2:k * 3 + 1 = i
  ·subst e2
   rw [List.getElem?_set_self (by rw [List.length_set];omega)] at hv
   cases hv;rfl
  rw [List.getElem?_set_ne e2] at hv
  by_cases e3:k * 3 = i
  ·subst e3
   rw [List.getElem?_set_self (by omega)] at hv
   cases hv;rfl
  rw [List.getElem?_set_ne e3,Array.getElem?_toList] at hv
  exact q2 i v hv
theorem merged_any (ao:Option Addr) (la ca:Nat) (xs:List Int) (bo:Option Addr) (lb cb:Nat) (ys:List Int) (w:World) (ha:RdIs w ao la ca xs) (hb:RdIs w bo lb cb ys) (hla:la <= 1050000) (hlb:lb <= 1050000) :
  Calls Tryz.prog 23 #[.slice ao la ca,.slice bo lb cb] w fun e w'=>∃ v,e = .returned v /\ w'.ownsRow w.heap.size 3 1 v (mg xs ys).length ((mg xs ys).map (Value.int .i64)) /\ (∀ g,v.ownBlock = some g -> Cl noU w' g) /\ Below w.heap.size w w':=by
 have HR:Hid (∀ W',Below w.heap.size w W' -> RdIs W' ao la ca xs /\ RdIs W' bo lb cb ys):=fun W' h=>⟨ha.later h,hb.later h⟩
 have HLN:Hid (xs.length = la /\ ys.length = lb):=⟨ha.length,hb.length⟩
 clear ha hb
 go_enter Tryz.func23,Tryz.ntmps23
 go_wp2_with fail
 go_loopg [5,6,7] (la + lb) (fun g v iv kv wx=>∃ (i k:Nat) (out:List Int),iv = .int .i64 i /\ kv = .int .i64 k /\ i <= la /\ k <= lb /\ (la - i) + (lb - k) <= g /\ Hid (wx.ownsRow w.heap.size 3 1 v out.length (out.map (Value.int .i64)) /\ (∀ g,v.ownBlock = some g -> Cl noU wx g) /\ Below w.heap.size w wx) /\ Hid (out ++ mg (xs.drop i) (ys.drop k) = mg xs ys))
 case atStart=>exact ⟨0,0,[],rfl,rfl,by omega,by omega,by omega,⟨World.ownsRow_nil _ _ _ _,(fun g hg=>by cases hg),Below.refl _ _⟩,by unfold Hid;rw [List.drop_zero,List.drop_zero,List.nil_append]⟩
 case round=>
  obtain ⟨i,k,out,rfl,rfl,hil,hkl,hms,HO1,HM⟩:=hrel
  have HOB:Hid (Below w.heap.size w wr):=HO1.out.2.2
  have HOL:Hid (out.length <= 2100000):=by
   have h1:=congrArg List.length HM.out
   rw [List.length_append] at h1
   have h2:=mg_len xs ys
   have h3:=HLN.out
   unfold Hid
   omega
  by_cases hi:i < la
  ·by_cases hk:k < lb
   ·obtain ⟨q,rfl⟩:∃ q,gk = q + 1:=⟨gk - 1,by omega⟩
    obtain ⟨ab,aoff,hao,hxc⟩:∃ ab aoff,ao = some ⟨ab,aoff,none⟩ /\ wr.cell? ⟨ab,aoff + i,none⟩ = some (.int .i64 (xs[i]?.getD 0)):=by
     rcases (HR.out wr HOB.out).1.cells with h0 | ⟨b,off,e,hc⟩
     ·omega
     ·exact ⟨b,off,e,hc i hi⟩
    obtain ⟨x,hx⟩:∃ x,xs[i]?.getD 0 = x:=⟨_,rfl⟩
    rw [hx] at hxc
    have HXX:Hid (xs[i]?.getD 0 = x):=hx
    subst hao
    have CX:Hid (wr.cell? ⟨ab,aoff + i,none⟩ = some (.int .i64 x)):=hxc
    clear hx hxc
    obtain ⟨bb,boff,hbo,hyc⟩:∃ bb boff,bo = some ⟨bb,boff,none⟩ /\ wr.cell? ⟨bb,boff + k,none⟩ = some (.int .i64 (ys[k]?.getD 0)):=by
     rcases (HR.out wr HOB.out).2.cells with h0 | ⟨b,off,e,hc⟩
     ·omega
     ·exact ⟨b,off,e,hc k hk⟩
    obtain ⟨y,hy⟩:∃ y,ys[k]?.getD 0 = y:=⟨_,rfl⟩
    rw [hy] at hyc
    have HYY:Hid (ys[k]?.getD 0 = y):=hy
    subst hbo
    have CY:Hid (wr.cell? ⟨bb,boff + k,none⟩ = some (.int .i64 y)):=hyc
    clear hy hyc
    have e1:(((k:Nat):Int) == ((lb:Nat):Int)) = false:=by simp;omega
    have e2:decide (((i:Nat):Int) < ((la:Nat):Int)) = true:=decide_eq_true (by omega)
    have e3:(((i:Nat):Int) == ((la:Nat):Int)) = false:=by simp;omega
    have hi2:(i:Int) < (la:Int):=by omega
    have hk2:(k:Int) < (lb:Int):=by omega
    by_cases hxy:x < y
    ·skip
     have e4:decide (x < y) = true:=decide_eq_true hxy
     go_upto_region 8 with fail
     have bX:Below wr.heap.size wr wr.drew:=(Below.refl _ _).drew
     refine wp_region_noPanic ?_
     refine wp_region_held_drew (S:=(fun V=>Below wr.heap.size wr V)) (by kernel_rfl) bX (fun _=>?_)
     refine tzI 30 0 ?_ ?_ bX ?_
     rotate_left
     ·intro w' hSw;have s1:=cell_later CX.out hSw;have s2:=cell_later CY.out hSw;go_simp;try with_reducible rfl
     try simp only [pA,pE,pB,pC,pD]
     refine tzI 31 1 ?_ ?_ bX ?_
     rotate_left
     ·intro w' hSw;have s1:=cell_later CX.out hSw;have s2:=cell_later CY.out hSw;go_simp;try with_reducible rfl
     try simp only [pA,pE,pB,pC,pD]
     refine tzI 32 2 ?_ ?_ bX ?_
     rotate_left
     ·intro w' hSw;have s1:=cell_later CX.out hSw;have s2:=cell_later CY.out hSw;go_simp;try with_reducible rfl
     try simp only [pA,pE,pB,pC,pD]
     refine tzI 33 3 ?_ ?_ bX ?_
     rotate_left
     ·intro w' hSw;have s1:=cell_later CX.out hSw;have s2:=cell_later CY.out hSw;go_simp;try with_reducible rfl
     try simp only [pA,pE,pB,pC,pD]
     refine tzI 34 4 ?_ ?_ bX ?_
     rotate_left
     ·intro w' hSw;have s1:=cell_later CX.out hSw;have s2:=cell_later CY.out hSw;go_simp;try with_reducible rfl
     try simp only [pA,pE,pB,pC,pD]
     refine tzI 35 5 ?_ ?_ bX ?_
     rotate_left
     ·intro w' hSw;have s1:=cell_later CX.out hSw;have s2:=cell_later CY.out hSw;go_simp;try with_reducible rfl
     try simp only [pA,pE,pB,pC,pD]
     refine tzI 36 6 ?_ ?_ bX ?_
     rotate_left
     ·intro w' hSw;have s1:=cell_later CX.out hSw;have s2:=cell_later CY.out hSw;go_simp;try with_reducible rfl
     try simp only [pA,pE,pB,pC,pD]
     refine tzI 37 7 ?_ ?_ bX ?_
     rotate_left
     ·intro w' hSw;have s1:=cell_later CX.out hSw;have s2:=cell_later CY.out hSw;go_simp;try with_reducible rfl
     try simp only [pA,pE,pB,pC,pD]
     refine tzI 38 8 ?_ ?_ bX ?_
     rotate_left
     ·intro w' hSw;have s1:=cell_later CX.out hSw;have s2:=cell_later CY.out hSw;go_simp;try with_reducible rfl
     try simp only [pA,pE,pB,pC,pD]
     refine tzI 39 9 ?_ ?_ bX ?_
     rotate_left
     ·intro w' hSw;have s1:=cell_later CX.out hSw;have s2:=cell_later CY.out hSw;go_simp;try with_reducible rfl
     try simp only [pA,pE,pB,pC,pD]
     refine tzI 40 10 ?_ ?_ bX ?_
     rotate_left
     ·intro w' hSw;have s1:=cell_later CX.out hSw;have s2:=cell_later CY.out hSw;go_simp;try with_reducible rfl
     try simp only [pA,pE,pB,pC,pD]
     refine tzI 41 11 ?_ ?_ bX ?_
     rotate_left
     ·intro w' hSw;have s1:=cell_later CX.out hSw;have s2:=cell_later CY.out hSw;go_simp;try with_reducible rfl
     try simp only [pA,pE,pB,pC,pD]
     refine tzI 42 12 ?_ ?_ bX ?_
     rotate_left
     ·intro w' hSw;have s1:=cell_later CX.out hSw;have s2:=cell_later CY.out hSw;go_simp;try with_reducible rfl
     try simp only [pA,pE,pB,pC,pD]
     refine tzI 43 13 ?_ ?_ bX ?_
     rotate_left
     ·intro w' hSw;have s1:=cell_later CX.out hSw;have s2:=cell_later CY.out hSw;go_simp;try with_reducible rfl
     try simp only [pA,pE,pB,pC,pD]
     refine tzI 44 14 ?_ ?_ bX ?_
     rotate_left
     ·intro w' hSw;have s1:=cell_later CX.out hSw;have s2:=cell_later CY.out hSw;go_simp;try with_reducible rfl
     try simp only [pA,pE,pB,pC,pD]
     refine tzI 45 15 ?_ ?_ bX ?_
     rotate_left
     ·intro w' hSw;have s1:=cell_later CX.out hSw;have s2:=cell_later CY.out hSw;go_simp;try with_reducible rfl
     try simp only [pA,pE,pB,pC,pD]
     refine tzI 46 16 ?_ ?_ bX ?_
     rotate_left
     ·intro w' hSw;have s1:=cell_later CX.out hSw;have s2:=cell_later CY.out hSw;go_simp;try with_reducible rfl
     try simp only [pA,pE,pB,pC,pD]
     refine tzI 47 17 ?_ ?_ bX ?_
     rotate_left
     ·intro w' hSw;have s1:=cell_later CX.out hSw;have s2:=cell_later CY.out hSw;go_simp;try with_reducible rfl
     try simp only [pA,pE,pB,pC,pD]
     refine tzI 48 18 ?_ ?_ bX ?_
     rotate_left
     ·intro w' hSw;have s1:=cell_later CX.out hSw;have s2:=cell_later CY.out hSw;go_simp;try with_reducible rfl
     try simp only [pA,pE,pB,pC,pD]
     refine tzI 49 19 ?_ ?_ bX ?_
     rotate_left
     ·intro w' hSw;have s1:=cell_later CX.out hSw;have s2:=cell_later CY.out hSw;go_simp;try with_reducible rfl
     try simp only [pA,pE,pB,pC,pD]
     refine tzI 50 20 ?_ ?_ bX ?_
     rotate_left
     ·intro w' hSw;have s1:=cell_later CX.out hSw;have s2:=cell_later CY.out hSw;go_simp;try with_reducible rfl
     try simp only [pA,pE,pB,pC,pD]
     refine tzI 29 21 ?_ ?_ bX ?_
     rotate_left
     ·intro w' hSw;have s1:=cell_later CX.out hSw;have s2:=cell_later CY.out hSw;go_simp;try with_reducible rfl
     try simp only [pA,pE,pB,pC,pD]
     refine wpAnyH_done (by kernel_rfl) ?_ _
     refine NoPanic.normal ?_
     try simp only [pA,pE,pB,pC,pD]
     have HO1:Hid (wr.drew.ownsRow w.heap.size 3 1 u5 out.length (out.map (Value.int .i64)) /\ (∀ g,u5.ownBlock = some g -> Cl noU wr.drew g) /\ Below w.heap.size w wr.drew):=⟨HO1.out.1,HO1.out.2.1,HO1.out.2.2.drew⟩
     have CX:Hid (wr.drew.cell? ⟨ab,aoff + i,none⟩ = some (.int .i64 x)):=CX.out
     have CY:Hid (wr.drew.cell? ⟨bb,boff + k,none⟩ = some (.int .i64 y)):=CY.out
     obtain ⟨W1,hW1⟩:∃ W1,wr.drew = W1:=⟨_,rfl⟩
     rw [hW1] at HO1 ⊢
     rw [hW1] at CX
     rw [hW1] at CY
     clear hW1 bX
     have gx:=CX.out
     clear CX CY
     have HOW:Hid (W1.ownsRow w.heap.size 3 1 u5 out.length (out.map (Value.int .i64)) /\ (∀ g,u5.ownBlock = some g -> Cl noU W1 g) /\ Below w.heap.size w W1):=HO1.out
     have HC2:Hid (∀ g,u5.ownBlock = some g -> Cl noU (W1.alloc (.cells #[.int .i64 x] 3)) g):=fun g hg=>(HOW.out.2.1 g hg).later ((Below.refl _ W1).alloc (Nat.le_refl _) _)
     have hws:=HOW.out.2.2.size
     go_wp2_with (at_builtin;refine append_clJ noU Tryz.underlying23 Tryz.infoIJ rfl (by decide) (by decide) (by intro v hv;have hv':v ∈ (#[.int .i64 0]:Array Value):=hv;simp only [List.mem_toArray,List.mem_cons,List.not_mem_nil,or_false] at hv';subst hv';rfl) _ (by rfl) _ _ (by rfl) w.heap.size _ out.length _ (by rfl) (World.ownsRow.alloc HOW.out.1 _) HC2.out ⟨W1.heap.size,0,none⟩ 1 1 [.int .i64 x] (by rfl) (by decide) rfl (news_oneJ (heap_alloc_new W1 _)) (oneI _ rfl) (by intro u hu;simp only [List.mem_cons,List.not_mem_nil,or_false] at hu;subst hu;rfl) (by have:=HOL.out;omega) (by simp only [alloc_size];omega) ?_;intro v5 w5 o5 g5 cl5)
     have R5:Hid (w5.ownsRow w.heap.size 3 1 v5 (out ++ [x]).length ((out ++ [x]).map (Value.int .i64)) /\ (∀ g,v5.ownBlock = some g -> Cl noU w5 g) /\ Below w.heap.size w w5):=⟨by rw [List.length_append,List.map_append];exact o5,cl5,(HOW.out.2.2.alloc HOW.out.2.2.size _).trans (g5.below (fun k hk=>(World.ownsRow.lt HOW.out.1 k hk).1) (by simp only [alloc_size];omega))⟩
     have HM5:Hid ((out ++ [x]) ++ mg (xs.drop (i + 1)) (ys.drop k) = mg xs ys):=by
      have h:=HM.out
      rw [mg_lt (by rw [HLN.out.1];exact hi) (.inr ⟨by rw [HLN.out.2];exact hk,by rw [HXX.out,HYY.out];omega⟩),HXX.out] at h
      rw [List.append_assoc]
      exact h
     clear o5 g5 cl5 HC2 HOW HO1
     go_wp2_with fail
     go_roundg q
     case measure=>omega
     case rel=>exact ⟨(i + 1),k,out ++ [x],by go_num,by go_num,by omega,by omega,by omega,R5,HM5⟩
    ·by_cases hyx:y < x
     ·skip
      have e4:decide (x < y) = false:=decide_eq_false (by omega)
      have e5:decide (y < x) = true:=decide_eq_true hyx
      go_upto_region 8 with fail
      have bX:Below wr.heap.size wr wr.drew:=(Below.refl _ _).drew
      refine wp_region_noPanic ?_
      refine wp_region_held_drew (S:=(fun V=>Below wr.heap.size wr V)) (by kernel_rfl) bX (fun _=>?_)
      refine tzI 30 0 ?_ ?_ bX ?_
      rotate_left
      ·intro w' hSw;have s1:=cell_later CX.out hSw;have s2:=cell_later CY.out hSw;go_simp;try with_reducible rfl
      try simp only [pA,pE,pB,pC,pD]
      refine tzI 31 1 ?_ ?_ bX ?_
      rotate_left
      ·intro w' hSw;have s1:=cell_later CX.out hSw;have s2:=cell_later CY.out hSw;go_simp;try with_reducible rfl
      try simp only [pA,pE,pB,pC,pD]
      refine tzI 32 2 ?_ ?_ bX ?_
      rotate_left
      ·intro w' hSw;have s1:=cell_later CX.out hSw;have s2:=cell_later CY.out hSw;go_simp;try with_reducible rfl
      try simp only [pA,pE,pB,pC,pD]
      refine tzI 33 3 ?_ ?_ bX ?_
      rotate_left
      ·intro w' hSw;have s1:=cell_later CX.out hSw;have s2:=cell_later CY.out hSw;go_simp;try with_reducible rfl
      try simp only [pA,pE,pB,pC,pD]
      refine tzI 34 4 ?_ ?_ bX ?_
      rotate_left
      ·intro w' hSw;have s1:=cell_later CX.out hSw;have s2:=cell_later CY.out hSw;go_simp;try with_reducible rfl
      try simp only [pA,pE,pB,pC,pD]
      refine tzI 35 5 ?_ ?_ bX ?_
      rotate_left
      ·intro w' hSw;have s1:=cell_later CX.out hSw;have s2:=cell_later CY.out hSw;go_simp;try with_reducible rfl
      try simp only [pA,pE,pB,pC,pD]
      refine tzI 36 6 ?_ ?_ bX ?_
      rotate_left
      ·intro w' hSw;have s1:=cell_later CX.out hSw;have s2:=cell_later CY.out hSw;go_simp;try with_reducible rfl
      try simp only [pA,pE,pB,pC,pD]
      refine tzI 37 7 ?_ ?_ bX ?_
      rotate_left
      ·intro w' hSw;have s1:=cell_later CX.out hSw;have s2:=cell_later CY.out hSw;go_simp;try with_reducible rfl
      try simp only [pA,pE,pB,pC,pD]
      refine tzI 38 8 ?_ ?_ bX ?_
      rotate_left
      ·intro w' hSw;have s1:=cell_later CX.out hSw;have s2:=cell_later CY.out hSw;go_simp;try with_reducible rfl
      try simp only [pA,pE,pB,pC,pD]
      refine tzI 39 9 ?_ ?_ bX ?_
      rotate_left
      ·intro w' hSw;have s1:=cell_later CX.out hSw;have s2:=cell_later CY.out hSw;go_simp;try with_reducible rfl
      try simp only [pA,pE,pB,pC,pD]
      refine tzI 40 10 ?_ ?_ bX ?_
      rotate_left
      ·intro w' hSw;have s1:=cell_later CX.out hSw;have s2:=cell_later CY.out hSw;go_simp;try with_reducible rfl
      try simp only [pA,pE,pB,pC,pD]
      refine tzI 41 11 ?_ ?_ bX ?_
      rotate_left
      ·intro w' hSw;have s1:=cell_later CX.out hSw;have s2:=cell_later CY.out hSw;go_simp;try with_reducible rfl
      try simp only [pA,pE,pB,pC,pD]
      refine tzI 42 12 ?_ ?_ bX ?_
      rotate_left
      ·intro w' hSw;have s1:=cell_later CX.out hSw;have s2:=cell_later CY.out hSw;go_simp;try with_reducible rfl
      try simp only [pA,pE,pB,pC,pD]
      refine tzI 43 13 ?_ ?_ bX ?_
      rotate_left
      ·intro w' hSw;have s1:=cell_later CX.out hSw;have s2:=cell_later CY.out hSw;go_simp;try with_reducible rfl
      try simp only [pA,pE,pB,pC,pD]
      refine tzI 44 14 ?_ ?_ bX ?_
      rotate_left
      ·intro w' hSw;have s1:=cell_later CX.out hSw;have s2:=cell_later CY.out hSw;go_simp;try with_reducible rfl
      try simp only [pA,pE,pB,pC,pD]
      refine tzI 45 15 ?_ ?_ bX ?_
      rotate_left
      ·intro w' hSw;have s1:=cell_later CX.out hSw;have s2:=cell_later CY.out hSw;go_simp;try with_reducible rfl
      try simp only [pA,pE,pB,pC,pD]
      refine tzI 46 16 ?_ ?_ bX ?_
      rotate_left
      ·intro w' hSw;have s1:=cell_later CX.out hSw;have s2:=cell_later CY.out hSw;go_simp;try with_reducible rfl
      try simp only [pA,pE,pB,pC,pD]
      refine tzI 47 17 ?_ ?_ bX ?_
      rotate_left
      ·intro w' hSw;have s1:=cell_later CX.out hSw;have s2:=cell_later CY.out hSw;go_simp;try with_reducible rfl
      try simp only [pA,pE,pB,pC,pD]
      refine tzI 48 18 ?_ ?_ bX ?_
      rotate_left
      ·intro w' hSw;have s1:=cell_later CX.out hSw;have s2:=cell_later CY.out hSw;go_simp;try with_reducible rfl
      try simp only [pA,pE,pB,pC,pD]
      refine tzI 49 19 ?_ ?_ bX ?_
      rotate_left
      ·intro w' hSw;have s1:=cell_later CX.out hSw;have s2:=cell_later CY.out hSw;go_simp;try with_reducible rfl
      try simp only [pA,pE,pB,pC,pD]
      refine tzI 50 20 ?_ ?_ bX ?_
      rotate_left
      ·intro w' hSw;have s1:=cell_later CX.out hSw;have s2:=cell_later CY.out hSw;go_simp;try with_reducible rfl
      try simp only [pA,pE,pB,pC,pD]
      refine tzI 29 21 ?_ ?_ bX ?_
      rotate_left
      ·intro w' hSw;have s1:=cell_later CX.out hSw;have s2:=cell_later CY.out hSw;go_simp;try with_reducible rfl
      try simp only [pA,pE,pB,pC,pD]
      refine wpAnyH_done (by kernel_rfl) ?_ _
      refine NoPanic.normal ?_
      try simp only [pA,pE,pB,pC,pD]
      have HO1:Hid (wr.drew.ownsRow w.heap.size 3 1 u5 out.length (out.map (Value.int .i64)) /\ (∀ g,u5.ownBlock = some g -> Cl noU wr.drew g) /\ Below w.heap.size w wr.drew):=⟨HO1.out.1,HO1.out.2.1,HO1.out.2.2.drew⟩
      have CX:Hid (wr.drew.cell? ⟨ab,aoff + i,none⟩ = some (.int .i64 x)):=CX.out
      have CY:Hid (wr.drew.cell? ⟨bb,boff + k,none⟩ = some (.int .i64 y)):=CY.out
      obtain ⟨W1,hW1⟩:∃ W1,wr.drew = W1:=⟨_,rfl⟩
      rw [hW1] at HO1 ⊢
      rw [hW1] at CX
      rw [hW1] at CY
      clear hW1 bX
      go_upto_region 11 with fail
      have bX:Below W1.heap.size W1 W1.drew:=(Below.refl _ _).drew
      refine wp_region_noPanic ?_
      refine wp_region_held_drew (S:=(fun V=>Below W1.heap.size W1 V)) (by kernel_rfl) bX (fun _=>?_)
      refine tzI 61 0 ?_ ?_ bX ?_
      rotate_left
      ·intro w' hSw;have s1:=cell_later CX.out hSw;have s2:=cell_later CY.out hSw;go_simp;try with_reducible rfl
      try simp only [pA,pE,pB,pC,pD]
      refine tzI 62 1 ?_ ?_ bX ?_
      rotate_left
      ·intro w' hSw;have s1:=cell_later CX.out hSw;have s2:=cell_later CY.out hSw;go_simp;try with_reducible rfl
      try simp only [pA,pE,pB,pC,pD]
      refine tzI 63 2 ?_ ?_ bX ?_
      rotate_left
      ·intro w' hSw;have s1:=cell_later CX.out hSw;have s2:=cell_later CY.out hSw;go_simp;try with_reducible rfl
      try simp only [pA,pE,pB,pC,pD]
      refine tzI 64 3 ?_ ?_ bX ?_
      rotate_left
      ·intro w' hSw;have s1:=cell_later CX.out hSw;have s2:=cell_later CY.out hSw;go_simp;try with_reducible rfl
      try simp only [pA,pE,pB,pC,pD]
      refine tzI 65 4 ?_ ?_ bX ?_
      rotate_left
      ·intro w' hSw;have s1:=cell_later CX.out hSw;have s2:=cell_later CY.out hSw;go_simp;try with_reducible rfl
      try simp only [pA,pE,pB,pC,pD]
      refine tzI 66 5 ?_ ?_ bX ?_
      rotate_left
      ·intro w' hSw;have s1:=cell_later CX.out hSw;have s2:=cell_later CY.out hSw;go_simp;try with_reducible rfl
      try simp only [pA,pE,pB,pC,pD]
      refine tzI 67 6 ?_ ?_ bX ?_
      rotate_left
      ·intro w' hSw;have s1:=cell_later CX.out hSw;have s2:=cell_later CY.out hSw;go_simp;try with_reducible rfl
      try simp only [pA,pE,pB,pC,pD]
      refine tzI 68 7 ?_ ?_ bX ?_
      rotate_left
      ·intro w' hSw;have s1:=cell_later CX.out hSw;have s2:=cell_later CY.out hSw;go_simp;try with_reducible rfl
      try simp only [pA,pE,pB,pC,pD]
      refine tzI 69 8 ?_ ?_ bX ?_
      rotate_left
      ·intro w' hSw;have s1:=cell_later CX.out hSw;have s2:=cell_later CY.out hSw;go_simp;try with_reducible rfl
      try simp only [pA,pE,pB,pC,pD]
      refine tzI 70 9 ?_ ?_ bX ?_
      rotate_left
      ·intro w' hSw;have s1:=cell_later CX.out hSw;have s2:=cell_later CY.out hSw;go_simp;try with_reducible rfl
      try simp only [pA,pE,pB,pC,pD]
      refine tzI 71 10 ?_ ?_ bX ?_
      rotate_left
      ·intro w' hSw;have s1:=cell_later CX.out hSw;have s2:=cell_later CY.out hSw;go_simp;try with_reducible rfl
      try simp only [pA,pE,pB,pC,pD]
      refine tzI 72 11 ?_ ?_ bX ?_
      rotate_left
      ·intro w' hSw;have s1:=cell_later CX.out hSw;have s2:=cell_later CY.out hSw;go_simp;try with_reducible rfl
      try simp only [pA,pE,pB,pC,pD]
      refine tzI 73 12 ?_ ?_ bX ?_
      rotate_left
      ·intro w' hSw;have s1:=cell_later CX.out hSw;have s2:=cell_later CY.out hSw;go_simp;try with_reducible rfl
      try simp only [pA,pE,pB,pC,pD]
      refine tzI 74 13 ?_ ?_ bX ?_
      rotate_left
      ·intro w' hSw;have s1:=cell_later CX.out hSw;have s2:=cell_later CY.out hSw;go_simp;try with_reducible rfl
      try simp only [pA,pE,pB,pC,pD]
      refine tzI 75 14 ?_ ?_ bX ?_
      rotate_left
      ·intro w' hSw;have s1:=cell_later CX.out hSw;have s2:=cell_later CY.out hSw;go_simp;try with_reducible rfl
      try simp only [pA,pE,pB,pC,pD]
      refine tzI 60 15 ?_ ?_ bX ?_
      rotate_left
      ·intro w' hSw;have s1:=cell_later CX.out hSw;have s2:=cell_later CY.out hSw;go_simp;try with_reducible rfl
      try simp only [pA,pE,pB,pC,pD]
      refine wpAnyH_done (by kernel_rfl) ?_ _
      refine NoPanic.normal ?_
      try simp only [pA,pE,pB,pC,pD]
      have HO1:Hid (W1.drew.ownsRow w.heap.size 3 1 u5 out.length (out.map (Value.int .i64)) /\ (∀ g,u5.ownBlock = some g -> Cl noU W1.drew g) /\ Below w.heap.size w W1.drew):=⟨HO1.out.1,HO1.out.2.1,HO1.out.2.2.drew⟩
      have CX:Hid (W1.drew.cell? ⟨ab,aoff + i,none⟩ = some (.int .i64 x)):=CX.out
      have CY:Hid (W1.drew.cell? ⟨bb,boff + k,none⟩ = some (.int .i64 y)):=CY.out
      obtain ⟨W2,hW2⟩:∃ W2,W1.drew = W2:=⟨_,rfl⟩
      rw [hW2] at HO1 ⊢
      rw [hW2] at CX
      rw [hW2] at CY
      clear hW2 bX
      have gy:=CY.out
      clear CX CY
      have HOW:Hid (W2.ownsRow w.heap.size 3 1 u5 out.length (out.map (Value.int .i64)) /\ (∀ g,u5.ownBlock = some g -> Cl noU W2 g) /\ Below w.heap.size w W2):=HO1.out
      have HC2:Hid (∀ g,u5.ownBlock = some g -> Cl noU (W2.alloc (.cells #[.int .i64 y] 3)) g):=fun g hg=>(HOW.out.2.1 g hg).later ((Below.refl _ W2).alloc (Nat.le_refl _) _)
      have hws:=HOW.out.2.2.size
      go_wp2_with (at_builtin;refine append_clJ noU Tryz.underlying23 Tryz.infoIJ rfl (by decide) (by decide) (by intro v hv;have hv':v ∈ (#[.int .i64 0]:Array Value):=hv;simp only [List.mem_toArray,List.mem_cons,List.not_mem_nil,or_false] at hv';subst hv';rfl) _ (by rfl) _ _ (by rfl) w.heap.size _ out.length _ (by rfl) (World.ownsRow.alloc HOW.out.1 _) HC2.out ⟨W2.heap.size,0,none⟩ 1 1 [.int .i64 y] (by rfl) (by decide) rfl (news_oneJ (heap_alloc_new W2 _)) (oneI _ rfl) (by intro u hu;simp only [List.mem_cons,List.not_mem_nil,or_false] at hu;subst hu;rfl) (by have:=HOL.out;omega) (by simp only [alloc_size];omega) ?_;intro v5 w5 o5 g5 cl5)
      have R5:Hid (w5.ownsRow w.heap.size 3 1 v5 (out ++ [y]).length ((out ++ [y]).map (Value.int .i64)) /\ (∀ g,v5.ownBlock = some g -> Cl noU w5 g) /\ Below w.heap.size w w5):=⟨by rw [List.length_append,List.map_append];exact o5,cl5,(HOW.out.2.2.alloc HOW.out.2.2.size _).trans (g5.below (fun k hk=>(World.ownsRow.lt HOW.out.1 k hk).1) (by simp only [alloc_size];omega))⟩
      have HM5:Hid ((out ++ [y]) ++ mg (xs.drop i) (ys.drop (k + 1)) = mg xs ys):=by
       have h:=HM.out
       rw [mg_gt (by rw [HLN.out.2];exact hk) (.inr ⟨by rw [HLN.out.1];exact hi,by rw [HXX.out,HYY.out];omega⟩),HYY.out] at h
       rw [List.append_assoc]
       exact h
      clear o5 g5 cl5 HC2 HOW HO1
      go_wp2_with fail
      go_roundg q
      case measure=>omega
      case rel=>exact ⟨i,(k + 1),out ++ [y],by go_num,by go_num,by omega,by omega,by omega,R5,HM5⟩
     ·skip
      have e4:decide (x < y) = false:=decide_eq_false (by omega)
      have e5:decide (y < x) = false:=decide_eq_false (by omega)
      go_upto_region 8 with fail
      have bX:Below wr.heap.size wr wr.drew:=(Below.refl _ _).drew
      refine wp_region_noPanic ?_
      refine wp_region_held_drew (S:=(fun V=>Below wr.heap.size wr V)) (by kernel_rfl) bX (fun _=>?_)
      refine tzI 30 0 ?_ ?_ bX ?_
      rotate_left
      ·intro w' hSw;have s1:=cell_later CX.out hSw;have s2:=cell_later CY.out hSw;go_simp;try with_reducible rfl
      try simp only [pA,pE,pB,pC,pD]
      refine tzI 31 1 ?_ ?_ bX ?_
      rotate_left
      ·intro w' hSw;have s1:=cell_later CX.out hSw;have s2:=cell_later CY.out hSw;go_simp;try with_reducible rfl
      try simp only [pA,pE,pB,pC,pD]
      refine tzI 32 2 ?_ ?_ bX ?_
      rotate_left
      ·intro w' hSw;have s1:=cell_later CX.out hSw;have s2:=cell_later CY.out hSw;go_simp;try with_reducible rfl
      try simp only [pA,pE,pB,pC,pD]
      refine tzI 33 3 ?_ ?_ bX ?_
      rotate_left
      ·intro w' hSw;have s1:=cell_later CX.out hSw;have s2:=cell_later CY.out hSw;go_simp;try with_reducible rfl
      try simp only [pA,pE,pB,pC,pD]
      refine tzI 34 4 ?_ ?_ bX ?_
      rotate_left
      ·intro w' hSw;have s1:=cell_later CX.out hSw;have s2:=cell_later CY.out hSw;go_simp;try with_reducible rfl
      try simp only [pA,pE,pB,pC,pD]
      refine tzI 35 5 ?_ ?_ bX ?_
      rotate_left
      ·intro w' hSw;have s1:=cell_later CX.out hSw;have s2:=cell_later CY.out hSw;go_simp;try with_reducible rfl
      try simp only [pA,pE,pB,pC,pD]
      refine tzI 36 6 ?_ ?_ bX ?_
      rotate_left
      ·intro w' hSw;have s1:=cell_later CX.out hSw;have s2:=cell_later CY.out hSw;go_simp;try with_reducible rfl
      try simp only [pA,pE,pB,pC,pD]
      refine tzI 37 7 ?_ ?_ bX ?_
      rotate_left
      ·intro w' hSw;have s1:=cell_later CX.out hSw;have s2:=cell_later CY.out hSw;go_simp;try with_reducible rfl
      try simp only [pA,pE,pB,pC,pD]
      refine tzI 38 8 ?_ ?_ bX ?_
      rotate_left
      ·intro w' hSw;have s1:=cell_later CX.out hSw;have s2:=cell_later CY.out hSw;go_simp;try with_reducible rfl
      try simp only [pA,pE,pB,pC,pD]
      refine tzI 39 9 ?_ ?_ bX ?_
      rotate_left
      ·intro w' hSw;have s1:=cell_later CX.out hSw;have s2:=cell_later CY.out hSw;go_simp;try with_reducible rfl
      try simp only [pA,pE,pB,pC,pD]
      refine tzI 40 10 ?_ ?_ bX ?_
      rotate_left
      ·intro w' hSw;have s1:=cell_later CX.out hSw;have s2:=cell_later CY.out hSw;go_simp;try with_reducible rfl
      try simp only [pA,pE,pB,pC,pD]
      refine tzI 41 11 ?_ ?_ bX ?_
      rotate_left
      ·intro w' hSw;have s1:=cell_later CX.out hSw;have s2:=cell_later CY.out hSw;go_simp;try with_reducible rfl
      try simp only [pA,pE,pB,pC,pD]
      refine tzI 42 12 ?_ ?_ bX ?_
      rotate_left
      ·intro w' hSw;have s1:=cell_later CX.out hSw;have s2:=cell_later CY.out hSw;go_simp;try with_reducible rfl
      try simp only [pA,pE,pB,pC,pD]
      refine tzI 43 13 ?_ ?_ bX ?_
      rotate_left
      ·intro w' hSw;have s1:=cell_later CX.out hSw;have s2:=cell_later CY.out hSw;go_simp;try with_reducible rfl
      try simp only [pA,pE,pB,pC,pD]
      refine tzI 44 14 ?_ ?_ bX ?_
      rotate_left
      ·intro w' hSw;have s1:=cell_later CX.out hSw;have s2:=cell_later CY.out hSw;go_simp;try with_reducible rfl
      try simp only [pA,pE,pB,pC,pD]
      refine tzI 45 15 ?_ ?_ bX ?_
      rotate_left
      ·intro w' hSw;have s1:=cell_later CX.out hSw;have s2:=cell_later CY.out hSw;go_simp;try with_reducible rfl
      try simp only [pA,pE,pB,pC,pD]
      refine tzI 46 16 ?_ ?_ bX ?_
      rotate_left
      ·intro w' hSw;have s1:=cell_later CX.out hSw;have s2:=cell_later CY.out hSw;go_simp;try with_reducible rfl
      try simp only [pA,pE,pB,pC,pD]
      refine tzI 47 17 ?_ ?_ bX ?_
      rotate_left
      ·intro w' hSw;have s1:=cell_later CX.out hSw;have s2:=cell_later CY.out hSw;go_simp;try with_reducible rfl
      try simp only [pA,pE,pB,pC,pD]
      refine tzI 48 18 ?_ ?_ bX ?_
      rotate_left
      ·intro w' hSw;have s1:=cell_later CX.out hSw;have s2:=cell_later CY.out hSw;go_simp;try with_reducible rfl
      try simp only [pA,pE,pB,pC,pD]
      refine tzI 49 19 ?_ ?_ bX ?_
      rotate_left
      ·intro w' hSw;have s1:=cell_later CX.out hSw;have s2:=cell_later CY.out hSw;go_simp;try with_reducible rfl
      try simp only [pA,pE,pB,pC,pD]
      refine tzI 50 20 ?_ ?_ bX ?_
      rotate_left
      ·intro w' hSw;have s1:=cell_later CX.out hSw;have s2:=cell_later CY.out hSw;go_simp;try with_reducible rfl
      try simp only [pA,pE,pB,pC,pD]
      refine tzI 29 21 ?_ ?_ bX ?_
      rotate_left
      ·intro w' hSw;have s1:=cell_later CX.out hSw;have s2:=cell_later CY.out hSw;go_simp;try with_reducible rfl
      try simp only [pA,pE,pB,pC,pD]
      refine wpAnyH_done (by kernel_rfl) ?_ _
      refine NoPanic.normal ?_
      try simp only [pA,pE,pB,pC,pD]
      have HO1:Hid (wr.drew.ownsRow w.heap.size 3 1 u5 out.length (out.map (Value.int .i64)) /\ (∀ g,u5.ownBlock = some g -> Cl noU wr.drew g) /\ Below w.heap.size w wr.drew):=⟨HO1.out.1,HO1.out.2.1,HO1.out.2.2.drew⟩
      have CX:Hid (wr.drew.cell? ⟨ab,aoff + i,none⟩ = some (.int .i64 x)):=CX.out
      have CY:Hid (wr.drew.cell? ⟨bb,boff + k,none⟩ = some (.int .i64 y)):=CY.out
      obtain ⟨W1,hW1⟩:∃ W1,wr.drew = W1:=⟨_,rfl⟩
      rw [hW1] at HO1 ⊢
      rw [hW1] at CX
      rw [hW1] at CY
      clear hW1 bX
      go_upto_region 11 with fail
      have bX:Below W1.heap.size W1 W1.drew:=(Below.refl _ _).drew
      refine wp_region_noPanic ?_
      refine wp_region_held_drew (S:=(fun V=>Below W1.heap.size W1 V)) (by kernel_rfl) bX (fun _=>?_)
      refine tzI 61 0 ?_ ?_ bX ?_
      rotate_left
      ·intro w' hSw;have s1:=cell_later CX.out hSw;have s2:=cell_later CY.out hSw;go_simp;try with_reducible rfl
      try simp only [pA,pE,pB,pC,pD]
      refine tzI 62 1 ?_ ?_ bX ?_
      rotate_left
      ·intro w' hSw;have s1:=cell_later CX.out hSw;have s2:=cell_later CY.out hSw;go_simp;try with_reducible rfl
      try simp only [pA,pE,pB,pC,pD]
      refine tzI 63 2 ?_ ?_ bX ?_
      rotate_left
      ·intro w' hSw;have s1:=cell_later CX.out hSw;have s2:=cell_later CY.out hSw;go_simp;try with_reducible rfl
      try simp only [pA,pE,pB,pC,pD]
      refine tzI 64 3 ?_ ?_ bX ?_
      rotate_left
      ·intro w' hSw;have s1:=cell_later CX.out hSw;have s2:=cell_later CY.out hSw;go_simp;try with_reducible rfl
      try simp only [pA,pE,pB,pC,pD]
      refine tzI 65 4 ?_ ?_ bX ?_
      rotate_left
      ·intro w' hSw;have s1:=cell_later CX.out hSw;have s2:=cell_later CY.out hSw;go_simp;try with_reducible rfl
      try simp only [pA,pE,pB,pC,pD]
      refine tzI 66 5 ?_ ?_ bX ?_
      rotate_left
      ·intro w' hSw;have s1:=cell_later CX.out hSw;have s2:=cell_later CY.out hSw;go_simp;try with_reducible rfl
      try simp only [pA,pE,pB,pC,pD]
      refine tzI 67 6 ?_ ?_ bX ?_
      rotate_left
      ·intro w' hSw;have s1:=cell_later CX.out hSw;have s2:=cell_later CY.out hSw;go_simp;try with_reducible rfl
      try simp only [pA,pE,pB,pC,pD]
      refine tzI 68 7 ?_ ?_ bX ?_
      rotate_left
      ·intro w' hSw;have s1:=cell_later CX.out hSw;have s2:=cell_later CY.out hSw;go_simp;try with_reducible rfl
      try simp only [pA,pE,pB,pC,pD]
      refine tzI 69 8 ?_ ?_ bX ?_
      rotate_left
      ·intro w' hSw;have s1:=cell_later CX.out hSw;have s2:=cell_later CY.out hSw;go_simp;try with_reducible rfl
      try simp only [pA,pE,pB,pC,pD]
      refine tzI 70 9 ?_ ?_ bX ?_
      rotate_left
      ·intro w' hSw;have s1:=cell_later CX.out hSw;have s2:=cell_later CY.out hSw;go_simp;try with_reducible rfl
      try simp only [pA,pE,pB,pC,pD]
      refine tzI 71 10 ?_ ?_ bX ?_
      rotate_left
      ·intro w' hSw;have s1:=cell_later CX.out hSw;have s2:=cell_later CY.out hSw;go_simp;try with_reducible rfl
      try simp only [pA,pE,pB,pC,pD]
      refine tzI 72 11 ?_ ?_ bX ?_
      rotate_left
      ·intro w' hSw;have s1:=cell_later CX.out hSw;have s2:=cell_later CY.out hSw;go_simp;try with_reducible rfl
      try simp only [pA,pE,pB,pC,pD]
      refine tzI 73 12 ?_ ?_ bX ?_
      rotate_left
      ·intro w' hSw;have s1:=cell_later CX.out hSw;have s2:=cell_later CY.out hSw;go_simp;try with_reducible rfl
      try simp only [pA,pE,pB,pC,pD]
      refine tzI 74 13 ?_ ?_ bX ?_
      rotate_left
      ·intro w' hSw;have s1:=cell_later CX.out hSw;have s2:=cell_later CY.out hSw;go_simp;try with_reducible rfl
      try simp only [pA,pE,pB,pC,pD]
      refine tzI 75 14 ?_ ?_ bX ?_
      rotate_left
      ·intro w' hSw;have s1:=cell_later CX.out hSw;have s2:=cell_later CY.out hSw;go_simp;try with_reducible rfl
      try simp only [pA,pE,pB,pC,pD]
      refine tzI 60 15 ?_ ?_ bX ?_
      rotate_left
      ·intro w' hSw;have s1:=cell_later CX.out hSw;have s2:=cell_later CY.out hSw;go_simp;try with_reducible rfl
      try simp only [pA,pE,pB,pC,pD]
      refine wpAnyH_done (by kernel_rfl) ?_ _
      refine NoPanic.normal ?_
      try simp only [pA,pE,pB,pC,pD]
      have HO1:Hid (W1.drew.ownsRow w.heap.size 3 1 u5 out.length (out.map (Value.int .i64)) /\ (∀ g,u5.ownBlock = some g -> Cl noU W1.drew g) /\ Below w.heap.size w W1.drew):=⟨HO1.out.1,HO1.out.2.1,HO1.out.2.2.drew⟩
      have CX:Hid (W1.drew.cell? ⟨ab,aoff + i,none⟩ = some (.int .i64 x)):=CX.out
      have CY:Hid (W1.drew.cell? ⟨bb,boff + k,none⟩ = some (.int .i64 y)):=CY.out
      obtain ⟨W2,hW2⟩:∃ W2,W1.drew = W2:=⟨_,rfl⟩
      rw [hW2] at HO1 ⊢
      rw [hW2] at CX
      rw [hW2] at CY
      clear hW2 bX
      have gx:=CX.out
      clear CX CY
      have HOW:Hid (W2.ownsRow w.heap.size 3 1 u5 out.length (out.map (Value.int .i64)) /\ (∀ g,u5.ownBlock = some g -> Cl noU W2 g) /\ Below w.heap.size w W2):=HO1.out
      have HC2:Hid (∀ g,u5.ownBlock = some g -> Cl noU (W2.alloc (.cells #[.int .i64 x] 3)) g):=fun g hg=>(HOW.out.2.1 g hg).later ((Below.refl _ W2).alloc (Nat.le_refl _) _)
      have hws:=HOW.out.2.2.size
      go_wp2_with (at_builtin;refine append_clJ noU Tryz.underlying23 Tryz.infoIJ rfl (by decide) (by decide) (by intro v hv;have hv':v ∈ (#[.int .i64 0]:Array Value):=hv;simp only [List.mem_toArray,List.mem_cons,List.not_mem_nil,or_false] at hv';subst hv';rfl) _ (by rfl) _ _ (by rfl) w.heap.size _ out.length _ (by rfl) (World.ownsRow.alloc HOW.out.1 _) HC2.out ⟨W2.heap.size,0,none⟩ 1 1 [.int .i64 x] (by rfl) (by decide) rfl (news_oneJ (heap_alloc_new W2 _)) (oneI _ rfl) (by intro u hu;simp only [List.mem_cons,List.not_mem_nil,or_false] at hu;subst hu;rfl) (by have:=HOL.out;omega) (by simp only [alloc_size];omega) ?_;intro v5 w5 o5 g5 cl5)
      have R5:Hid (w5.ownsRow w.heap.size 3 1 v5 (out ++ [x]).length ((out ++ [x]).map (Value.int .i64)) /\ (∀ g,v5.ownBlock = some g -> Cl noU w5 g) /\ Below w.heap.size w w5):=⟨by rw [List.length_append,List.map_append];exact o5,cl5,(HOW.out.2.2.alloc HOW.out.2.2.size _).trans (g5.below (fun k hk=>(World.ownsRow.lt HOW.out.1 k hk).1) (by simp only [alloc_size];omega))⟩
      have HM5:Hid ((out ++ [x]) ++ mg (xs.drop (i + 1)) (ys.drop (k + 1)) = mg xs ys):=by
       have h:=HM.out
       rw [mg_eq (by rw [HLN.out.1];exact hi) (by rw [HLN.out.2];exact hk) (by rw [HXX.out,HYY.out];omega),HXX.out] at h
       rw [List.append_assoc]
       exact h
      clear o5 g5 cl5 HC2 HOW HO1
      go_wp2_with fail
      go_roundg q
      case measure=>omega
      case rel=>exact ⟨(i + 1),(k + 1),out ++ [x],by go_num,by go_num,by omega,by omega,by omega,R5,HM5⟩
   ·obtain ⟨q,rfl⟩:∃ q,gk = q + 1:=⟨gk - 1,by omega⟩
    obtain ⟨ab,aoff,hao,hxc⟩:∃ ab aoff,ao = some ⟨ab,aoff,none⟩ /\ wr.cell? ⟨ab,aoff + i,none⟩ = some (.int .i64 (xs[i]?.getD 0)):=by
     rcases (HR.out wr HOB.out).1.cells with h0 | ⟨b,off,e,hc⟩
     ·omega
     ·exact ⟨b,off,e,hc i hi⟩
    obtain ⟨x,hx⟩:∃ x,xs[i]?.getD 0 = x:=⟨_,rfl⟩
    rw [hx] at hxc
    have HXX:Hid (xs[i]?.getD 0 = x):=hx
    subst hao
    have CX:Hid (wr.cell? ⟨ab,aoff + i,none⟩ = some (.int .i64 x)):=hxc
    clear hx hxc
    have e1:(((k:Nat):Int) == ((lb:Nat):Int)) = true:=by simp;omega
    have hi2:(i:Int) < (la:Int):=by omega
    go_upto_region 8 with fail
    have bX:Below wr.heap.size wr wr.drew:=(Below.refl _ _).drew
    refine wp_region_noPanic ?_
    refine wp_region_held_drew (S:=(fun V=>Below wr.heap.size wr V)) (by kernel_rfl) bX (fun _=>?_)
    refine tzI 30 0 ?_ ?_ bX ?_
    rotate_left
    ·intro w' hSw;skip;go_simp;try with_reducible rfl
    try simp only [pA,pE,pB,pC,pD]
    refine tzI 31 1 ?_ ?_ bX ?_
    rotate_left
    ·intro w' hSw;skip;go_simp;try with_reducible rfl
    try simp only [pA,pE,pB,pC,pD]
    refine tzI 32 2 ?_ ?_ bX ?_
    rotate_left
    ·intro w' hSw;skip;go_simp;try with_reducible rfl
    try simp only [pA,pE,pB,pC,pD]
    refine tzI 33 3 ?_ ?_ bX ?_
    rotate_left
    ·intro w' hSw;skip;go_simp;try with_reducible rfl
    try simp only [pA,pE,pB,pC,pD]
    refine tzI 34 4 ?_ ?_ bX ?_
    rotate_left
    ·intro w' hSw;skip;go_simp;try with_reducible rfl
    try simp only [pA,pE,pB,pC,pD]
    refine tzH 35 5 (undef) (Or.inr ⟨by kernel_rfl,rfl⟩) bX ?_
    try simp only [pA,pE,pB,pC,pD]
    refine tzH 36 6 (undef) (Or.inr ⟨by kernel_rfl,rfl⟩) bX ?_
    try simp only [pA,pE,pB,pC,pD]
    refine tzH 37 7 (undef) (Or.inr ⟨by kernel_rfl,rfl⟩) bX ?_
    try simp only [pA,pE,pB,pC,pD]
    refine tzH 38 8 (undef) (Or.inr ⟨by kernel_rfl,rfl⟩) bX ?_
    try simp only [pA,pE,pB,pC,pD]
    refine tzH 39 9 (undef) (Or.inr ⟨by kernel_rfl,rfl⟩) bX ?_
    try simp only [pA,pE,pB,pC,pD]
    refine tzH 40 10 (undef) (Or.inr ⟨by kernel_rfl,rfl⟩) bX ?_
    try simp only [pA,pE,pB,pC,pD]
    refine tzH 41 11 (undef) (Or.inr ⟨by kernel_rfl,rfl⟩) bX ?_
    try simp only [pA,pE,pB,pC,pD]
    refine tzH 42 12 (undef) (Or.inr ⟨by kernel_rfl,rfl⟩) bX ?_
    try simp only [pA,pE,pB,pC,pD]
    refine tzH 43 13 (undef) (Or.inr ⟨by kernel_rfl,rfl⟩) bX ?_
    try simp only [pA,pE,pB,pC,pD]
    refine tzH 44 14 (undef) (Or.inr ⟨by kernel_rfl,rfl⟩) bX ?_
    try simp only [pA,pE,pB,pC,pD]
    refine tzH 45 15 (undef) (Or.inr ⟨by kernel_rfl,rfl⟩) bX ?_
    try simp only [pA,pE,pB,pC,pD]
    refine tzH 46 16 (undef) (Or.inr ⟨by kernel_rfl,rfl⟩) bX ?_
    try simp only [pA,pE,pB,pC,pD]
    refine tzH 47 17 (undef) (Or.inr ⟨by kernel_rfl,rfl⟩) bX ?_
    try simp only [pA,pE,pB,pC,pD]
    refine tzH 48 18 (undef) (Or.inr ⟨by kernel_rfl,rfl⟩) bX ?_
    try simp only [pA,pE,pB,pC,pD]
    refine tzH 49 19 (undef) (Or.inr ⟨by kernel_rfl,rfl⟩) bX ?_
    try simp only [pA,pE,pB,pC,pD]
    refine tzI 50 20 ?_ ?_ bX ?_
    rotate_left
    ·intro w' hSw;skip;go_simp;try with_reducible rfl
    try simp only [pA,pE,pB,pC,pD]
    refine tzI 29 21 ?_ ?_ bX ?_
    rotate_left
    ·intro w' hSw;skip;go_simp;try with_reducible rfl
    try simp only [pA,pE,pB,pC,pD]
    refine wpAnyH_done (by kernel_rfl) ?_ _
    refine NoPanic.normal ?_
    try simp only [pA,pE,pB,pC,pD]
    have HO1:Hid (wr.drew.ownsRow w.heap.size 3 1 u5 out.length (out.map (Value.int .i64)) /\ (∀ g,u5.ownBlock = some g -> Cl noU wr.drew g) /\ Below w.heap.size w wr.drew):=⟨HO1.out.1,HO1.out.2.1,HO1.out.2.2.drew⟩
    have CX:Hid (wr.drew.cell? ⟨ab,aoff + i,none⟩ = some (.int .i64 x)):=CX.out
    obtain ⟨W1,hW1⟩:∃ W1,wr.drew = W1:=⟨_,rfl⟩
    rw [hW1] at HO1 ⊢
    rw [hW1] at CX
    clear hW1 bX
    have gx:=CX.out
    clear CX
    have HOW:Hid (W1.ownsRow w.heap.size 3 1 u5 out.length (out.map (Value.int .i64)) /\ (∀ g,u5.ownBlock = some g -> Cl noU W1 g) /\ Below w.heap.size w W1):=HO1.out
    have HC2:Hid (∀ g,u5.ownBlock = some g -> Cl noU (W1.alloc (.cells #[.int .i64 x] 3)) g):=fun g hg=>(HOW.out.2.1 g hg).later ((Below.refl _ W1).alloc (Nat.le_refl _) _)
    have hws:=HOW.out.2.2.size
    go_wp2_with (at_builtin;refine append_clJ noU Tryz.underlying23 Tryz.infoIJ rfl (by decide) (by decide) (by intro v hv;have hv':v ∈ (#[.int .i64 0]:Array Value):=hv;simp only [List.mem_toArray,List.mem_cons,List.not_mem_nil,or_false] at hv';subst hv';rfl) _ (by rfl) _ _ (by rfl) w.heap.size _ out.length _ (by rfl) (World.ownsRow.alloc HOW.out.1 _) HC2.out ⟨W1.heap.size,0,none⟩ 1 1 [.int .i64 x] (by rfl) (by decide) rfl (news_oneJ (heap_alloc_new W1 _)) (oneI _ rfl) (by intro u hu;simp only [List.mem_cons,List.not_mem_nil,or_false] at hu;subst hu;rfl) (by have:=HOL.out;omega) (by simp only [alloc_size];omega) ?_;intro v5 w5 o5 g5 cl5)
    have R5:Hid (w5.ownsRow w.heap.size 3 1 v5 (out ++ [x]).length ((out ++ [x]).map (Value.int .i64)) /\ (∀ g,v5.ownBlock = some g -> Cl noU w5 g) /\ Below w.heap.size w w5):=⟨by rw [List.length_append,List.map_append];exact o5,cl5,(HOW.out.2.2.alloc HOW.out.2.2.size _).trans (g5.below (fun k hk=>(World.ownsRow.lt HOW.out.1 k hk).1) (by simp only [alloc_size];omega))⟩
    have HM5:Hid ((out ++ [x]) ++ mg (xs.drop (i + 1)) (ys.drop k) = mg xs ys):=by
     have h:=HM.out
     rw [mg_lt (by rw [HLN.out.1];exact hi) (.inl (by rw [HLN.out.2];omega)),HXX.out] at h
     rw [List.append_assoc]
     exact h
    clear o5 g5 cl5 HC2 HOW HO1
    go_wp2_with fail
    go_roundg q
    case measure=>omega
    case rel=>exact ⟨(i + 1),k,out ++ [x],by go_num,by go_num,by omega,by omega,by omega,R5,HM5⟩
  ·by_cases hk:k < lb
   ·obtain ⟨q,rfl⟩:∃ q,gk = q + 1:=⟨gk - 1,by omega⟩
    obtain ⟨bb,boff,hbo,hyc⟩:∃ bb boff,bo = some ⟨bb,boff,none⟩ /\ wr.cell? ⟨bb,boff + k,none⟩ = some (.int .i64 (ys[k]?.getD 0)):=by
     rcases (HR.out wr HOB.out).2.cells with h0 | ⟨b,off,e,hc⟩
     ·omega
     ·exact ⟨b,off,e,hc k hk⟩
    obtain ⟨y,hy⟩:∃ y,ys[k]?.getD 0 = y:=⟨_,rfl⟩
    rw [hy] at hyc
    have HYY:Hid (ys[k]?.getD 0 = y):=hy
    subst hbo
    have CY:Hid (wr.cell? ⟨bb,boff + k,none⟩ = some (.int .i64 y)):=hyc
    clear hy hyc
    have e1:(((k:Nat):Int) == ((lb:Nat):Int)) = false:=by simp;omega
    have e2:decide (((i:Nat):Int) < ((la:Nat):Int)) = false:=decide_eq_false (by omega)
    have e3:(((i:Nat):Int) == ((la:Nat):Int)) = true:=by simp;omega
    have hk2:(k:Int) < (lb:Int):=by omega
    go_upto_region 8 with fail
    have bX:Below wr.heap.size wr wr.drew:=(Below.refl _ _).drew
    refine wp_region_noPanic ?_
    refine wp_region_held_drew (S:=(fun V=>Below wr.heap.size wr V)) (by kernel_rfl) bX (fun _=>?_)
    refine tzI 30 0 ?_ ?_ bX ?_
    rotate_left
    ·intro w' hSw;skip;go_simp;try with_reducible rfl
    try simp only [pA,pE,pB,pC,pD]
    refine tzI 31 1 ?_ ?_ bX ?_
    rotate_left
    ·intro w' hSw;skip;go_simp;try with_reducible rfl
    try simp only [pA,pE,pB,pC,pD]
    refine tzI 32 2 ?_ ?_ bX ?_
    rotate_left
    ·intro w' hSw;skip;go_simp;try with_reducible rfl
    try simp only [pA,pE,pB,pC,pD]
    refine tzI 33 3 ?_ ?_ bX ?_
    rotate_left
    ·intro w' hSw;skip;go_simp;try with_reducible rfl
    try simp only [pA,pE,pB,pC,pD]
    refine tzI 34 4 ?_ ?_ bX ?_
    rotate_left
    ·intro w' hSw;skip;go_simp;try with_reducible rfl
    try simp only [pA,pE,pB,pC,pD]
    refine tzI 35 5 ?_ ?_ bX ?_
    rotate_left
    ·intro w' hSw;skip;go_simp;try with_reducible rfl
    try simp only [pA,pE,pB,pC,pD]
    refine tzI 36 6 ?_ ?_ bX ?_
    rotate_left
    ·intro w' hSw;skip;go_simp;try with_reducible rfl
    try simp only [pA,pE,pB,pC,pD]
    refine tzI 37 7 ?_ ?_ bX ?_
    rotate_left
    ·intro w' hSw;skip;go_simp;try with_reducible rfl
    try simp only [pA,pE,pB,pC,pD]
    refine tzI 38 8 ?_ ?_ bX ?_
    rotate_left
    ·intro w' hSw;skip;go_simp;try with_reducible rfl
    try simp only [pA,pE,pB,pC,pD]
    refine tzI 39 9 ?_ ?_ bX ?_
    rotate_left
    ·intro w' hSw;skip;go_simp;try with_reducible rfl
    try simp only [pA,pE,pB,pC,pD]
    refine tzH 40 10 (undef) (Or.inr ⟨by kernel_rfl,rfl⟩) bX ?_
    try simp only [pA,pE,pB,pC,pD]
    refine tzH 41 11 (undef) (Or.inr ⟨by kernel_rfl,rfl⟩) bX ?_
    try simp only [pA,pE,pB,pC,pD]
    refine tzH 42 12 (undef) (Or.inr ⟨by kernel_rfl,rfl⟩) bX ?_
    try simp only [pA,pE,pB,pC,pD]
    refine tzH 43 13 (undef) (Or.inr ⟨by kernel_rfl,rfl⟩) bX ?_
    try simp only [pA,pE,pB,pC,pD]
    refine tzH 44 14 (undef) (Or.inr ⟨by kernel_rfl,rfl⟩) bX ?_
    try simp only [pA,pE,pB,pC,pD]
    refine tzH 45 15 (undef) (Or.inr ⟨by kernel_rfl,rfl⟩) bX ?_
    try simp only [pA,pE,pB,pC,pD]
    refine tzH 46 16 (undef) (Or.inr ⟨by kernel_rfl,rfl⟩) bX ?_
    try simp only [pA,pE,pB,pC,pD]
    refine tzH 47 17 (undef) (Or.inr ⟨by kernel_rfl,rfl⟩) bX ?_
    try simp only [pA,pE,pB,pC,pD]
    refine tzH 48 18 (undef) (Or.inr ⟨by kernel_rfl,rfl⟩) bX ?_
    try simp only [pA,pE,pB,pC,pD]
    refine tzI 49 19 ?_ ?_ bX ?_
    rotate_left
    ·intro w' hSw;skip;go_simp;try with_reducible rfl
    try simp only [pA,pE,pB,pC,pD]
    refine tzI 50 20 ?_ ?_ bX ?_
    rotate_left
    ·intro w' hSw;skip;go_simp;try with_reducible rfl
    try simp only [pA,pE,pB,pC,pD]
    refine tzI 29 21 ?_ ?_ bX ?_
    rotate_left
    ·intro w' hSw;skip;go_simp;try with_reducible rfl
    try simp only [pA,pE,pB,pC,pD]
    refine wpAnyH_done (by kernel_rfl) ?_ _
    refine NoPanic.normal ?_
    try simp only [pA,pE,pB,pC,pD]
    have HO1:Hid (wr.drew.ownsRow w.heap.size 3 1 u5 out.length (out.map (Value.int .i64)) /\ (∀ g,u5.ownBlock = some g -> Cl noU wr.drew g) /\ Below w.heap.size w wr.drew):=⟨HO1.out.1,HO1.out.2.1,HO1.out.2.2.drew⟩
    have CY:Hid (wr.drew.cell? ⟨bb,boff + k,none⟩ = some (.int .i64 y)):=CY.out
    obtain ⟨W1,hW1⟩:∃ W1,wr.drew = W1:=⟨_,rfl⟩
    rw [hW1] at HO1 ⊢
    rw [hW1] at CY
    clear hW1 bX
    go_upto_region 11 with fail
    have bX:Below W1.heap.size W1 W1.drew:=(Below.refl _ _).drew
    refine wp_region_noPanic ?_
    refine wp_region_held_drew (S:=(fun V=>Below W1.heap.size W1 V)) (by kernel_rfl) bX (fun _=>?_)
    refine tzI 61 0 ?_ ?_ bX ?_
    rotate_left
    ·intro w' hSw;skip;go_simp;try with_reducible rfl
    try simp only [pA,pE,pB,pC,pD]
    refine tzI 62 1 ?_ ?_ bX ?_
    rotate_left
    ·intro w' hSw;skip;go_simp;try with_reducible rfl
    try simp only [pA,pE,pB,pC,pD]
    refine tzI 63 2 ?_ ?_ bX ?_
    rotate_left
    ·intro w' hSw;skip;go_simp;try with_reducible rfl
    try simp only [pA,pE,pB,pC,pD]
    refine tzI 64 3 ?_ ?_ bX ?_
    rotate_left
    ·intro w' hSw;skip;go_simp;try with_reducible rfl
    try simp only [pA,pE,pB,pC,pD]
    refine tzI 65 4 ?_ ?_ bX ?_
    rotate_left
    ·intro w' hSw;skip;go_simp;try with_reducible rfl
    try simp only [pA,pE,pB,pC,pD]
    refine tzH 66 5 (undef) (Or.inr ⟨by kernel_rfl,rfl⟩) bX ?_
    try simp only [pA,pE,pB,pC,pD]
    refine tzH 67 6 (undef) (Or.inr ⟨by kernel_rfl,rfl⟩) bX ?_
    try simp only [pA,pE,pB,pC,pD]
    refine tzH 68 7 (undef) (Or.inr ⟨by kernel_rfl,rfl⟩) bX ?_
    try simp only [pA,pE,pB,pC,pD]
    refine tzH 69 8 (undef) (Or.inr ⟨by kernel_rfl,rfl⟩) bX ?_
    try simp only [pA,pE,pB,pC,pD]
    refine tzH 70 9 (undef) (Or.inr ⟨by kernel_rfl,rfl⟩) bX ?_
    try simp only [pA,pE,pB,pC,pD]
    refine tzH 71 10 (undef) (Or.inr ⟨by kernel_rfl,rfl⟩) bX ?_
    try simp only [pA,pE,pB,pC,pD]
    refine tzH 72 11 (undef) (Or.inr ⟨by kernel_rfl,rfl⟩) bX ?_
    try simp only [pA,pE,pB,pC,pD]
    refine tzH 73 12 (undef) (Or.inr ⟨by kernel_rfl,rfl⟩) bX ?_
    try simp only [pA,pE,pB,pC,pD]
    refine tzH 74 13 (undef) (Or.inr ⟨by kernel_rfl,rfl⟩) bX ?_
    try simp only [pA,pE,pB,pC,pD]
    refine tzI 75 14 ?_ ?_ bX ?_
    rotate_left
    ·intro w' hSw;skip;go_simp;try with_reducible rfl
    try simp only [pA,pE,pB,pC,pD]
    refine tzI 60 15 ?_ ?_ bX ?_
    rotate_left
    ·intro w' hSw;skip;go_simp;try with_reducible rfl
    try simp only [pA,pE,pB,pC,pD]
    refine wpAnyH_done (by kernel_rfl) ?_ _
    refine NoPanic.normal ?_
    try simp only [pA,pE,pB,pC,pD]
    have HO1:Hid (W1.drew.ownsRow w.heap.size 3 1 u5 out.length (out.map (Value.int .i64)) /\ (∀ g,u5.ownBlock = some g -> Cl noU W1.drew g) /\ Below w.heap.size w W1.drew):=⟨HO1.out.1,HO1.out.2.1,HO1.out.2.2.drew⟩
    have CY:Hid (W1.drew.cell? ⟨bb,boff + k,none⟩ = some (.int .i64 y)):=CY.out
    obtain ⟨W2,hW2⟩:∃ W2,W1.drew = W2:=⟨_,rfl⟩
    rw [hW2] at HO1 ⊢
    rw [hW2] at CY
    clear hW2 bX
    have gy:=CY.out
    clear CY
    have HOW:Hid (W2.ownsRow w.heap.size 3 1 u5 out.length (out.map (Value.int .i64)) /\ (∀ g,u5.ownBlock = some g -> Cl noU W2 g) /\ Below w.heap.size w W2):=HO1.out
    have HC2:Hid (∀ g,u5.ownBlock = some g -> Cl noU (W2.alloc (.cells #[.int .i64 y] 3)) g):=fun g hg=>(HOW.out.2.1 g hg).later ((Below.refl _ W2).alloc (Nat.le_refl _) _)
    have hws:=HOW.out.2.2.size
    go_wp2_with (at_builtin;refine append_clJ noU Tryz.underlying23 Tryz.infoIJ rfl (by decide) (by decide) (by intro v hv;have hv':v ∈ (#[.int .i64 0]:Array Value):=hv;simp only [List.mem_toArray,List.mem_cons,List.not_mem_nil,or_false] at hv';subst hv';rfl) _ (by rfl) _ _ (by rfl) w.heap.size _ out.length _ (by rfl) (World.ownsRow.alloc HOW.out.1 _) HC2.out ⟨W2.heap.size,0,none⟩ 1 1 [.int .i64 y] (by rfl) (by decide) rfl (news_oneJ (heap_alloc_new W2 _)) (oneI _ rfl) (by intro u hu;simp only [List.mem_cons,List.not_mem_nil,or_false] at hu;subst hu;rfl) (by have:=HOL.out;omega) (by simp only [alloc_size];omega) ?_;intro v5 w5 o5 g5 cl5)
    have R5:Hid (w5.ownsRow w.heap.size 3 1 v5 (out ++ [y]).length ((out ++ [y]).map (Value.int .i64)) /\ (∀ g,v5.ownBlock = some g -> Cl noU w5 g) /\ Below w.heap.size w w5):=⟨by rw [List.length_append,List.map_append];exact o5,cl5,(HOW.out.2.2.alloc HOW.out.2.2.size _).trans (g5.below (fun k hk=>(World.ownsRow.lt HOW.out.1 k hk).1) (by simp only [alloc_size];omega))⟩
    have HM5:Hid ((out ++ [y]) ++ mg (xs.drop i) (ys.drop (k + 1)) = mg xs ys):=by
     have h:=HM.out
     rw [mg_gt (by rw [HLN.out.2];exact hk) (.inl (by rw [HLN.out.1];omega)),HYY.out] at h
     rw [List.append_assoc]
     exact h
    clear o5 g5 cl5 HC2 HOW HO1
    go_wp2_with fail
    go_roundg q
    case measure=>omega
    case rel=>exact ⟨i,(k + 1),out ++ [y],by go_num,by go_num,by omega,by omega,by omega,R5,HM5⟩
   ·have e1:decide ((i:Int) < (la:Int)) = false:=decide_eq_false (by omega)
    have e2:decide ((k:Int) < (lb:Int)) = false:=decide_eq_false (by omega)
    have HF:Hid (out = mg xs ys):=by
     have h:=HM.out
     rw [List.drop_eq_nil_of_le (by rw [HLN.out.1];omega),List.drop_eq_nil_of_le (by rw [HLN.out.2];omega),mg_nil,List.append_nil] at h
     exact h
    go_wp2_with fail
    go_ret
    exact ⟨_,rfl,by rw [<- HF.out];exact HO1.out.1,HO1.out.2.1,HO1.out.2.2⟩
end Go.Proofs.YtgialbaeekkkhaaGreat
namespace Go.Proofs.YtgialbaeekkkhaaGreat
open Go.ChangeShapes Go.WideShapes Go.ChangeAt Go.RowKit Go.Joins Go.Deep
section
variable {H:Type} {enc:TypeId × Value -> H} {P:Program} {w:World} {base:Nat} {spare:Nat -> Bool} {held:Bool}
theorem trodJ_float {t:TypeId} {k:FloatKind} {fuel:Nat} {cs:List Value} {x:DataW H × List MemPlace} (ht:P.underlying t = some (.float k)) (h:DataW.trod enc P w base spare held fuel t cs = some x):∃ n,cs = [.float k n] /\ (Lit.float k n).wf = true:=by
 cases fuel with
 | zero=>simp [DataW.trod] at h
 | succ n=>
  unfold DataW.trod at h
  rw [ht] at h
  split at h <;> simp_all
theorem trodJ_bool {t:TypeId} {fuel:Nat} {cs:List Value} {x:DataW H × List MemPlace} (ht:P.underlying t = some .bool) (h:DataW.trod enc P w base spare held fuel t cs = some x):∃ b,cs = [.bool b]:=by
 cases fuel with
 | zero=>simp [DataW.trod] at h
 | succ n=>
  unfold DataW.trod at h
  rw [ht] at h
  split at h <;> simp_all
end
theorem bulkJ_one {H:Type} (d:DataW H):1 <= Rows.uptoBulk d:=by
 cases d with
 | lit l=>cases l <;> simp [Rows.uptoBulk]
 | nil=>simp [Rows.uptoBulk]
 | ptr d=>simp [Rows.uptoBulk]
 | slice elems spare=>simp [Rows.uptoBulk]
 | agg parts=>simp [Rows.uptoBulk]
 | iface t d=>simp [Rows.uptoBulk]
 | map entries=>simp [Rows.uptoBulk]
 | held h=>simp [Rows.uptoBulk]
theorem bulkJ_len {H:Type} (l:List (DataW H)):l.length <= Rows.uptoBulkAll l:=by
 induction l with
 | nil=>simp [Rows.uptoBulkAll]
 | cons x r ih=>have:=bulkJ_one x;simp only [Rows.uptoBulkAll,List.length_cons];omega
theorem bulkJ_mem {H:Type} (l:List (DataW H)) {d:DataW H} (h:d ∈ l):Rows.uptoBulk d <= Rows.uptoBulkAll l:=by
 induction l with
 | nil=>cases h
 | cons x r ih=>
  simp only [Rows.uptoBulkAll]
  rcases List.mem_cons.1 h with rfl | h
  ·omega
  ·have:=ih h;omega
theorem bulkJ_slice {H:Type} (l s:List (DataW H)):l.length <= Rows.uptoBulk (.slice l s) /\ ∀ d ∈ l,Rows.uptoBulk d <= Rows.uptoBulk (.slice l s):=by
 rw [Rows.uptoBulk]
 refine ⟨by have:=bulkJ_len l;omega,fun d hd=>by have:=bulkJ_mem l hd;omega⟩
theorem bulkJ_agg {H:Type} (l:List (DataW H)):∀ d ∈ l,Rows.uptoBulk d <= Rows.uptoBulk (.agg l):=by
 rw [Rows.uptoBulk]
 exact fun d hd=>by have:=bulkJ_mem l hd;omega
def flOfJ:Value -> Nat
 | .float _ u=>u
 | _=>0
def inOfJ:Value -> Int
 | .int _ u=>u
 | _=>0
theorem floatsJ_open {P:Program} {H:Type} {enc:TypeId × Value -> H} {W:World} {T E:TypeId} {fuel:Nat} {cs:List Value} {x:DataW H × List MemPlace}
  (hT:P.underlying T = some (.slice E)) (hE:P.underlying E = some (.float .f64)) (hc:P.cellsOf E = 1) (h:DataW.trod enc P W 0 (fun _=>true) true fuel T cs = some x) :
  ∃ ao len cap us,cs = [.slice ao len cap] /\ RdF W ao len cap us /\ (ao = none -> len = 0 /\ cap = 0) /\ len <= Rows.uptoBulk x.1:=by
 rcases open_slice1 hT hc h with ⟨hcs,_⟩ | ⟨a,len,cap,m,n,V,D,Pl,hcs,_,hl,hm,hmm,hxx,hx⟩
 ·exact ⟨none,0,0,[],hcs,⟨rfl,Nat.zero_le _,(fun _ h=>by cases h),.inl rfl⟩,fun _=>⟨rfl,rfl⟩,Nat.zero_le _⟩
 ·simp only [if_true] at hmm
  subst hmm
  have hv:∀ i,i < m -> ∃ u,V i = .float .f64 u /\ u < 18446744073709551616:=by
   intro i hi
   obtain ⟨u,hu,hw⟩:=trodJ_float hE (hx i hi).2
   simp only [List.cons.injEq,and_true] at hu
   exact ⟨u,hu,by simpa [Lit.wf] using hw⟩
  have hbk:len <= Rows.uptoBulk x.1:=by
   rw [hxx]
   have:=(bulkJ_slice ((List.range len).map D) ((List.range (m - len)).map fun j=>D (len + j))).1
   rw [List.length_map,List.length_range] at this
   exact this
  refine ⟨some a,len,m,(List.range len).map fun i=>flOfJ (V i),hcs,⟨by simp,Nat.le_trans hl hm,?_,?_⟩,(fun h=>by cases h),hbk⟩
  ·intro u hu
   simp only [List.mem_map,List.mem_range] at hu
   obtain ⟨i,hi,rfl⟩:=hu
   obtain ⟨y,hy,hlt⟩:=hv i (by omega)
   rw [hy];exact hlt
  ·by_cases h0:len = 0
   ·exact .inl h0
   ·right
    obtain ⟨b,off,spot⟩:=a
    have hspot:spot = none:=by simpa [Addr.add] using World.cell?_spot (hx 0 (by omega)).1
    subst hspot
    refine ⟨b,off,rfl,fun j hj=>?_⟩
    have g:=(hx j (by omega)).1
    obtain ⟨y,hy,_⟩:=hv j (by omega)
    rw [Addr.add_lit,hy] at g
    rw [g]
    simp [hj,hy,flOfJ]
theorem intsJ_open {P:Program} {H:Type} {enc:TypeId × Value -> H} {W:World} {T E:TypeId} {fuel:Nat} {cs:List Value} {x:DataW H × List MemPlace}
  (hT:P.underlying T = some (.slice E)) (hE:P.underlying E = some (.int .i64)) (hc:P.cellsOf E = 1) (h:DataW.trod enc P W 0 (fun _=>true) true fuel T cs = some x) :
  ∃ ao len cap is,cs = [.slice ao len cap] /\ RdIs W ao len cap is /\ (ao = none -> len = 0 /\ cap = 0) /\ len <= Rows.uptoBulk x.1:=by
 rcases open_slice1 hT hc h with ⟨hcs,_⟩ | ⟨a,len,cap,m,n,V,D,Pl,hcs,_,hl,hm,hmm,hxx,hx⟩
 ·exact ⟨none,0,0,[],hcs,⟨rfl,Nat.zero_le _,.inl rfl⟩,fun _=>⟨rfl,rfl⟩,Nat.zero_le _⟩
 ·simp only [if_true] at hmm
  subst hmm
  have hv:∀ i,i < m -> ∃ u,V i = .int .i64 u:=by
   intro i hi
   obtain ⟨u,hu,_,_⟩:=DataW.trod_int hE (hx i hi).2
   simp only [List.cons.injEq,and_true] at hu
   exact ⟨u,hu⟩
  have hbk:len <= Rows.uptoBulk x.1:=by
   rw [hxx]
   have:=(bulkJ_slice ((List.range len).map D) ((List.range (m - len)).map fun j=>D (len + j))).1
   rw [List.length_map,List.length_range] at this
   exact this
  refine ⟨some a,len,m,(List.range len).map fun i=>inOfJ (V i),hcs,⟨by simp,Nat.le_trans hl hm,?_⟩,(fun h=>by cases h),hbk⟩
  by_cases h0:len = 0
  ·exact .inl h0
  ·right
   obtain ⟨b,off,spot⟩:=a
   have hspot:spot = none:=by simpa [Addr.add] using World.cell?_spot (hx 0 (by omega)).1
   subst hspot
   refine ⟨b,off,rfl,fun j hj=>?_⟩
   have g:=(hx j (by omega)).1
   obtain ⟨y,hy⟩:=hv j (by omega)
   rw [Addr.add_lit,hy] at g
   rw [g]
   simp [hj,hy,inOfJ]
theorem rowsJ_open {P:Program} {H:Type} {enc:TypeId × Value -> H} {W:World} {T E Q:TypeId} {fuel:Nat} {cs:List Value} {x:DataW H × List MemPlace}
  (hT:P.underlying T = some (.slice E)) (hE:P.underlying E = some (.slice Q)) (hQ:P.underlying Q = some (.float .f64)) (hc:P.cellsOf E = 1) (hq:P.cellsOf Q = 1) (h:DataW.trod enc P W 0 (fun _=>true) true fuel T cs = some x) :
  ∃ ao len cap gv gs,cs = [.slice ao len cap] /\ RdGs W ao len cap gv gs /\ len <= Rows.uptoBulk x.1 /\ (∀ k,k < len -> ((gv k).1 = none -> (gv k).2.1 = 0 /\ (gv k).2.2 = 0) /\ (gv k).2.1 <= Rows.uptoBulk x.1):=by
 rcases open_slice1 hT hc h with ⟨hcs,_⟩ | ⟨a,len,cap,m,n,V,D,Pl,hcs,_,hl,hm,hmm,hxx,hx⟩
 ·exact ⟨none,0,0,fun _=>(none,0,0),[],hcs,⟨rfl,Nat.zero_le _,.inl rfl,fun j hj=>absurd hj (Nat.not_lt_zero _)⟩,Nat.zero_le _,fun k hk=>absurd hk (Nat.not_lt_zero _)⟩
 ·simp only [if_true] at hmm
  subst hmm
  have hv:∀ i:Nat,∃ q:(Option Addr × Nat × Nat) × List Nat,i < m -> V i = .slice q.1.1 q.1.2.1 q.1.2.2 /\ RdF W q.1.1 q.1.2.1 q.1.2.2 q.2 /\ (q.1.1 = none -> q.1.2.1 = 0 /\ q.1.2.2 = 0) /\ q.1.2.1 <= Rows.uptoBulk (D i):=by
   intro i
   by_cases hi:i < m
   ·obtain ⟨ao,l,c,us,hu,r1,r2,r3⟩:=floatsJ_open hE hQ hq (hx i hi).2
    simp only [List.cons.injEq,and_true] at hu
    exact ⟨((ao,l,c),us),fun _=>⟨hu,r1,r2,r3⟩⟩
   ·exact ⟨((none,0,0),[]),fun h=>absurd h hi⟩
  obtain ⟨F,hF⟩:=Classical.axiomOfChoice hv
  have hb:=bulkJ_slice ((List.range len).map D) ((List.range (m - len)).map fun j=>D (len + j))
  have hbk:len <= Rows.uptoBulk x.1:=by
   rw [hxx]
   have:=hb.1
   rw [List.length_map,List.length_range] at this
   exact this
  refine ⟨some a,len,m,fun i=>(F i).1,(List.range len).map fun i=>(F i).2,hcs,⟨by simp,Nat.le_trans hl hm,?_,fun j hj=>?_⟩,hbk,fun k hk=>?_⟩
  ·by_cases h0:len = 0
   ·exact .inl h0
   ·right
    obtain ⟨b,off,spot⟩:=a
    have hspot:spot = none:=by simpa [Addr.add] using World.cell?_spot (hx 0 (by omega)).1
    subst hspot
    refine ⟨b,off,rfl,fun j hj=>?_⟩
    have g:=(hx j (by omega)).1
    rw [Addr.add_lit,(hF j (by omega)).1] at g
    exact g
  ·have e:((List.range len).map fun i=>(F i).2)[j]?.getD [] = (F j).2:=by simp [hj]
   rw [e]
   exact (hF j (by omega)).2.1
  ·obtain ⟨_,_,h3,h4⟩:=hF k (by omega)
   refine ⟨h3,Nat.le_trans h4 ?_⟩
   rw [hxx]
   exact hb.2 _ (List.mem_map.2 ⟨k,List.mem_range.2 hk,rfl⟩)
theorem array6 {α:Type} {cs:Array α} (h:cs.size = 6):∃ c0 c1 c2 c3 c4 c5,cs = #[c0,c1,c2,c3,c4,c5]:=by
 obtain ⟨l⟩:=cs
 match l,h with
 | [c0,c1,c2,c3,c4,c5],_=>exact ⟨c0,c1,c2,c3,c4,c5,rfl⟩
theorem agg6 {P:Program} {H:Type} {enc:TypeId × Value -> H} {W:World} {base b0:Nat} {r:Reach} {spare:Nat -> Bool} {held:Bool} {t:TypeId} {f0 f1 f2 f3 f4 f5:Field} {v:Value} {d:DataW H} {p:List MemPlace}
  (hs:P.underlying t = some (.struct #[f0,f1,f2,f3,f4,f5])) (hone:oneCellFields P #[f0,f1,f2,f3,f4,f5] = true) (hC:P.cellsOf t = 6) (hv:Value.okWide P W r b0 t v) (h:DataW.Trod enc P W base spare held t v d p) :
  ∃ (v0 v1 v2 v3 v4 v5:Value) (y0 y1 y2 y3 y4 y5:DataW H × List MemPlace) (n:Nat),v = .agg #[v0,v1,v2,v3,v4,v5] /\ (∀ y ∈ [y0,y1,y2,y3,y4,y5],Rows.uptoBulk y.1 <= Rows.uptoBulk d) ∧
   DataW.trod enc P W base spare held n f0.type [v0] = some y0 /\ DataW.trod enc P W base spare held n f1.type [v1] = some y1 /\ DataW.trod enc P W base spare held n f2.type [v2] = some y2 /\ DataW.trod enc P W base spare held n f3.type [v3] = some y3 /\ DataW.trod enc P W base spare held n f4.type [v4] = some y4 /\ DataW.trod enc P W base spare held n f5.type [v5] = some y5:=by
 obtain ⟨cs,rfl,hsz⟩:=okWide_struct hs hv
 obtain ⟨c0,c1,c2,c3,c4,c5,rfl⟩:=array6 (hsz.trans hC)
 obtain ⟨fuel,hf⟩:=h
 obtain ⟨xs,n,_,hx,hl,hlen,hff⟩:=DataW.trod_struct hs hf
 simp only [Prod.mk.injEq] at hx
 obtain ⟨o0,k0⟩:=hone_of hone 0 f0 rfl
 obtain ⟨o1,k1⟩:=hone_of hone 1 f1 rfl
 obtain ⟨o2,k2⟩:=hone_of hone 2 f2 rfl
 obtain ⟨o3,k3⟩:=hone_of hone 3 f3 rfl
 obtain ⟨o4,k4⟩:=hone_of hone 4 f4 rfl
 obtain ⟨o5,k5⟩:=hone_of hone 5 f5 rfl
 match xs,hlen with
 | [y0,y1,y2,y3,y4,y5],_=>
  exact ⟨c0,c1,c2,c3,c4,c5,y0,y1,y2,y3,y4,y5,n,rfl,fun y hy=>by rw [hx.1];exact bulkJ_agg _ _ (List.mem_map.2 ⟨y,hy,rfl⟩),by simpa [Value.cells,o0,k0] using hff 0 f0 rfl,by simpa [Value.cells,o1,k1] using hff 1 f1 rfl,by simpa [Value.cells,o2,k2] using hff 2 f2 rfl,by simpa [Value.cells,o3,k3] using hff 3 f3 rfl,by simpa [Value.cells,o4,k4] using hff 4 f4 rfl,by simpa [Value.cells,o5,k5] using hff 5 f5 rfl⟩
theorem zono_openD {H:Type} {enc:TypeId × Value -> H} {W:World} {b0:Nat} {v:Value} {d:DataW H} {p:List MemPlace}
  (hv:Value.okWide Tryz.prog W .any b0 26 v) (h:DataW.Trod enc Tryz.prog W 0 (fun _=>true) true 26 v d p) (hk:Rows.uptoBulk d <= 1048576) :
  ∃ z:ZD,v = .agg (zRow z) /\ ZR W z /\ ZW z /\ z.dn <= 1048576:=by
 obtain ⟨v0,v1,v2,v3,v4,v5,y0,y1,y2,y3,y4,y5,m,rfl,hb,g0,g1,g2,g3,g4,g5⟩:=agg6 Tryz.underlying26 (by kernel_rfl) (by kernel_rfl) hv h
 obtain ⟨N,e0,_,_⟩:=DataW.trod_int Tryz.underlying3 g0
 obtain ⟨co,cn,cc,cs,e1,r1,s1,t1⟩:=floatsJ_open Tryz.underlying22 Tryz.underlying41 (by kernel_rfl) g1
 obtain ⟨io,dn,dc,ids,e2,r2,s2,t2⟩:=intsJ_open Tryz.underlying23 Tryz.underlying3 (by kernel_rfl) g2
 obtain ⟨go,gn,gc,gv,gs,e3,r3,s3,t3⟩:=rowsJ_open Tryz.underlying24 Tryz.underlying22 Tryz.underlying41 (by kernel_rfl) (by kernel_rfl) g3
 obtain ⟨ro,rn,rc,rs,e4,r4,s4,t4⟩:=floatsJ_open Tryz.underlying22 Tryz.underlying41 (by kernel_rfl) g4
 obtain ⟨bad,e5⟩:=trodJ_bool Tryz.underlying4 g5
 simp only [List.cons.injEq,and_true] at e0 e1 e2 e3 e4 e5
 subst e0 e1 e2 e3 e4 e5
 have b1:=hb y1 (by simp)
 have b2:=hb y2 (by simp)
 have b3:=hb y3 (by simp)
 have b4:=hb y4 (by simp)
 exact ⟨⟨N,co,cn,cc,io,dn,dc,go,gn,gc,ro,rn,rc,bad,cs,ids,gv,gs,rs⟩,rfl,⟨r1,r2,r3,r4⟩,⟨s1,s2,s4,fun k hk'=>(t3 k hk').1,by dsimp only;omega,by dsimp only;omega,by dsimp only;omega,by dsimp only;omega,fun k hk'=>by have:=(t3 k hk').2;dsimp only;omega⟩,by dsimp only;omega⟩
end Go.Proofs.YtgialbaeekkkhaaGreat
