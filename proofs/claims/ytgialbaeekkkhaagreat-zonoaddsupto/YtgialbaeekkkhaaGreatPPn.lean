import Derived.Test.YtgialbaeekkkhaaGreatPPm
set_option maxRecDepth 100000
set_option maxHeartbeats 20000000
set_option linter.unusedVariables false
set_option linter.unusedSimpArgs false
namespace Go.Proofs.YtgialbaeekkkhaaGreat
open Go.RowKit Go.Shelf
def fnL (n:Nat) (f:Nat -> Int):List Int:=(List.range n).map f
theorem fnL_len (n:Nat) (f:Nat -> Int):(fnL n f).length = n:=by unfold fnL;simp
theorem fnL_at {n j:Nat} (f:Nat -> Int) (h:j < n):(fnL n f)[j]?.getD 0 = f j:=by unfold fnL;simp [h]
theorem fnL_el {n j:Nat} {f:Nat -> Int} (h:j < (fnL n f).length):(fnL n f)[j] = f j:=by
 have h1:=fnL_at f (show j < n by rwa [fnL_len] at h)
 rw [List.getElem?_eq_getElem h] at h1
 exact h1
theorem fnL_congr {n:Nat} {f g:Nat -> Int} (h:∀ j,j < n -> f j = g j):fnL n f = fnL n g:=by
 unfold fnL
 exact List.map_congr_left fun j hj=>h j (List.mem_range.1 hj)
theorem fnL_of {n:Nat} {zs:List Int} (h:zs.length = n):zs = fnL n fun j=>zs[j]?.getD 0:=by
 subst h
 apply List.ext_getElem
 ·rw [fnL_len]
 ·intro i h1 h2
  rw [fnL_el h2,List.getElem?_eq_getElem h1]
  rfl
theorem fnL_set {n i:Nat} (f:Nat -> Int) (x:Int):(fnL n f).set i x = fnL n fun j=>if j = i then x else f j:=by
 apply List.ext_getElem
 ·rw [List.length_set,fnL_len,fnL_len]
 ·intro j h1 h2
  rw [fnL_el h2,List.getElem_set]
  by_cases e:i = j
  ·rw [if_pos e,if_pos e.symm]
  ·rw [if_neg e,if_neg (fun h=>e h.symm),fnL_el]
def lostD (zs:List Int) (us:List Nat) (j:Nat):Int:=(((zs[j]?.getD 0) - fval (us[j]?.getD 0)).natAbs:Int)
def addF (zs:List Int) (us:List Nat) (i:Nat) (f:Nat -> Int):Nat -> Int:=fun j=>if j < i then f j + lostD zs us j else f j
theorem addF_step {zs:List Int} {us:List Nat} {i n u:Nat} (f:Nat -> Int) (hu:us.length = i):(fnL n (addF zs us i f)).set i (f i + (((zs[i]?.getD 0) - fval u).natAbs:Int)) = fnL n (addF zs (us ++ [u]) (i + 1) f):=by
 rw [fnL_set]
 refine fnL_congr fun j hj=>?_
 unfold addF lostD
 by_cases e:j = i
 ·subst e
  rw [if_pos rfl,if_pos (by omega),List.getElem?_append_right (by omega),hu,Nat.sub_self]
  rfl
 ·rw [if_neg e]
  by_cases h:j < i
  ·rw [if_pos h,if_pos (by omega),List.getElem?_append_left (by omega)]
  ·rw [if_neg h,if_neg (by omega)]
structure NeD (zs:List Int) (us:List Nat) (k:Nat):Prop where
 len:us.length = k
 lt:∀ u ∈ us,u < 18446744073709551616
 is:∀ j,j < k -> RndZ 0 (zs[j]?.getD 0) 1 (us[j]?.getD 0,true)
theorem NeD.snoc {zs:List Int} {us:List Nat} {k u:Nat} (h:NeD zs us k) (hu:RndZ 0 (zs[k]?.getD 0) 1 (u,true)):NeD zs (us ++ [u]) (k + 1):=by
 refine ⟨by rw [List.length_append,h.len];rfl,fun x hx=>?_,fun j hj=>?_⟩
 ·rcases List.mem_append.1 hx with hx | hx
  ·exact h.lt x hx
  ·rw [List.mem_singleton.1 hx];exact (rz_canon hu).2.1
 ·by_cases e:j < k
  ·rw [List.getElem?_append_left (by rw [h.len];exact e)];exact h.is j e
  ·have ej:j = k:=by omega
   subst ej
   rw [List.getElem?_append_right (by rw [h.len];exact Nat.le_refl _),h.len,Nat.sub_self]
   exact hu
def osD (n:Nat) (f:Nat -> Int) (PL:List (List Int × List Nat)):Nat -> Int:=PL.foldl (fun f p=>addF p.1 p.2 n f) f
theorem osD_snoc (n:Nat) (f:Nat -> Int) (PL:List (List Int × List Nat)) (p:List Int × List Nat):osD n f (PL ++ [p]) = addF p.1 p.2 n (osD n f PL):=by unfold osD;rw [List.foldl_append];rfl
structure CoD (gz:List (List Int)) (n:Nat) (UL:List (List Nat)) (k:Nat):Prop where
 len:UL.length = k
 is:∀ j,j < k -> NeD (gz[j]?.getD []) (UL[j]?.getD []) n
def LdNo (zc zr:List Int) (gz:List (List Int)) (n m:Nat):Prop:=(∃ j x,j < n /\ RndZ 0 (zc[j]?.getD 0) 1 (x,false)) \/ (∃ k j x,k < m /\ j < n /\ RndZ 0 ((gz[k]?.getD [])[j]?.getD 0) 1 (x,false)) ∨
 (∃ us UL j x,NeD zc us n /\ CoD gz n UL m /\ j < n /\ RndZ 1 (osD n (addF zc us n fun j=>zr[j]?.getD 0) (gz.zip UL) j) 1 (x,false))
structure LdPost (zc zr:List Int) (L:List Int) (gz:List (List Int)) (n base:Nat) (w':World) (c:Array Value) (ok:Bool):Prop where
 sz:c.size = 6
 one:c.all (·.oneCell') = true
 yes:ok = true -> ∃ vc vi vg vr gl us UL rs,c = #[.int .i64 (n:Int),vc,vi,vg,vr,.bool false] /\ OfL w' base us rs ((kpP L UL).map (·.1)) ((kpP L UL).map (·.2)) vc vr vi vg gl /\ NeD zc us n /\ CoD gz n UL L.length /\ rs.length = n /\ ∀ j,j < n -> RndZ 1 (osD n (addF zc us n fun j=>zr[j]?.getD 0) (gz.zip UL) j) 1 (rs[j]?.getD 0,true)
 no:ok = false -> LdNo zc zr gz n L.length
theorem LdPost.mk_no {zc zr L:List Int} {gz:List (List Int)} {n base:Nat} {w':World} (h:LdNo zc zr gz n L.length):LdPost zc zr L gz n base w' #[.int .i64 0,.slice none 0 0,.slice none 0 0,.slice none 0 0,.slice none 0 0,.bool false] false:=⟨rfl,oneZ _ _ _ _ _ rfl rfl rfl rfl _,(fun c=>by cases c),fun _=>h⟩
def LdAns (zc zr:List Int) (L:List Int) (gz:List (List Int)) (n base:Nat) (e:Ending) (w':World):Prop:=∃ (c:Array Value) (ok:Bool),e = .returned (.tuple #[.agg c,.bool ok]) /\ LdPost zc zr L gz n base w' c ok
structure LdI (w:World) (n gS cS E:Nat) (W:World) (us:List Nat) (ids:List Int) (cols:List (List Nat)) (zs:List Int) (vc vi vg:Value) (gl:List Value):Prop where
 r:W.heap[w.heap.size]? = some (.cells #[.int .i64 0,.slice none 0 0,.slice none 0 0,.slice none 0 0,.slice none 0 0,.bool false] 30)
 z:W.heap[w.heap.size + 1]? = some (.cells #[.int .i64 (n:Int),vc,vi,vg,.slice none 0 0,.bool false] 30)
 s:RowZ W w.heap.size (.slice (some ⟨gS,0,none⟩) n cS) E 1050 zs
 o:OfL W (w.heap.size + 2) us [] ids cols vc (.slice none 0 0) vi vg gl
 b:Below w.heap.size w W
theorem LdI.later {w W W':World} {n gS cS E:Nat} {us:List Nat} {ids:List Int} {cols:List (List Nat)} {zs:List Int} {vc vi vg:Value} {gl:List Value} (h:LdI w n gS cS E W us ids cols zs vc vi vg gl) (hb:Below W.heap.size W W'):LdI w n gS cS E W' us ids cols zs vc vi vg gl:=
 ⟨kept hb h.r,kept hb h.z,h.s.later hb,h.o.later hb,to_call h.b hb⟩
theorem RowZ.grwT {w w':World} {base b s size m:Nat} {T:Int} {v v0 v0':Value} {zs:List Int} {xs0:List Value} {E':TypeId} (h:RowZ w base v s T zs) (hv:w.ownsRow b E' size v0 m xs0) (ht:56 ≠ E') (hg:Grw w w' v0.ownBlock v0'.ownBlock) (hcl:∀ g,v0.ownBlock = some g -> Cl noU w g):RowZ w' base v s T zs:=by
 obtain ⟨xs,h1,h2⟩:=h.own
 refine ⟨⟨xs,owns_keepT h1 fun k cur=>grw_types hv hg k cur _ ht,fun j hj=>by obtain ⟨n,o,l,c,e,a1,a2,a3,a4⟩:=h2 j hj;exact ⟨n,o,l,c,e,a1,a2,a3,a4.grw hg hcl⟩⟩,fun g hgv=>?_⟩
 obtain ⟨cur,hcu⟩:=owns_type h1 hgv
 obtain ⟨cur2,t2,q1,q2⟩:=h.cl g hgv
 rw [hcu] at q1
 injection q1 with q1
 injection q1 with q1 q3
 subst q1
 exact ⟨cur,56,(grw_types hv hg g cur _ ht hcu).trans hcu,q2⟩
theorem RowZ.boxed {w W:World} {base s B:Nat} {T:Int} {v:Value} {zs:List Int} (h:RowZ w base v s T zs) (hB:Cl noU w B) (hne:∀ g,v.ownBlock = some g -> g ≠ B) (ho:∀ k,k ≠ B -> W.heap[k]? = w.heap[k]?):RowZ W base v s T zs:=by
 obtain ⟨xs,h1,h2⟩:=h.own
 refine ⟨⟨xs,owns_keep h1 fun k hk=>ho k (hne k hk),fun j hj=>by obtain ⟨n,o,l,c,e,a1,a2,a3,a4⟩:=h2 j hj;exact ⟨n,o,l,c,e,a1,a2,a3,a4.cl hB fun b hb _=>ho b hb⟩⟩,fun g hgv=>?_⟩
 obtain ⟨cur,t,q1,q2⟩:=h.cl g hgv
 exact ⟨cur,t,(ho g (hne g hgv)).trans q1,q2⟩
theorem NumC.bd {w:World} {v:Value} {s:Nat} {T z:Int} (h:NumC w v s T z) {X:Nat} (hX:(X:Int) = s + T):z.natAbs < 2 ^ X:=by
 obtain ⟨neg,m,e,h1,h2,h3,h4,h5⟩:=h
 rw [<- h4,zv_abs]
 refine Nat.lt_of_lt_of_le (Nat.mul_lt_mul_of_pos_right (lt_bl m) (Nat.two_pow_pos _)) ?_
 rw [<- Nat.pow_add]
 exact Nat.pow_le_pow_right (by decide) (by omega)
theorem sum_bd {x y:Int} {c Y:Nat} (hx:x.natAbs <= c * 2 ^ Y) (hy:y.natAbs <= 2 ^ Y):(x + y).natAbs <= (c + 1) * 2 ^ Y:=by
 have:=Int.natAbs_add_le x y
 rw [Nat.succ_mul]
 omega
theorem NumC.sum_tight {w:World} {v:Value} {E c Y:Nat} {z:Int} (h:NumC w v E 1051 z) (hY:Y = E + 1026) (hz:z.natAbs <= c * 2 ^ Y) (hc:c <= 4000000):NumC w v E 1050 z:=by
 refine h.tight (by omega) (X:=Y + 24) (by omega) (Nat.lt_of_le_of_lt hz ?_)
 rw [Nat.pow_add,Nat.mul_comm]
 exact Nat.mul_lt_mul_of_pos_left (Nat.lt_of_le_of_lt hc (by decide)) (Nat.two_pow_pos _)
theorem OfL.keepN {w W:World} {base:Nat} {cs rs:List Nat} {ids:List Int} {gs:List (List Nat)} {vc vr vi vg:Value} {gl:List Value} (h:OfL w base cs rs ids gs vc vr vi vg gl) (hk:∀ (k:Nat) (cur:Array Value) (t:TypeId),t ≠ 56 -> w.heap[k]? = some (.cells cur t) -> W.heap[k]? = w.heap[k]?):OfL W base cs rs ids gs vc vr vi vg gl:=
 ⟨owns_keepT h.c fun k cur=>hk k cur _ (by decide),owns_keepT h.r fun k cur=>hk k cur _ (by decide),owns_keepT h.i fun k cur=>hk k cur _ (by decide),owns_keepT h.g fun k cur=>hk k cur _ (by decide),h.len,fun j u hj=>owns_keepT (h.col j u hj) fun k cur=>hk k cur _ (by decide)⟩
theorem LdI.boxedC {w W W':World} {n gS cS E bC:Nat} {us:List Nat} {ids:List Int} {cols:List (List Nat)} {zs:List Int} {vc vi vg:Value} {gl:List Value} (h:LdI w n gS cS E W us ids cols zs vc vi vg gl) (hB:Cl noU W bC) (hD:w.heap.size + 1 < bC) (hgs:gS ≠ bC) (hlt:∀ v g,(v = vc \/ v = vi \/ v = vg \/ ∃ j:Nat,gl[j]? = some v) -> v.ownBlock = some g -> g < bC) (hk:∀ k,k ≠ bC -> W'.heap[k]? = W.heap[k]?) (hb:Below w.heap.size w W'):LdI w n gS cS E W' us ids cols zs vc vi vg gl:=by
 have kp:∀ {Et:TypeId} {sz m b:Nat} {v:Value} {xs:List Value},(v = vc \/ v = vi \/ v = vg \/ ∃ j:Nat,gl[j]? = some v) -> W.ownsRow b Et sz v m xs -> W'.ownsRow b Et sz v m xs:=fun hv hx=>owns_keep hx fun k hk'=>hk k (Nat.ne_of_lt (hlt _ k hv hk'))
 exact ⟨(hk _ (by omega)).trans h.r,(hk _ (by omega)).trans h.z,h.s.boxed hB (fun g e=>by cases e;exact hgs) hk,⟨kp (.inl rfl) h.o.c,World.ownsRow_nil _ _ _ _,kp (.inr (.inl rfl)) h.o.i,kp (.inr (.inr (.inl rfl))) h.o.g,h.o.len,fun j u hj=>kp (.inr (.inr (.inr ⟨j,hj⟩))) (h.o.col j u hj)⟩,hb⟩
theorem LdI.lt {w W:World} {n gS cS E:Nat} {us:List Nat} {ids:List Int} {cols:List (List Nat)} {zs:List Int} {vc vi vg:Value} {gl:List Value} (h:LdI w n gS cS E W us ids cols zs vc vi vg gl):∀ v g,(v = vc \/ v = vi \/ v = vg \/ ∃ j:Nat,gl[j]? = some v) -> v.ownBlock = some g -> g < W.heap.size:=by
 rintro v g (rfl | rfl | rfl | ⟨j,hj⟩) hg
 ·exact (World.ownsRow.lt h.o.c g hg).2
 ·exact (World.ownsRow.lt h.o.i g hg).2
 ·exact (World.ownsRow.lt h.o.g g hg).2
 ·exact (World.ownsRow.lt (h.o.col j _ hj) g hg).2
theorem uJ_cl {w:World} {B:Nat} {us:List Nat} (h:w.heap[B]? = some (.cells (uJ us).toArray 79)):Cl noU w B:=by
 refine ⟨_,_,h,fun i v hv=>?_⟩
 rw [List.getElem?_toArray] at hv
 unfold uJ at hv
 rw [List.getElem?_map] at hv
 cases hu:us[i]? with
 | none=>rw [hu] at hv;cases hv
 | some x=>rw [hu] at hv;cases hv;rfl
theorem u0N_eq (n:Nat):u0N n = (uJ (List.replicate n 0)).toArray:=by
 unfold u0N uJ madeCells
 apply Array.ext
 ·simp
 ·intro i h1 h2
  simp [Nat.mod_one]
theorem col_set {us:List Nat} {n i u:Nat} (hl:us.length = i) (hi:i < n):((uJ (us ++ List.replicate (n - i) 0)).take i ++ [Value.int .u64 (u:Int)] ++ (uJ (us ++ List.replicate (n - i) 0)).drop (i + 1)).toArray = (uJ (us ++ [u] ++ List.replicate (n - (i + 1)) 0)).toArray:=by
 subst hl
 unfold uJ
 rw [show n - us.length = (n - (us.length + 1)) + 1 by omega,List.replicate_succ]
 simp [List.map_append,List.take_append,List.drop_append]
def nzU (u:Nat):Bool:=((u:Int) != 0)
theorem nz_same {V:Int} {D u:Nat} {b:Bool} (h:RndZ 0 V D (u,b)):nzU u = nzB u:=by
 obtain ⟨hf,hl,hc⟩:=rz_canon h
 unfold nzU nzB
 dsimp only at hf hl hc
 have h1:srung u = 0 ↔ u = 0:=by
  constructor
  ·intro h0
   unfold Canon at hc
   rw [h0] at hc
   exact hc.trans (by decide)
  ·intro h0
   subst h0
   decide
 by_cases h2:u = 0
 ·rw [decide_eq_true (h1.2 h2),h2];rfl
 ·rw [decide_eq_false (fun c=>h2 (h1.1 c))]
  simp [h2]
theorem NeD.any {zs:List Int} {vs:List Nat} {n:Nat} (h:NeD zs vs n):vs.any nzU = vs.any nzB:=by
 rw [Bool.eq_iff_iff,List.any_eq_true,List.any_eq_true]
 have h2:∀ u ∈ vs,nzU u = nzB u:=fun u hu=>by
  obtain ⟨j,hj,rfl⟩:=List.mem_iff_getElem.1 hu
  have h1:=h.is j (by rw [<- h.len];exact hj)
  rw [List.getElem?_eq_getElem hj] at h1
  exact nz_same h1
 exact ⟨fun ⟨u,hu,e⟩=>⟨u,hu,(h2 u hu) ▸ e⟩,fun ⟨u,hu,e⟩=>⟨u,hu,(h2 u hu).symm ▸ e⟩⟩
theorem CoD.snoc {gz:List (List Int)} {n k:Nat} {UL:List (List Nat)} {vs:List Nat} (h:CoD gz n UL k) (hv:NeD (gz[k]?.getD []) vs n):CoD gz n (UL ++ [vs]) (k + 1):=by
 refine ⟨by rw [List.length_append,h.len];rfl,fun j hj=>?_⟩
 by_cases e:j < k
 ·rw [List.getElem?_append_left (by rw [h.len];exact e)];exact h.is j e
 ·have ej:j = k:=by omega
  subst ej
  rw [List.getElem?_append_right (by rw [h.len];exact Nat.le_refl _),h.len,Nat.sub_self]
  exact hv
theorem lost_bd {zs:List Int} {us:List Nat} {i u Q:Nat} (hl:us.length = i) (h:∀ j,j < i -> (lostD zs us j).natAbs <= Q) (hu:((((zs[i]?.getD 0) - fval u).natAbs:Nat):Int).natAbs <= Q):∀ j,j < i + 1 -> (lostD zs (us ++ [u]) j).natAbs <= Q:=by
 intro j hj
 unfold lostD
 by_cases e:j < i
 ·rw [List.getElem?_append_left (by omega)];exact h j e
 ·have ej:j = i:=by omega
  subst ej
  rw [List.getElem?_append_right (by omega),hl,Nat.sub_self]
  exact hu
theorem LdI.setS {w W W':World} {n gS cS E i:Nat} {us:List Nat} {ids:List Int} {cols:List (List Nat)} {zs:List Int} {vc vi vg:Value} {gl:List Value} {n1:Bool} {o1:Option Addr} {l1 c1:Nat} {e1 x:Int} {cur:Array Value} (h:LdI w n gS cS E W us ids cols zs vc vi vg gl) (hzl:zs.length = n) (hi:i < n) (hz:NumC W (.agg #[.bool n1,.slice o1 l1 c1,.int .i64 e1]) E 1050 x) (hc:W.heap[gS]? = some (.cells cur 56)) (hW:W'.heap[gS]? = some (.cells (cur.toList.take (i * 3) ++ [Value.bool n1,Value.slice o1 l1 c1,Value.int .i64 e1] ++ cur.toList.drop (i * 3 + 3)).toArray 56)) (ho:∀ k,k ≠ gS -> W'.heap[k]? = W.heap[k]?) (hgS:w.heap.size + 1 < gS) (hb:Below w.heap.size w W'):LdI w n gS cS E W' us ids cols (zs.set i x) vc vi vg gl:=by
 subst hzl
 exact ⟨(ho _ (by omega)).trans h.r,(ho _ (by omega)).trans h.z,h.s.stored hi hz hc hW ho,h.o.keepN fun k cur t ht hk=>ho k (by rintro rfl;rw [hc] at hk;cases hk;exact ht rfl),hb⟩
theorem range_later {w w':World} {b o:Nat} {cs:List Value} (h:w.rangeAt b o cs) (hb:Below w.heap.size w w'):w'.rangeAt b o cs:=fun j v hv=>(hb.cell (World.block_lt_of_cell? _ _ (h j v hv))).trans (h j v hv)
theorem zeroI_noU:∀ v ∈ (Value.int .i64 0).cells,noU v = true:=by
 intro v hv
 have h:v ∈ (#[.int .i64 0]:Array Value):=hv
 simp only [List.mem_toArray,List.mem_cons,List.not_mem_nil,or_false] at h
 subst h
 rfl
theorem oneI_noU (u:Int):∀ v ∈ [Value.int .i64 u],noU v = true:=by
 intro v hv
 simp only [List.mem_cons,List.not_mem_nil,or_false] at hv
 subst hv
 rfl
theorem grw_cell {w w':World} {r r':Option Nat} (hg:Grw w w' r r') {b o:Nat} {v:Value} (hne:r ≠ some b) (hc:w.cell? ⟨b,o,none⟩ = some v):w'.cell? ⟨b,o,none⟩ = some v:=
 (cell_heapJ (hg.by'.block b (World.block_lt_of_cell? w _ hc) (fun e=>hne e.symm)) o).trans hc
theorem zeroS_noU:∀ v ∈ (Value.slice none 0 0).cells,noU v = true:=by
 intro v hv
 have h:v ∈ (#[.slice none 0 0]:Array Value):=hv
 simp only [List.mem_toArray,List.mem_cons,List.not_mem_nil,or_false] at h
 subst h
 rfl
theorem oneS_noU (a:Option Addr) (l c:Nat):∀ v ∈ [Value.slice a l c],noU v = true:=by
 intro v hv
 simp only [List.mem_cons,List.not_mem_nil,or_false] at hv
 subst hv
 rfl
theorem zeroU_noU:∀ v ∈ (Value.int .u64 0).cells,noU v = true:=by
 intro v hv
 have h:v ∈ (#[.int .u64 0]:Array Value):=hv
 simp only [List.mem_toArray,List.mem_cons,List.not_mem_nil,or_false] at h
 subst h
 rfl
theorem oneU_noU (u:Nat):∀ v ∈ [Value.int .u64 (u:Int)],noU v = true:=by
 intro v hv
 simp only [List.mem_cons,List.not_mem_nil,or_false] at hv
 subst hv
 rfl
theorem zb_cl {w:World} {B n:Nat} {va vb vc vd:Value} {t:TypeId} (h:w.heap[B]? = some (.cells #[.int .i64 (n:Int),va,vb,vc,vd,.bool false] t)) (h1:noU va = true) (h2:noU vb = true) (h3:noU vc = true) (h4:noU vd = true):Cl noU w B:=by
 refine ⟨_,_,h,fun i v hv=>?_⟩
 match i,hv with
 | 0,hv=>cases hv;rfl
 | 1,hv=>cases hv;exact h1
 | 2,hv=>cases hv;exact h2
 | 3,hv=>cases hv;exact h3
 | 4,hv=>cases hv;exact h4
 | 5,hv=>cases hv;rfl
 | (j + 6),hv=>simp at hv
theorem OfL.pushC {w w':World} {base:Nat} {us us':List Nat} {ids:List Int} {vc vc' vi vg:Value} (h:OfL w base us [] ids [] vc (.slice none 0 0) vi vg []) (hg:Grw w w' vc.ownBlock vc'.ownBlock) (ho:w'.ownsRow base 79 1 vc' us'.length (uJ us')):OfL w' base us' [] ids [] vc' (.slice none 0 0) vi vg []:=by
 have hk:=grw_types h.c hg
 exact ⟨ho,World.ownsRow_nil _ _ _ _,owns_keepT h.i fun k cur=>hk k cur _ (by decide),owns_keepT h.g fun k cur=>hk k cur _ (by decide),rfl,fun j u hj=>by simp at hj⟩
theorem OfL.boxed {w W:World} {base:Nat} {cs rs:List Nat} {ids:List Int} {gs:List (List Nat)} {vc vr vi vg:Value} {gl:List Value} {B:Nat} (h:OfL w base cs rs ids gs vc vr vi vg gl) (hB:B < base) (ho:∀ k,k ≠ B -> W.heap[k]? = w.heap[k]?):OfL W base cs rs ids gs vc vr vi vg gl:=by
 have kp:∀ {Et:TypeId} {sz m:Nat} {v:Value} {xs:List Value},w.ownsRow base Et sz v m xs -> W.ownsRow base Et sz v m xs:=fun hx=>owns_keep hx fun k hk=>ho k (by have:=(World.ownsRow.lt hx k hk).1;omega)
 exact ⟨kp h.c,kp h.r,kp h.i,kp h.g,h.len,fun j u hj=>kp (h.col j u hj)⟩
theorem LdI.pushC {w W W' W'':World} {n gS cS E u:Nat} {us:List Nat} {zs:List Int} {vc vc':Value} (h:LdI w n gS cS E W us [] [] zs vc (.slice none 0 0) (.slice none 0 0) []) (hcl:∀ g,vc.ownBlock = some g -> Cl noU W g) (hg:Grw W W' vc.ownBlock vc'.ownBlock) (ho:W'.ownsRow (w.heap.size + 2) 79 1 vc' (us ++ [u]).length (uJ (us ++ [u]))) (hs:w.heap.size + 2 <= W.heap.size) (hgS:w.heap.size + 1 < gS)
  (hz:W''.heap[w.heap.size + 1]? = some (.cells #[.int .i64 (n:Int),vc',.slice none 0 0,.slice none 0 0,.slice none 0 0,.bool false] 30)) (hk:∀ k,k ≠ w.heap.size + 1 -> W''.heap[k]? = W'.heap[k]?) (hb:Below w.heap.size w W''):LdI w n gS cS E W'' (us ++ [u]) [] [] zs vc' (.slice none 0 0) (.slice none 0 0) []:=by
 have hty:=grw_types h.o.c hg
 have z':W'.heap[w.heap.size + 1]? = some (.cells #[.int .i64 (n:Int),vc,.slice none 0 0,.slice none 0 0,.slice none 0 0,.bool false] 30):=(hty _ _ _ (by decide) h.z).trans h.z
 have cb:Cl noU W' (w.heap.size + 1):=zb_cl z' (own_noU h.o.c) rfl rfl rfl
 exact ⟨(hk _ (by omega)).trans ((hty _ _ _ (by decide) h.r).trans h.r),hz,(h.s.grwT h.o.c (by decide) hg hcl).boxed cb (fun g e=>by cases e;exact fun h9=>by (have h9:gS = w.heap.size + 1:=h9);omega) hk,(h.o.pushC hg ho).boxed (by omega) hk,hb⟩
theorem LdI.pushI {w W W' W'':World} {n gS cS E:Nat} {us:List Nat} {ids is:List Int} {cols:List (List Nat)} {zs:List Int} {vc vi vi' vg:Value} {gl:List Value} (h:LdI w n gS cS E W us ids cols zs vc vi vg gl) (hcl:∀ g,vi.ownBlock = some g -> Cl noU W g) (hg:Grw W W' vi.ownBlock vi'.ownBlock) (ho:W'.ownsRow (w.heap.size + 2) 3 1 vi' is.length (is.map (Value.int .i64))) (hgS:w.heap.size + 1 < gS)
  (hz:W''.heap[w.heap.size + 1]? = some (.cells #[.int .i64 (n:Int),vc,vi',vg,.slice none 0 0,.bool false] 30)) (hk:∀ k,k ≠ w.heap.size + 1 -> W''.heap[k]? = W'.heap[k]?) (hb:Below w.heap.size w W''):LdI w n gS cS E W'' us is cols zs vc vi' vg gl:=by
 have hty:=grw_types h.o.i hg
 have z':=(hty _ _ _ (by decide) h.z).trans h.z
 have cb:Cl noU W' (w.heap.size + 1):=zb_cl z' (own_noU h.o.c) (own_noU h.o.i) (own_noU h.o.g) rfl
 exact ⟨(hk _ (by omega)).trans ((hty _ _ _ (by decide) h.r).trans h.r),hz,(h.s.grwT h.o.i (by decide) hg hcl).boxed cb (fun g e=>by cases e;exact fun h9=>by (have h9:gS = w.heap.size + 1:=h9);omega) hk,(h.o.pushI hg ho).boxed (by omega) hk,hb⟩
theorem LdI.pushG {w W W' W'':World} {n gS cS E:Nat} {us vs:List Nat} {ids:List Int} {cols:List (List Nat)} {zs:List Int} {vc vi vg vg' v:Value} {gl:List Value} (h:LdI w n gS cS E W us ids cols zs vc vi vg gl) (hcl:∀ g,vg.ownBlock = some g -> Cl noU W g) (hg:Grw W W' vg.ownBlock vg'.ownBlock) (ho:W'.ownsRow (w.heap.size + 2) 27 1 vg' (gl.length + 1) (gl ++ [v])) (hv:W.ownsRow (w.heap.size + 2) 79 1 v vs.length (uJ vs)) (hgS:w.heap.size + 1 < gS)
  (hz:W''.heap[w.heap.size + 1]? = some (.cells #[.int .i64 (n:Int),vc,vi,vg',.slice none 0 0,.bool false] 30)) (hk:∀ k,k ≠ w.heap.size + 1 -> W''.heap[k]? = W'.heap[k]?) (hb:Below w.heap.size w W''):LdI w n gS cS E W'' us ids (cols ++ [vs]) zs vc vi vg' (gl ++ [v]):=by
 have hty:=grw_types h.o.g hg
 have z':=(hty _ _ _ (by decide) h.z).trans h.z
 have cb:Cl noU W' (w.heap.size + 1):=zb_cl z' (own_noU h.o.c) (own_noU h.o.i) (own_noU h.o.g) rfl
 exact ⟨(hk _ (by omega)).trans ((hty _ _ _ (by decide) h.r).trans h.r),hz,(h.s.grwT h.o.g (by decide) hg hcl).boxed cb (fun g e=>by cases e;exact fun h9=>by (have h9:gS = w.heap.size + 1:=h9);omega) hk,(h.o.pushG hg ho hv).boxed (by omega) hk,hb⟩
theorem laid10_any (E n:Nat) (hE:E = 1074) (co io go ro:Option Addr) (cc ic gc rc:Nat) (zc zr:List Int) (L:List Int) (gz:List (List Int)) (w:World) (Bc Bg Br:Nat) (hc:RowZ w Bc (.slice co n cc) E 1025 zc) (hcl:zc.length = n) (hi:RdIs w io L.length ic L) (hg:CoZ w Bg (.slice go L.length gc) E 1025 gz) (hgl:gz.length = L.length) (hge:∀ k,k < L.length -> (gz[k]?.getD []).length = n)
  (hr:RowZ w Br (.slice ro n rc) E 1025 zr) (hrl:zr.length = n) (hn:1 <= n /\ n <= 256) (hL:L.length <= 2100000) :
  Calls Tryz.prog 25 #[.slice co n cc,.slice io L.length ic,.slice go L.length gc,.slice ro n rc] w fun e w'=>LdAns zc zr L gz n w.heap.size e w' /\ Below w.heap.size w w':=by
 have HC:Hid (∀ W,Below w.heap.size w W -> RowZ W Bc (.slice co n cc) E 1025 zc):=fun W h=>hc.later h
 have HI:Hid (∀ W,Below w.heap.size w W -> RdIs W io L.length ic L):=fun W h=>hi.later h
 have HG:Hid (∀ W,Below w.heap.size w W -> CoZ W Bg (.slice go L.length gc) E 1025 gz):=fun W h=>hg.later h
 have HR:Hid (∀ W,Below w.heap.size w W -> RowZ W Br (.slice ro n rc) E 1025 zr):=fun W h=>hr.later h
 clear hc hi hg hr
 go_enter Tryz.func25,Tryz.ntmps25
 go_upto_region 3 with fail
 have X0:Below w.heap.size w ((w.alloc (.cells #[.int .i64 0,.slice none 0 0,.slice none 0 0,.slice none 0 0,.slice none 0 0,.bool false] 30)).alloc (.cells #[.int .i64 (n:Int),.slice none 0 0,.slice none 0 0,.slice none 0 0,.slice none 0 0,.bool false] 30)):=((Below.refl _ w).alloc (Nat.le_refl _) _).alloc (by simp only [alloc_size];omega) _
 have Y0:((w.alloc (.cells #[.int .i64 0,.slice none 0 0,.slice none 0 0,.slice none 0 0,.slice none 0 0,.bool false] 30)).alloc (.cells #[.int .i64 (n:Int),.slice none 0 0,.slice none 0 0,.slice none 0 0,.slice none 0 0,.bool false] 30)).heap[w.heap.size]? = some (.cells #[.int .i64 0,.slice none 0 0,.slice none 0 0,.slice none 0 0,.slice none 0 0,.bool false] 30):=alloc_kept (heap_alloc_new w _) _
 have Y1:((w.alloc (.cells #[.int .i64 0,.slice none 0 0,.slice none 0 0,.slice none 0 0,.slice none 0 0,.bool false] 30)).alloc (.cells #[.int .i64 (n:Int),.slice none 0 0,.slice none 0 0,.slice none 0 0,.slice none 0 0,.bool false] 30)).heap[w.heap.size + 1]? = some (.cells #[.int .i64 (n:Int),.slice none 0 0,.slice none 0 0,.slice none 0 0,.slice none 0 0,.bool false] 30):=heap_at _ _ _ (by simp only [alloc_size])
 have YS:((w.alloc (.cells #[.int .i64 0,.slice none 0 0,.slice none 0 0,.slice none 0 0,.slice none 0 0,.bool false] 30)).alloc (.cells #[.int .i64 (n:Int),.slice none 0 0,.slice none 0 0,.slice none 0 0,.slice none 0 0,.bool false] 30)).heap.size = w.heap.size + 2:=by simp only [alloc_size]
 obtain ⟨X,hX⟩:∃ X,((w.alloc (.cells #[.int .i64 0,.slice none 0 0,.slice none 0 0,.slice none 0 0,.slice none 0 0,.bool false] 30)).alloc (.cells #[.int .i64 (n:Int),.slice none 0 0,.slice none 0 0,.slice none 0 0,.slice none 0 0,.bool false] 30)) = X:=⟨_,rfl⟩
 rw [hX] at X0 Y0 Y1 YS ⊢
 clear hX
 obtain ⟨xs,hx,hj⟩:=(HR.out X X0).own
 rw [hrl] at hx
 have hxl:xs.length = n * 3:=hx.1
 rcases hx.2 with ⟨h0,_⟩ | ⟨gr,cap,cur,h0,hb,hgr,_⟩
 ·injection h0 with _ h0;omega
 injection h0 with h0 h1 h2
 subst h0
 have HXO:Hid (∀ j u,xs[j]? = some u -> (X.alloc (.cells #[] 56)).cell? ((⟨gr,0,none⟩:Addr).add j) = some u):=fun j u hu=>by
  have hjl:j < xs.length:=(List.getElem?_eq_some_iff.1 hu).1
  exact World.ownsRow.cells (World.ownsRow.alloc hx _) rfl j u hu
 have HXT:Hid (∀ u ∈ xs,u.oneCell' = true /\ noU u = true):=fun u hu=>by
  obtain ⟨i,hi,e⟩:=List.mem_iff_getElem.1 hu
  have h3:i / 3 < zr.length:=by omega
  obtain ⟨n1,o1,l1,c1,e1,a1,a2,a3,_⟩:=hj (i / 3) h3
  have hm:u ∈ [Value.bool n1,Value.slice o1 l1 c1,Value.int .i64 e1]:=by
   have hr:=Nat.mod_lt i (show 0 < 3 by decide)
   have hs:=Nat.div_add_mod i 3
   rcases (show i % 3 = 0 \/ i % 3 = 1 \/ i % 3 = 2 by omega) with h | h | h
   ·rw [show i / 3 * 3 = i by omega,List.getElem?_eq_getElem hi,e] at a1;injection a1 with a1;rw [a1];simp
   ·rw [show i / 3 * 3 + 1 = i by omega,List.getElem?_eq_getElem hi,e] at a2;injection a2 with a2;rw [a2];simp
   ·rw [show i / 3 * 3 + 2 = i by omega,List.getElem?_eq_getElem hi,e] at a3;injection a3 with a3;rw [a3];simp
  exact ⟨three_one n1 o1 l1 c1 e1 u hm,three_noU n1 o1 l1 c1 e1 u hm⟩
 have HXJ:Hid _:=hj
 have HRC:Hid _:=hx
 have h8:X.heap.size = w.heap.size + 2:=YS
 have HE0:(X.alloc (.cells #[] 56)).ownsRow (w.heap.size + 2) 56 3 (.slice (some ⟨w.heap.size + 2,0,none⟩) 0 0) 0 []:=by
  have:=World.ownsRow_lit (base:=w.heap.size + 2) (e:=56) (size:=3) X #[] 0 (by omega) (by simp [maxLen]) (by simp)
  rw [h8] at this
  exact this
 have HC0:∀ g,(Value.slice (some ⟨w.heap.size + 2,0,none⟩) 0 0).ownBlock = some g -> Cl noU (X.alloc (.cells #[] 56)) g:=fun g hg=>by
  cases hg
  exact ⟨#[],56,by rw [<- h8];exact heap_alloc_new X _,fun i v hv=>by simp at hv⟩
 clear h1 h2 hgr hx hj
 go_upto_region 4 with (at_builtin;refine append_clJ noU Tryz.underlying47 Tryz.infoNumJ rfl (by decide) (by decide) zero_noU _ (by rfl) _ _ (by rfl) (w.heap.size + 2) _ 0 [] (by rfl) HE0 HC0 ⟨gr,0,none⟩ n rc xs (by rfl) (by omega) hxl HXO.out (fun u hu=>(HXT.out u hu).1) (fun u hu=>(HXT.out u hu).2) (by omega) (by simp only [alloc_size];omega) ?_;intro v5 w5 o5 g5 c5)
 have HS5:Hid (RowZ w5 (w.heap.size + 2) v5 E 1025 zr):=by
  refine RowZ.copied (w:=X.alloc (.cells #[] 56)) (xs:=xs) (v0:=.slice (some ⟨w.heap.size + 2,0,none⟩) 0 0) (fun j hj=>?_) HC0 (by rw [hrl,show n = 0 + n by omega];exact o5) g5 c5
  obtain ⟨n1,o1,l1,c1,e1,a1,a2,a3,a4⟩:=HXJ.out j hj
  exact ⟨n1,o1,l1,c1,e1,a1,a2,a3,a4.later ((Below.refl _ X).alloc (Nat.le_refl _) _)⟩
 have B5:Hid (Below w.heap.size w w5):=(X0.alloc X0.size _).trans (g5.below (fun k hk=>by cases hk;exact Nat.le_add_right _ _) (by simp only [alloc_size];omega))
 have kX:∀ k o,k < X.heap.size -> X.heap[k]? = some o -> w5.heap[k]? = some o:=fun k o hk ho=>(g5.by'.block k (by simp only [alloc_size];omega) (fun e=>by injection e with e;change k = w.heap.size + 2 at e;omega)).trans (alloc_kept ho _)
 obtain ⟨gs0,cS,hv5⟩:=HS5.out.form
 rw [hrl] at hv5
 subst hv5
 obtain ⟨xs2,hx2,_⟩:=HS5.out.own
 rw [hrl] at hx2
 rcases hx2.2 with ⟨h0,_⟩ | ⟨gS,cap2,cur2,h0,hb2,_⟩
 ·injection h0 with _ h0;omega
 injection h0 with h0 _ hcq
 subst h0
 subst hcq
 have HGS:Hid (w.heap.size + 1 < gS):=by unfold Hid;omega
 have HF0:Hid (zr = fnL n fun j=>zr[j]?.getD 0):=fnL_of hrl
 have L5:Hid (LdI w n gS cS E w5 [] [] [] (fnL n (addF zc [] 0 fun j=>zr[j]?.getD 0)) (.slice none 0 0) (.slice none 0 0) (.slice none 0 0) []):=by
  refine ⟨kX _ _ (by omega) Y0,kX _ _ (by omega) Y1,?_,⟨World.ownsRow_nil _ _ _ _,World.ownsRow_nil _ _ _ _,World.ownsRow_nil _ _ _ _,World.ownsRow_nil _ _ _ _,rfl,fun j u hu=>by simp at hu⟩,B5.out⟩
  rw [show fnL n (addF zc [] 0 fun j=>zr[j]?.getD 0) = zr from (fnL_congr fun j _=>by unfold addF;rw [if_neg (Nat.not_lt_zero _)]).trans HF0.out.symm]
  exact HS5.out.mono (by omega) (by omega)
 clear HC0 HE0 Y0 Y1 YS X0 o5 g5 c5 hx2 hb2 HXJ HRC HXO HXT hxl kX h8 hb
 go_wp2_with fail
 go_loopg [13] n (fun g iv wx=>∃ i:Nat,iv = .int .i64 i /\ i + g = n /\ ∃ (us:List Nat) (vc:Value),Hid (LdI w n gS cS E wx us [] [] (fnL n (addF zc us i fun j=>zr[j]?.getD 0)) vc (.slice none 0 0) (.slice none 0 0) []) /\ Hid (NeD zc us i) /\ Hid (∀ g,vc.ownBlock = some g -> Cl noU wx g) /\ Hid (∀ j,j < i -> (lostD zc us j).natAbs <= 2 ^ (E + 1026)))
 case atStart=>exact ⟨0,rfl,by omega,[],_,L5,⟨rfl,(fun u hu=>by cases hu),fun j hj=>absurd hj (Nat.not_lt_zero _)⟩,(fun g hg=>by cases hg),fun j hj=>absurd hj (Nat.not_lt_zero _)⟩
 case round=>
  clear L5 HS5 B5
  obtain ⟨i,rfl,hk,us,vc,HL5,HN5,HCV,HLB⟩:=hrel
  by_cases h1:i < n
  ·have hd1:decide ((i:Int) < (n:Int)) = true:=decide_eq_true (by omega)
   obtain ⟨q,rfl⟩:∃ q,gk = q + 1:=⟨gk - 1,by omega⟩
   have HIG:Hid _:=hk
   obtain ⟨cb,cq,nc,ncp,lc,qc,ec,hcv,hcr,hcz⟩:=(HC.out _ HL5.out.b).range (k:=i) (by omega)
   rw [hcl] at hcv
   cases hcv
   have HNR:Hid _:=fun W hb=>near11_any _ E 0 1025 _ W (NumC.later hcz hb) E hE (Nat.add_zero _).symm (by omega) (by omega)
   go_upto_region 8 with (first
    | (refine wpList_load_mid (by rfl) 56 _ (by rfl) cb (i * 3) (by rfl) #[.bool nc,.slice ncp lc qc,.int .i64 ec].toList _ hcr Tryz.underlying56 rfl (by kernel_rfl) ?_)
    | (go_at_call 54;refine Calls.mono (HNR.out _ (Below.refl _ _)) ?_;rintro e w6 ⟨u,nx,ox,lx,cx,ex,ok,rfl,hnr,b6⟩))
   have HW1:Hid (Value.int .i64 (wrap64 ((i:Int) + 1)) = .int .i64 ((i + 1:Nat):Int)):=by
    unfold Hid
    refine congrArg _ ?_
    unfold wrap64
    omega
   have HNA:Hid _:=hnr
   have HCC0:=fun g hg=>(HCV.out g hg).later b6
   have A6:Below w6.heap.size w6 (w6.alloc (.cells #[.bool nx,.slice ox lx cx,.int .i64 ex] 56)):=(Below.refl _ w6).alloc (Nat.le_refl _) _
   have L7:Hid (LdI w n gS cS E (w6.alloc (.cells #[.bool nx,.slice ox lx cx,.int .i64 ex] 56)) us [] [] _ vc (.slice none 0 0) (.slice none 0 0) []):=(HL5.out.later b6).later A6
   have X7:Hid ((w6.alloc (.cells #[.bool nx,.slice ox lx cx,.int .i64 ex] 56)).heap[w6.heap.size]? = some (.cells #[.bool nx,.slice ox lx cx,.int .i64 ex] 56) /\ (ok = true -> RndZ 0 (zc[i]?.getD 0) 1 (u,true) /\ NumC (w6.alloc (.cells #[.bool nx,.slice ox lx cx,.int .i64 ex] 56)) (.agg #[.bool nx,.slice ox lx cx,.int .i64 ex]) E 1026 (((zc[i]?.getD 0) - fval u).natAbs:Int)) /\ (ok = false -> ∃ x,RndZ 0 (zc[i]?.getD 0) 1 (x,false)) /\ w.heap.size + 2 <= w6.heap.size):=by
    obtain ⟨x,hx1,hx2⟩:=hnr
    refine ⟨heap_alloc_new _ _,fun ho=>?_,fun ho=>⟨x,by rw [<- ho];exact hx1⟩,?_⟩
    ·obtain ⟨e1,e2⟩:=hx2 ho
     subst e1
     rw [ho] at hx1
     refine ⟨hx1,?_⟩
     have e3:=e2.later A6
     rw [show fval x * ((2 ^ 0:Nat):Int) = fval x by simp] at e3
     exact e3
    ·have h1:=blk_lt HL5.out.z
     have h2:=b6.size
     omega
   have HCC:Hid (∀ g,vc.ownBlock = some g -> Cl noU (w6.alloc (.cells #[.bool nx,.slice ox lx cx,.int .i64 ex] 56)) g):=fun g hg=>(HCC0 g hg).later A6
   obtain ⟨B15,hB15⟩:∃ m,w6.heap.size = m:=⟨_,rfl⟩
   obtain ⟨W7,hW7⟩:∃ X,w6.alloc (.cells #[.bool nx,.slice ox lx cx,.int .i64 ex] 56) = X:=⟨_,rfl⟩
   have HS7:Hid (W7.heap.size = B15 + 1):=by
    unfold Hid
    rw [<- hW7,<- hB15];simp only [alloc_size]
   rw [hW7,hB15] at X7
   rw [hW7] at L7 HCC
   rw [hW7,hB15]
   clear HCC0 HCV hW7 hB15 A6 HNR hcr hcz hnr b6 HL5 HNA
   cases ok with
   | false=>
    have HNO:Hid _:=X7.out.2.2.1 rfl
    go_wp2_with (refine wpList_store_row (by rfl) 30 _ _ (by rfl) w w.heap.size w.heap.size #[.int .i64 0,.slice none 0 0,.slice none 0 0,.slice none 0 0,.slice none 0 0,.bool false] _ (by rfl) (by rfl) L7.out.r L7.out.b (Nat.le_refl _) 6 Tryz.infoZu (by rfl) (by rfl) (oneZ _ _ _ _ _ rfl rfl rfl rfl _) ?_;intro W9 e9 b9 s9 o9)
    refine bodyPost_ret (res_ctJ _ 8 9 30 (by kernel_rfl) _ _ w.heap.size #[.int .i64 0,.slice none 0 0,.slice none 0 0,.slice none 0 0,.slice none 0 0,.bool false] _ (by rfl) (by rfl) _ Tryz.underlying30 rfl 6 Tryz.infoZu rfl e9) rfl ?_
    obtain ⟨x,hx⟩:=HNO.out
    exact ⟨⟨_,_,rfl,LdPost.mk_no (.inl ⟨i,x,h1,hx⟩)⟩,b9⟩
   | true=>
    have HOC:Hid _:=L7.out.o.c
    have hul:us.length + 1 <= 4000000:=by have:=HN5.out.len;omega
    have hx7:=X7.out.2.2.2
    obtain ⟨d0,d1,d2,d3,d4,d5⟩:=cells6 L7.out.z
    go_upto_region 11 with (first
     | (at_builtin;refine append_clJ noU Tryz.underlying27 Tryz.infoUJ rfl (by decide) (by decide) zeroU_noU _ (by rfl) _ _ (by rfl) (w.heap.size + 2) vc _ _ (by rfl) (World.ownsRow.alloc HOC.out _) (fun g hg=>((HCC.out g hg).later ((Below.refl _ W7).alloc (Nat.le_refl _) _))) ⟨W7.heap.size,0,none⟩ 1 1 [.int .u64 (u:Int)] (by rfl) (by decide) rfl (news_oneJ (heap_alloc_new _ _)) (oneI _ rfl) (oneU_noU u) hul (by simp only [alloc_size];have:=HS7.out;omega) ?_;intro v9 w9 o9 g9 cl9;have z9:w9.heap[w.heap.size + 1]? = some (.cells #[.int .i64 (n:Int),vc,.slice none 0 0,.slice none 0 0,.slice none 0 0,.bool false] 30):=(grw_types (World.ownsRow.alloc HOC.out _) g9 _ _ _ (by decide) (alloc_kept L7.out.z _)).trans (alloc_kept L7.out.z _);have bel9:Below w.heap.size w w9:=(L7.out.b.alloc L7.out.b.size _).trans (g9.below (fun k hk=>Nat.le_trans (Nat.le_add_right _ 2) (World.ownsRow.lt HOC.out k hk).1) (L7.out.b.alloc L7.out.b.size _).size))
     | (refine wpList_store_at (by rfl) 27 _ _ (by rfl) w w.heap.size (w.heap.size + 1) 1 v9 _ #[.int .i64 (n:Int),v9,.slice none 0 0,.slice none 0 0,.slice none 0 0,.bool false] 30 (by rfl) (by rfl) z9 bel9 (Nat.le_succ _) 1 (by kernel_rfl) (by rw [(own_valJ o9).2];rfl) (Nat.le_of_ble_eq_true rfl) (by intro u hu;rw [(own_valJ o9).2] at hu;simp only [List.mem_cons,List.not_mem_nil,or_false] at hu;subst hu;exact (own_valJ o9).1) (by rw [(own_valJ o9).2];rfl) ?_;intro W10 e10 b10 s10 k10))
    have S9:W7.heap.size + 1 <= w9.heap.size:=by
     have:=g9.by'.size
     simp only [alloc_size] at this
     exact this
    have L10:Hid (LdI w n gS cS E W10 (us ++ [u]) [] [] _ v9 (.slice none 0 0) (.slice none 0 0) []):=LdI.pushC (L7.out.later ((Below.refl _ W7).alloc (Nat.le_refl _) _)) (fun g hg=>((HCC.out g hg).later ((Below.refl _ W7).alloc (Nat.le_refl _) _))) g9 (by rw [uJ_snoc,List.length_append];exact o9) (by simp only [alloc_size];have:=HS7.out;omega) HGS.out e10 k10 b10
    have X10:Hid (Below W7.heap.size W7 (W7.alloc (.cells #[.int .u64 (u:Int)] 79)) /\ W7.heap.size + 1 <= W10.heap.size):=⟨(Below.refl _ W7).alloc (Nat.le_refl _) _,by omega⟩
    have B9:W7.heap.size < w9.heap.size:=by omega
    have HBX:Hid (W10.heap[B15]? = some (.cells #[.bool nx,.slice ox lx cx,.int .i64 ex] 56)):=(k10 _ (by omega)).trans ((grw_types (World.ownsRow.alloc HOC.out _) g9 _ _ _ (by decide) (alloc_kept X7.out.1 _)).trans (alloc_kept X7.out.1 _))
    have HNX:Hid (NumC W10 (.agg #[.bool nx,.slice ox lx cx,.int .i64 ex]) E 1026 (((zc[i]?.getD 0) - fval u).natAbs:Int)):=by
     have h2:=(X7.out.2.1 rfl).2
     exact ((h2.later X10.out.1).grw g9 (fun g hg=>((HCC.out g hg).later X10.out.1))).cl (zb_cl z9 (own_noU HOC.out) rfl rfl rfl) fun b hb _=>k10 b hb
    have HC9:Hid (∀ g,v9.ownBlock = some g -> Cl noU W10 g):=fun g hg=>by
     obtain ⟨cur,t,h2,h3⟩:=cl9 g hg
     have h4:=(World.ownsRow.lt o9 g hg).1
     exact ⟨cur,t,(k10 g (by omega)).trans h2,h3⟩
    have HRU:Hid (RndZ 0 (zc[i]?.getD 0) 1 (u,true)):=(X7.out.2.1 rfl).1
    have HBW:Hid (Below w.heap.size w W10):=b10
    obtain ⟨gb,capb,nS,oS,lS,qS,eS,hvS,hrS,hnS⟩:=L10.out.s.range (k:=i) (by rw [fnL_len];omega)
    rw [fnL_len] at hvS
    cases hvS
    rw [fnL_at _ (by omega:i < n)] at hnS
    rw [show addF zc us i (fun j=>zr[j]?.getD 0) i = zr[i]?.getD 0 from if_neg (Nat.lt_irrefl _)] at hnS
    have HSR:Hid (∀ V,Below W10.heap.size W10 V -> V.rangeAt gS (i * 3) [.bool nS,.slice oS lS qS,.int .i64 eS]):=fun V hb=>range_later hrS hb
    have HP2:Hid (∀ V,Below W10.heap.size W10 V -> _):=fun V hb=>plusC_any _ _ E 1050 _ _ V (hnS.later hb) ((NumC.later HNX.out hb).mono (by omega)) (by omega) (by omega)
    have HCU:Hid (∀ V,Below W10.heap.size W10 V -> ∃ cur,V.heap[gS]? = some (.cells cur 56) /\ cur.size = cS * 3):=fun V hb=>by
     obtain ⟨xs3,h3,_⟩:=L10.out.s.own
     rw [fnL_len] at h3
     rcases h3.2 with ⟨h0,_⟩ | ⟨g,cp,cur,h0,_,hg,_,_,hs,_⟩
     ·injection h0 with h0;cases h0
     ·injection h0 with h0 _ hq
      subst hq
      injection h0 with h0
      injection h0 with h0
      subst h0
      exact ⟨cur,kept hb hg,hs⟩
    have HIC:Hid (i + 1 <= cS):=by
     obtain ⟨xs3,h3,_⟩:=L10.out.s.own
     rw [fnL_len] at h3
     rcases h3.2 with ⟨h0,_⟩ | ⟨g,cp,cur,h0,_,hg,hnc,_,hs,_⟩
     ·injection h0 with h0;cases h0
     ·injection h0 with h0 _ hq
      unfold Hid
      omega
    have HGE:Hid (w.heap.size <= gS):=by have:=HGS.out;unfold Hid;omega
    have HSB:Hid ((zr[i]?.getD 0 + (((zc[i]?.getD 0) - fval u).natAbs:Int)).natAbs <= 2 * 2 ^ (E + 1026)):=by
     refine sum_bd (c:=1) ?_ (Nat.le_of_lt (HNX.out.bd (by omega)))
     rw [Nat.one_mul]
     exact Nat.le_trans (Nat.le_of_lt ((HR.out _ (Below.refl _ w)).own.elim fun xs4 h4=>by
      obtain ⟨n2,o2,l2,c2,e2,_,_,_,a4⟩:=h4.2 i (by omega)
      exact a4.bd (X:=E + 1025) (by omega))) (Nat.pow_le_pow_right (by decide) (by omega))
    clear HCC L7 X7 X10 z9 bel9 S9 B9 e10 b10 s10 k10 o9 g9 cl9 hrS hnS HOC hul hx7 HS7 d0 d1 d2 d3 d4 d5
    refine wp_region_noPanic ?_
    refine wp_region_P (fun V=>Below W10.heap.size W10 V) 9 (by kernel_rfl) ?_
    have SV:Below W10.heap.size W10 W10.drew:=(Below.refl _ _).drew
    obtain ⟨V,hV⟩:∃ V,W10.drew = V:=⟨_,rfl⟩
    rw [hV] at SV ⊢
    clear hV
    refine tzQ 57 0 ?_ ?_ (fun _=>SV) ?_
    rotate_left
    ·intro w' hSw;go_simp;try with_reducible rfl
    (try simp only [pA,pE,pB,pC,pD])
    refine tzQ 58 1 ?_ ?_ (fun _=>SV) ?_
    rotate_left
    ·intro w' hSw;go_simp;try with_reducible rfl
    (try simp only [pA,pE,pB,pC,pD])
    refine tzQ 59 2 ?_ ?_ (fun _=>SV) ?_
    rotate_left
    ·intro w' hSw;go_simp;try with_reducible rfl
    (try simp only [pA,pE,pB,pC,pD])
    refine tzQ 60 3 ?_ ?_ (fun _=>SV) ?_
    rotate_left
    ·intro w' hSw;go_simp;try with_reducible rfl
    (try simp only [pA,pE,pB,pC,pD])
    refine tzQ 61 4 ?_ ?_ (fun _=>SV) ?_
    rotate_left
    ·intro w' hSw;go_simp;try with_reducible rfl
    (try simp only [pA,pE,pB,pC,pD])
    refine tzP 62 5 (.agg #[.bool nS,.slice oS lS qS,.int .i64 eS]) (yieldsIf_load_mid (by kernel_rfl) 56 _ rfl gS (i * 3) (by kernel_rfl) #[.bool nS,.slice oS lS qS,.int .i64 eS].toList _ (fun V hS=>HSR.out V hS) Tryz.underlying56 rfl (by kernel_rfl)) SV ?_
    (try simp only [pA,pE,pB,pC,pD])
    refine tzP 63 6 (.agg #[.bool nx,.slice ox lx cx,.int .i64 ex]) (Or.inl ⟨by kernel_rfl,fun w' hSw=>ex_loadRN _ 56 _ rfl B15 (by kernel_rfl) w' _ (kept hSw HBX.out) _ Tryz.underlying56 rfl 3 Tryz.infoN3 rfl⟩) SV ?_
    (try simp only [pA,pE,pB,pC,pD])
    refine rzP [7] ?_
    refine consP _ rfl (hzC 64 (Calls.mono (HP2.out V SV) ?_)) AllReadyP.nil
    rintro e V1 ⟨v1,rfl,hz1,b1⟩
    obtain ⟨n1,o1,l1,c1,e1,hv1⟩:=hz1.form
    subst hv1
    have S1:Below W10.heap.size W10 V1:=to_call SV b1
    refine ⟨_,rfl,S1,?_⟩
    (try simp only [pA,pE,pB,pC,pD])
    refine tzQ 65 8 ?_ ?_ (fun _=>S1) ?_
    rotate_left
    ·intro w' hSw;go_simp;try with_reducible rfl
    (try simp only [pA,pE,pB,pC,pD])
    refine rzP [9] ?_
    obtain ⟨cur1,hcur1,hsz1⟩:=HCU.out V1 S1
    refine consPs _ rfl (by kernel_rfl) (hopL rfl (wpList_store_at (by rfl) 56 _ _ (by rfl) w w.heap.size gS (i * 3) (.agg #[.bool n1,.slice o1 l1 c1,.int .i64 e1]) cur1 _ 56 (by kernel_rfl) (by kernel_rfl) hcur1 (to_call HBW.out S1) HGE.out 3 Tryz.infoN3 rfl (by have:(i + 1) * 3 <= cS * 3:=Nat.mul_le_mul_right _ HIC.out;omega) (three_one n1 o1 l1 c1 e1) rfl fun V2 e2 b2 s2 k2=>put_noneL rfl ?_)) AllReadyP.nil
    refine ⟨trivial,?_⟩
    (try simp only [pA,pE,pB,pC,pD])
    refine wpAnyP_done (by kernel_rfl) ?_ _
    refine NoPanic.normal ?_
    (try simp only [pA,pE,pB,pC,pD])
    have L2:Hid (LdI w n gS cS E V2 (us ++ [u]) [] [] _ v9 (.slice none 0 0) (.slice none 0 0) []):=(L10.out.later S1).setS (fnL_len _ _) (by omega) (hz1.sum_tight rfl HSB.out (by omega)) hcur1 e2 k2 HGS.out b2
    rw [show zr[i]?.getD 0 = (fun j=>zr[j]?.getD 0) i from rfl,addF_step (fun j=>zr[j]?.getD 0) HN5.out.len] at L2
    have HN2:Hid (NeD zc (us ++ [u]) (i + 1)):=HN5.out.snoc HRU.out
    have HC2:Hid (∀ g,v9.ownBlock = some g -> Cl noU V2 g):=fun g hg=>by
     obtain ⟨cur,t,h2,h3⟩:=(HC9.out g hg).later S1
     obtain ⟨cur4,h4⟩:=owns_type ((L10.out.later S1).o.c) hg
     exact ⟨cur,t,(k2 g (by rintro rfl;rw [hcur1] at h4;cases h4)).trans h2,h3⟩
    have HLB2:Hid (∀ j,j < i + 1 -> (lostD zc (us ++ [u]) j).natAbs <= 2 ^ (E + 1026)):=lost_bd HN5.out.len HLB.out (Nat.le_of_lt (HNX.out.bd (by omega)))
    clear L10 HLB HN5 HRU HC9 hz1 b1 S1 e2 b2 s2 k2 SV hcur1 hsz1 HCU HSR HP2 HSB HNX HBX
    go_wp2_with fail
    go_roundg q
    case measure=>omega
    case rel=>exact ⟨i + 1,by go_num,by have:=HIG.out;omega,us ++ [u],v9,L2,HN2,HC2,HLB2⟩
  ·have hd1:decide ((i:Int) < (n:Int)) = false:=decide_eq_false (by omega)
   have hd2:decide (i < n) = false:=decide_eq_false (by omega)
   have hE9:n = i:=by omega
   subst hE9
   have HB1:Hid (∀ j,j < n -> (addF zc us n (fun j=>zr[j]?.getD 0) j).natAbs <= 2 * 2 ^ (E + 1026)):=fun j hj=>by
    unfold addF
    rw [if_pos hj]
    refine sum_bd (c:=1) ?_ (HLB.out j hj)
    rw [Nat.one_mul]
    exact Nat.le_trans (Nat.le_of_lt ((HR.out _ (Below.refl _ w)).own.elim fun xs4 h4=>by
     obtain ⟨n2,o2,l2,c2,e2,_,_,_,a4⟩:=h4.2 j (by omega)
     exact a4.bd (X:=E + 1025) (by omega))) (Nat.pow_le_pow_right (by decide) (by omega))
   obtain ⟨F1,hF1⟩:∃ f,addF zc us n (fun j=>zr[j]?.getD 0) = f:=⟨_,rfl⟩
   have HF1:Hid _:=hF1
   rw [hF1] at HL5 HB1
   clear hF1 hk HLB
   go_wp2_with fail
   go_loopg [17] L.length (fun g iv wx=>∃ k:Nat,iv = .int .i64 k /\ k + g = L.length /\ ∃ (UL:List (List Nat)) (vi vg:Value) (gl:List Value),Hid (LdI w n gS cS E wx us ((kpP L UL).map (·.1)) ((kpP L UL).map (·.2)) (fnL n (osD n F1 (gz.zip UL))) vc vi vg gl) /\ Hid (CoD gz n UL k) /\ Hid (∀ j,j < n -> (osD n F1 (gz.zip UL) j).natAbs <= (2 + k) * 2 ^ (E + 1026)) /\ Hid ((∀ g,vi.ownBlock = some g -> Cl noU wx g) /\ (∀ g,vg.ownBlock = some g -> Cl noU wx g)))
   case atStart=>
    have hk0:kpP L [] = []:=by simp [kpP]
    refine ⟨0,rfl,by omega,[],(.slice none 0 0),(.slice none 0 0),[],?_,⟨rfl,fun j hj=>absurd hj (Nat.not_lt_zero _)⟩,?_,(fun g hg=>by cases hg),fun g hg=>by cases hg⟩
    ·unfold Hid
     rw [hk0,List.zip_nil_right]
     exact HL5.out
    ·unfold Hid
     rw [List.zip_nil_right]
     exact HB1.out
   case round=>
    clear HL5 HB1 HCV
    obtain ⟨k,rfl,hk,UL,vi,vg,gl,HL6,HC6,HB6,HV6⟩:=hrel
    by_cases h1:k < L.length
    ·have hd1:decide ((k:Int) < (L.length:Int)) = true:=decide_eq_true (by omega)
     obtain ⟨q,rfl⟩:∃ q,gk = q + 1:=⟨gk - 1,by omega⟩
     have HIG:Hid _:=hk
     have hmk:=makeUJ n (by omega)
     have hkz:k < gz.length:=by omega
     obtain ⟨glz,hg1,hg2,hg3,hg4⟩:=(HG.out w (Below.refl _ _)).own
     rw [hgl] at hg2
     obtain ⟨ao,cap,he,-,hc0⟩:=owns_slice hg2
     cases he
     rcases hc0 with h0 | ⟨gg,rfl,hc0⟩
     ·omega
     obtain ⟨Bk,hBk⟩:=hg4 k hkz
     have hck:=hc0 k h1
     rw [List.getElem?_eq_getElem (show k < glz.length by omega)] at hck
     rw [List.getElem?_eq_getElem (show k < glz.length by omega),Option.getD_some] at hBk
     obtain ⟨ak,ck,hfk⟩:=hBk.form
     rw [hge k h1] at hfk
     rw [hfk] at hck hBk
     have HGC:Hid (∀ V,Below w.heap.size w V -> V.cell? ⟨gg,k,none⟩ = some (.slice ak n ck) /\ RowZ V Bk (.slice ak n ck) E 1025 (gz[k]?.getD [])):=fun V hb=>⟨(hb.cell (World.block_lt_of_cell? _ _ hck)).trans hck,hBk.later hb⟩
     clear hg1 hg2 hg3 hg4 hc0 hBk hck hfk
     have hzk:(gz[k]?.getD []).length = n:=hge k h1
     obtain ⟨zk,hzk0⟩:∃ z,gz[k]?.getD [] = z:=⟨_,rfl⟩
     have HZK:Hid _:=hzk0
     rw [hzk0] at HGC hzk
     clear hzk0
     go_upto_region 16 with fail
     have HLT:Hid _:=HL6.out.lt
     have L7:Hid (LdI w n gS cS E (wr.alloc (.cells (u0N n) 79)) us ((kpP L UL).map (·.1)) ((kpP L UL).map (·.2)) (fnL n (addF zk [] 0 (osD n F1 (gz.zip UL)))) vc vi vg gl):=by
      unfold Hid
      rw [show fnL n (addF zk [] 0 (osD n F1 (gz.zip UL))) = fnL n (osD n F1 (gz.zip UL)) from fnL_congr fun j _=>by unfold addF;rw [if_neg (Nat.not_lt_zero _)]]
      exact HL6.out.later ((Below.refl _ wr).alloc (Nat.le_refl _) _)
     have E7:Hid ((wr.alloc (.cells (u0N n) 79)).heap[wr.heap.size]? = some (.cells (uJ ([] ++ List.replicate (n - 0) 0)).toArray 79)):=by
      unfold Hid
      rw [List.nil_append,Nat.sub_zero,<- u0N_eq]
      exact heap_alloc_new wr _
     have HBC:Hid (gS < wr.heap.size /\ w.heap.size + 1 < wr.heap.size):=by
      refine ⟨?_,blk_lt HL6.out.z⟩
      obtain ⟨xs3,h3,_⟩:=HL6.out.s.own
      exact (World.ownsRow.lt h3 gS rfl).2
     obtain ⟨bC,hbC⟩:∃ m,wr.heap.size = m:=⟨_,rfl⟩
     obtain ⟨W0,hW0⟩:∃ X,wr.alloc (.cells (u0N n) 79) = X:=⟨_,rfl⟩
     rw [hW0] at L7 E7
     rw [hbC] at HLT E7 HBC
     rw [hW0,hbC]
     have HV7:Hid ((∀ g,vi.ownBlock = some g -> Cl noU W0 g) /\ (∀ g,vg.ownBlock = some g -> Cl noU W0 g)):=by
      rw [<- hW0]
      exact ⟨fun g hg=>(HV6.out.1 g hg).later ((Below.refl _ wr).alloc (Nat.le_refl _) _),fun g hg=>(HV6.out.2 g hg).later ((Below.refl _ wr).alloc (Nat.le_refl _) _)⟩
     clear HV6 HL6 hbC hW0 hmk hkz
     obtain ⟨fk,hfk⟩:∃ f,osD n F1 (gz.zip UL) = f:=⟨_,rfl⟩
     have HFK:Hid _:=hfk
     rw [hfk] at L7 HB6
     clear hfk
     go_wp2_with fail
     go_loopg [19,20] n (fun g av iv wx=>∃ (i:Nat) (ab:Bool) (vs:List Nat),iv = .int .i64 i /\ av = .bool ab /\ i + g = n /\ Hid (ab = vs.any nzU) /\ Hid (LdI w n gS cS E wx us ((kpP L UL).map (·.1)) ((kpP L UL).map (·.2)) (fnL n (addF zk vs i fk)) vc vi vg gl) /\ Hid (NeD zk vs i) /\ Hid (wx.heap[bC]? = some (.cells (uJ (vs ++ List.replicate (n - i) 0)).toArray 79)) /\ Hid (∀ j,j < i -> (lostD zk vs j).natAbs <= 2 ^ (E + 1026)) /\ Hid ((∀ g,vi.ownBlock = some g -> Cl noU wx g) /\ (∀ g,vg.ownBlock = some g -> Cl noU wx g)))
     case atStart=>exact ⟨0,false,[],rfl,rfl,by omega,rfl,L7,⟨rfl,(fun u hu=>by cases hu),fun j hj=>absurd hj (Nat.not_lt_zero _)⟩,E7,(fun j hj=>absurd hj (Nat.not_lt_zero _)),HV7⟩
     case round=>
      clear L7 E7 HV7
      obtain ⟨i,ab,vs,rfl,rfl,hk2,HAB,HL8,HN8,HE8,HLB,HV8⟩:=hrel
      by_cases h2:i < n
      ·have hd2:decide ((i:Int) < (n:Int)) = true:=decide_eq_true (by omega)
       obtain ⟨q2,rfl⟩:∃ q,gk = q + 1:=⟨gk - 1,by omega⟩
       have HIG2:Hid _:=hk2
       obtain ⟨hcl1,hrz⟩:=HGC.out _ HL8.out.b
       obtain ⟨cb,cq,nc,ncp,lc,qc,ec,hcv,hcr,hcz⟩:=hrz.range (k:=i) (by omega)
       rw [hzk] at hcv
       cases hcv
       have HNR:Hid _:=fun W hb=>near11_any _ E 0 1025 _ W (NumC.later hcz hb) E hE (Nat.add_zero _).symm (by omega) (by omega)
       go_upto_region 21 with (first
        | (refine wpList_load_mid (by rfl) 56 _ (by rfl) cb (i * 3) (by rfl) #[.bool nc,.slice ncp lc qc,.int .i64 ec].toList _ hcr Tryz.underlying56 rfl (by kernel_rfl) ?_)
        | (go_at_call 54;refine Calls.mono (HNR.out _ (Below.refl _ _)) ?_;rintro e w6 ⟨u,nx,ox,lx,cx,ex,ok,rfl,hnr,b6⟩))
       have A6:Below w6.heap.size w6 (w6.alloc (.cells #[.bool nx,.slice ox lx cx,.int .i64 ex] 56)):=(Below.refl _ w6).alloc (Nat.le_refl _) _
       have L7:Hid (LdI w n gS cS E (w6.alloc (.cells #[.bool nx,.slice ox lx cx,.int .i64 ex] 56)) us ((kpP L UL).map (·.1)) ((kpP L UL).map (·.2)) (fnL n (addF zk vs i fk)) vc vi vg gl):=(HL8.out.later b6).later A6
       have E7:Hid ((w6.alloc (.cells #[.bool nx,.slice ox lx cx,.int .i64 ex] 56)).heap[bC]? = some (.cells (uJ (vs ++ List.replicate (n - i) 0)).toArray 79)):=alloc_kept (kept b6 HE8.out) _
       have V7:Hid ((∀ g,vi.ownBlock = some g -> Cl noU (w6.alloc (.cells #[.bool nx,.slice ox lx cx,.int .i64 ex] 56)) g) /\ (∀ g,vg.ownBlock = some g -> Cl noU (w6.alloc (.cells #[.bool nx,.slice ox lx cx,.int .i64 ex] 56)) g)):=⟨fun g hg=>((HV8.out.1 g hg).later b6).later A6,fun g hg=>((HV8.out.2 g hg).later b6).later A6⟩
       have X7:Hid ((w6.alloc (.cells #[.bool nx,.slice ox lx cx,.int .i64 ex] 56)).heap[w6.heap.size]? = some (.cells #[.bool nx,.slice ox lx cx,.int .i64 ex] 56) /\ (ok = true -> RndZ 0 (zk[i]?.getD 0) 1 (u,true) /\ NumC (w6.alloc (.cells #[.bool nx,.slice ox lx cx,.int .i64 ex] 56)) (.agg #[.bool nx,.slice ox lx cx,.int .i64 ex]) E 1026 (((zk[i]?.getD 0) - fval u).natAbs:Int)) /\ (ok = false -> ∃ x,RndZ 0 (zk[i]?.getD 0) 1 (x,false)) /\ bC < w6.heap.size):=by
        obtain ⟨x,hx1,hx2⟩:=hnr
        refine ⟨heap_alloc_new _ _,fun ho=>?_,fun ho=>⟨x,by rw [<- ho];exact hx1⟩,?_⟩
        ·obtain ⟨e1,e2⟩:=hx2 ho
         subst e1
         rw [ho] at hx1
         refine ⟨hx1,?_⟩
         have e3:=e2.later A6
         rw [show fval x * ((2 ^ 0:Nat):Int) = fval x by simp] at e3
         exact e3
        ·have h3:=blk_lt HE8.out
         have h4:=b6.size
         omega
       obtain ⟨B15,hB15⟩:∃ m,w6.heap.size = m:=⟨_,rfl⟩
       obtain ⟨W7,hW7⟩:∃ X,w6.alloc (.cells #[.bool nx,.slice ox lx cx,.int .i64 ex] 56) = X:=⟨_,rfl⟩
       rw [hW7,hB15] at X7
       rw [hW7] at L7 E7 V7
       rw [hW7,hB15]
       clear hW7 hB15 A6 HNR hcr hcz hnr b6 HL8 HE8 HV8
       cases ok with
       | false=>
        have HNO:Hid _:=X7.out.2.2.1 rfl
        go_wp2_with (refine wpList_store_row (by rfl) 30 _ _ (by rfl) w w.heap.size w.heap.size #[.int .i64 0,.slice none 0 0,.slice none 0 0,.slice none 0 0,.slice none 0 0,.bool false] _ (by rfl) (by rfl) L7.out.r L7.out.b (Nat.le_refl _) 6 Tryz.infoZu (by rfl) (by rfl) (oneZ _ _ _ _ _ rfl rfl rfl rfl _) ?_;intro W9 e9 b9 s9 o9)
        refine bodyPost_ret (res_ctJ _ 8 9 30 (by kernel_rfl) _ _ w.heap.size #[.int .i64 0,.slice none 0 0,.slice none 0 0,.slice none 0 0,.slice none 0 0,.bool false] _ (by rfl) (by rfl) _ Tryz.underlying30 rfl 6 Tryz.infoZu rfl e9) rfl ?_
        obtain ⟨x,hx⟩:=HNO.out
        refine ⟨⟨_,_,rfl,LdPost.mk_no (.inr (.inl ⟨k,i,x,h1,h2,?_⟩))⟩,b9⟩
        rw [HZK.out]
        exact hx
       | true=>
        have hcsz:(uJ (vs ++ List.replicate (n - i) 0)).length = n:=by
         have:=HN8.out.len
         simp only [uJ_len,List.length_append,List.length_replicate]
         omega
        go_upto_region 24 with (refine wpList_store_at (by rfl) 79 _ _ (by rfl) w w.heap.size bC i (.int .u64 (u:Int)) _ _ 79 (by rfl) (by rfl) E7.out L7.out.b (by have:=HBC.out;omega) 1 (by kernel_rfl) rfl (by rw [List.size_toArray,hcsz];omega) (oneI _ rfl) rfl ?_;intro W10 e10 b10 s10 k10)
        have hvl:=HN8.out.len
        have L10:Hid (LdI w n gS cS E W10 us ((kpP L UL).map (·.1)) ((kpP L UL).map (·.2)) (fnL n (addF zk vs i fk)) vc vi vg gl):=L7.out.boxedC (uJ_cl E7.out) HBC.out.2 (Nat.ne_of_lt HBC.out.1) HLT.out k10 b10
        have E10:Hid (W10.heap[bC]? = some (.cells (uJ (vs ++ [u] ++ List.replicate (n - (i + 1)) 0)).toArray 79)):=by
         unfold Hid
         rw [<- col_set hvl h2]
         exact e10
        have HNX:Hid (NumC W10 (.agg #[.bool nx,.slice ox lx cx,.int .i64 ex]) E 1026 (((zk[i]?.getD 0) - fval u).natAbs:Int)):=((X7.out.2.1 rfl).2).cl (uJ_cl E7.out) fun b hb _=>k10 b hb
        have HBX:Hid (W10.heap[B15]? = some (.cells #[.bool nx,.slice ox lx cx,.int .i64 ex] 56)):=(k10 _ (Ne.symm (Nat.ne_of_lt X7.out.2.2.2))).trans X7.out.1
        have V10:Hid ((∀ g,vi.ownBlock = some g -> Cl noU W10 g) /\ (∀ g,vg.ownBlock = some g -> Cl noU W10 g)):=by
         refine ⟨fun g hg=>?_,fun g hg=>?_⟩
         ·obtain ⟨cur,t,h3,h4⟩:=V7.out.1 g hg
          exact ⟨cur,t,(k10 g (Nat.ne_of_lt (HLT.out vi g (.inr (.inl rfl)) hg))).trans h3,h4⟩
         ·obtain ⟨cur,t,h3,h4⟩:=V7.out.2 g hg
          exact ⟨cur,t,(k10 g (Nat.ne_of_lt (HLT.out vg g (.inr (.inr (.inl rfl))) hg))).trans h3,h4⟩
        have HRU:Hid (RndZ 0 (zk[i]?.getD 0) 1 (u,true)):=(X7.out.2.1 rfl).1
        have HBW:Hid (Below w.heap.size w W10):=b10
        clear e10 b10 s10 k10 L7 E7 V7 X7 hcsz hvl
        obtain ⟨gb,capb,nS,oS,lS,qS,eS,hvS,hrS,hnS⟩:=L10.out.s.range (k:=i) (by rw [fnL_len];omega)
        rw [fnL_len] at hvS
        cases hvS
        rw [fnL_at _ (by omega:i < n)] at hnS
        rw [show addF zk vs i fk i = fk i from if_neg (Nat.lt_irrefl _)] at hnS
        have HSR:Hid (∀ V,Below W10.heap.size W10 V -> V.rangeAt gS (i * 3) [.bool nS,.slice oS lS qS,.int .i64 eS]):=fun V hb=>range_later hrS hb
        have HP2:Hid (∀ V,Below W10.heap.size W10 V -> _):=fun V hb=>plusC_any _ _ E 1050 _ _ V (hnS.later hb) ((NumC.later HNX.out hb).mono (by omega)) (by omega) (by omega)
        have HCU:Hid (∀ V,Below W10.heap.size W10 V -> ∃ cur,V.heap[gS]? = some (.cells cur 56) /\ cur.size = cS * 3):=fun V hb=>by
         obtain ⟨xs3,h3,_⟩:=L10.out.s.own
         rw [fnL_len] at h3
         rcases h3.2 with ⟨h0,_⟩ | ⟨g,cp,cur,h0,_,hg,_,_,hs,_⟩
         ·injection h0 with h0;cases h0
         ·injection h0 with h0 _ hq
          subst hq
          injection h0 with h0
          injection h0 with h0
          subst h0
          exact ⟨cur,kept hb hg,hs⟩
        have HIC:Hid (i + 1 <= cS):=by
         obtain ⟨xs3,h3,_⟩:=L10.out.s.own
         rw [fnL_len] at h3
         rcases h3.2 with ⟨h0,_⟩ | ⟨g,cp,cur,h0,_,hg,hnc,_,hs,_⟩
         ·injection h0 with h0;cases h0
         ·injection h0 with h0 _ hq
          unfold Hid
          omega
        have HGE:Hid (w.heap.size <= gS):=by have:=HGS.out;unfold Hid;omega
        have HSB:Hid ((fk i + (((zk[i]?.getD 0) - fval u).natAbs:Int)).natAbs <= (2 + k + 1) * 2 ^ (E + 1026)):=sum_bd (HB6.out i h2) (Nat.le_of_lt (HNX.out.bd (by omega)))
        have HLB2:Hid (∀ j,j < i + 1 -> (lostD zk (vs ++ [u]) j).natAbs <= 2 ^ (E + 1026)):=lost_bd HN8.out.len HLB.out (Nat.le_of_lt (HNX.out.bd (by omega)))
        clear hrS hnS HLB
        cases ab with
        | true=>
         have HAB2:Hid (true = (vs ++ [u]).any nzU):=by
          unfold Hid
          rw [List.any_append,<- HAB.out]
          rfl
         go_upto_region 25 with fail
         refine wp_region_noPanic ?_
         refine wp_region_P (fun V=>Below W10.heap.size W10 V) 9 (by kernel_rfl) ?_
         have SV:Below W10.heap.size W10 W10.drew:=(Below.refl _ _).drew
         obtain ⟨V,hV⟩:∃ V,W10.drew = V:=⟨_,rfl⟩
         rw [hV] at SV ⊢
         clear hV
         refine tzQ 103 0 ?_ ?_ (fun _=>SV) ?_
         rotate_left
         ·intro w' hSw;go_simp;try with_reducible rfl
         (try simp only [pA,pE,pB,pC,pD])
         refine tzQ 104 1 ?_ ?_ (fun _=>SV) ?_
         rotate_left
         ·intro w' hSw;go_simp;try with_reducible rfl
         (try simp only [pA,pE,pB,pC,pD])
         refine tzQ 105 2 ?_ ?_ (fun _=>SV) ?_
         rotate_left
         ·intro w' hSw;go_simp;try with_reducible rfl
         (try simp only [pA,pE,pB,pC,pD])
         refine tzQ 106 3 ?_ ?_ (fun _=>SV) ?_
         rotate_left
         ·intro w' hSw;go_simp;try with_reducible rfl
         (try simp only [pA,pE,pB,pC,pD])
         refine tzQ 107 4 ?_ ?_ (fun _=>SV) ?_
         rotate_left
         ·intro w' hSw;go_simp;try with_reducible rfl
         (try simp only [pA,pE,pB,pC,pD])
         refine tzP 108 5 (.agg #[.bool nS,.slice oS lS qS,.int .i64 eS]) (yieldsIf_load_mid (by kernel_rfl) 56 _ rfl gS (i * 3) (by kernel_rfl) #[.bool nS,.slice oS lS qS,.int .i64 eS].toList _ (fun V hS=>HSR.out V hS) Tryz.underlying56 rfl (by kernel_rfl)) SV ?_
         (try simp only [pA,pE,pB,pC,pD])
         refine tzP 109 6 (.agg #[.bool nx,.slice ox lx cx,.int .i64 ex]) (Or.inl ⟨by kernel_rfl,fun w' hSw=>ex_loadRN _ 56 _ rfl B15 (by kernel_rfl) w' _ (kept hSw HBX.out) _ Tryz.underlying56 rfl 3 Tryz.infoN3 rfl⟩) SV ?_
         (try simp only [pA,pE,pB,pC,pD])
         refine rzP [7] ?_
         refine consP _ rfl (hzC 110 (Calls.mono (HP2.out V SV) ?_)) AllReadyP.nil
         rintro e V1 ⟨v1,rfl,hz1,b1⟩
         obtain ⟨n1,o1,l1,c1,e1,hv1⟩:=hz1.form
         subst hv1
         have S1:Below W10.heap.size W10 V1:=to_call SV b1
         refine ⟨_,rfl,S1,?_⟩
         (try simp only [pA,pE,pB,pC,pD])
         refine tzQ 111 8 ?_ ?_ (fun _=>S1) ?_
         rotate_left
         ·intro w' hSw;go_simp;try with_reducible rfl
         (try simp only [pA,pE,pB,pC,pD])
         refine rzP [9] ?_
         obtain ⟨cur1,hcur1,hsz1⟩:=HCU.out V1 S1
         refine consPs _ rfl (by kernel_rfl) (hopL rfl (wpList_store_at (by rfl) 56 _ _ (by rfl) w w.heap.size gS (i * 3) (.agg #[.bool n1,.slice o1 l1 c1,.int .i64 e1]) cur1 _ 56 (by kernel_rfl) (by kernel_rfl) hcur1 (to_call HBW.out S1) HGE.out 3 Tryz.infoN3 rfl (by have:(i + 1) * 3 <= cS * 3:=Nat.mul_le_mul_right _ HIC.out;omega) (three_one n1 o1 l1 c1 e1) rfl fun V2 e2 b2 s2 k2=>put_noneL rfl ?_)) AllReadyP.nil
         refine ⟨trivial,?_⟩
         (try simp only [pA,pE,pB,pC,pD])
         refine wpAnyP_done (by kernel_rfl) ?_ _
         refine NoPanic.normal ?_
         (try simp only [pA,pE,pB,pC,pD])
         have L2:Hid (LdI w n gS cS E V2 us ((kpP L UL).map (·.1)) ((kpP L UL).map (·.2)) _ vc vi vg gl):=(L10.out.later S1).setS (fnL_len _ _) (by omega) (hz1.sum_tight rfl HSB.out (by omega)) hcur1 e2 k2 HGS.out b2
         rw [addF_step fk HN8.out.len] at L2
         have HN2:Hid (NeD zk (vs ++ [u]) (i + 1)):=HN8.out.snoc HRU.out
         have E2:Hid (V2.heap[bC]? = some (.cells (uJ (vs ++ [u] ++ List.replicate (n - (i + 1)) 0)).toArray 79)):=(k2 _ (Ne.symm (Nat.ne_of_lt HBC.out.1))).trans (kept S1 E10.out)
         have VV2:Hid ((∀ g,vi.ownBlock = some g -> Cl noU V2 g) /\ (∀ g,vg.ownBlock = some g -> Cl noU V2 g)):=by
          refine ⟨fun g hg=>?_,fun g hg=>?_⟩
          ·obtain ⟨cur,t,h3,h4⟩:=(V10.out.1 g hg).later S1
           obtain ⟨cur4,h5⟩:=owns_type ((L10.out.later S1).o.i) hg
           exact ⟨cur,t,(k2 g (by rintro rfl;rw [hcur1] at h5;cases h5)).trans h3,h4⟩
          ·obtain ⟨cur,t,h3,h4⟩:=(V10.out.2 g hg).later S1
           obtain ⟨cur4,h5⟩:=owns_type ((L10.out.later S1).o.g) hg
           exact ⟨cur,t,(k2 g (by rintro rfl;rw [hcur1] at h5;cases h5)).trans h3,h4⟩
         clear L10 E10 V10 HN8 HRU hz1 b1 S1 e2 b2 s2 k2 SV hcur1 hsz1 HCU HSR HP2 HSB HNX HBX
         go_wp2_with fail
         go_roundg q2
         case measure=>omega
         case rel=>exact ⟨i + 1,true,vs ++ [u],by go_num,rfl,by have:=HIG2.out;omega,HAB2,L2,HN2,E2,HLB2,VV2⟩
        | false=>
         have HAB2:Hid (((u:Int) != 0) = (vs ++ [u]).any nzU):=by
          unfold Hid
          rw [List.any_append,<- HAB.out]
          simp [nzU]
         go_upto_region 25 with fail
         obtain ⟨ab2,hab2⟩:∃ x,((u:Int) != 0) = x:=⟨_,rfl⟩
         rw [hab2] at HAB2 ⊢
         clear hab2
         refine wp_region_noPanic ?_
         refine wp_region_P (fun V=>Below W10.heap.size W10 V) 9 (by kernel_rfl) ?_
         have SV:Below W10.heap.size W10 W10.drew:=(Below.refl _ _).drew
         obtain ⟨V,hV⟩:∃ V,W10.drew = V:=⟨_,rfl⟩
         rw [hV] at SV ⊢
         clear hV
         refine tzQ 103 0 ?_ ?_ (fun _=>SV) ?_
         rotate_left
         ·intro w' hSw;go_simp;try with_reducible rfl
         (try simp only [pA,pE,pB,pC,pD])
         refine tzQ 104 1 ?_ ?_ (fun _=>SV) ?_
         rotate_left
         ·intro w' hSw;go_simp;try with_reducible rfl
         (try simp only [pA,pE,pB,pC,pD])
         refine tzQ 105 2 ?_ ?_ (fun _=>SV) ?_
         rotate_left
         ·intro w' hSw;go_simp;try with_reducible rfl
         (try simp only [pA,pE,pB,pC,pD])
         refine tzQ 106 3 ?_ ?_ (fun _=>SV) ?_
         rotate_left
         ·intro w' hSw;go_simp;try with_reducible rfl
         (try simp only [pA,pE,pB,pC,pD])
         refine tzQ 107 4 ?_ ?_ (fun _=>SV) ?_
         rotate_left
         ·intro w' hSw;go_simp;try with_reducible rfl
         (try simp only [pA,pE,pB,pC,pD])
         refine tzP 108 5 (.agg #[.bool nS,.slice oS lS qS,.int .i64 eS]) (yieldsIf_load_mid (by kernel_rfl) 56 _ rfl gS (i * 3) (by kernel_rfl) #[.bool nS,.slice oS lS qS,.int .i64 eS].toList _ (fun V hS=>HSR.out V hS) Tryz.underlying56 rfl (by kernel_rfl)) SV ?_
         (try simp only [pA,pE,pB,pC,pD])
         refine tzP 109 6 (.agg #[.bool nx,.slice ox lx cx,.int .i64 ex]) (Or.inl ⟨by kernel_rfl,fun w' hSw=>ex_loadRN _ 56 _ rfl B15 (by kernel_rfl) w' _ (kept hSw HBX.out) _ Tryz.underlying56 rfl 3 Tryz.infoN3 rfl⟩) SV ?_
         (try simp only [pA,pE,pB,pC,pD])
         refine rzP [7] ?_
         refine consP _ rfl (hzC 110 (Calls.mono (HP2.out V SV) ?_)) AllReadyP.nil
         rintro e V1 ⟨v1,rfl,hz1,b1⟩
         obtain ⟨n1,o1,l1,c1,e1,hv1⟩:=hz1.form
         subst hv1
         have S1:Below W10.heap.size W10 V1:=to_call SV b1
         refine ⟨_,rfl,S1,?_⟩
         (try simp only [pA,pE,pB,pC,pD])
         refine tzQ 111 8 ?_ ?_ (fun _=>S1) ?_
         rotate_left
         ·intro w' hSw;go_simp;try with_reducible rfl
         (try simp only [pA,pE,pB,pC,pD])
         refine rzP [9] ?_
         obtain ⟨cur1,hcur1,hsz1⟩:=HCU.out V1 S1
         refine consPs _ rfl (by kernel_rfl) (hopL rfl (wpList_store_at (by rfl) 56 _ _ (by rfl) w w.heap.size gS (i * 3) (.agg #[.bool n1,.slice o1 l1 c1,.int .i64 e1]) cur1 _ 56 (by kernel_rfl) (by kernel_rfl) hcur1 (to_call HBW.out S1) HGE.out 3 Tryz.infoN3 rfl (by have:(i + 1) * 3 <= cS * 3:=Nat.mul_le_mul_right _ HIC.out;omega) (three_one n1 o1 l1 c1 e1) rfl fun V2 e2 b2 s2 k2=>put_noneL rfl ?_)) AllReadyP.nil
         refine ⟨trivial,?_⟩
         (try simp only [pA,pE,pB,pC,pD])
         refine wpAnyP_done (by kernel_rfl) ?_ _
         refine NoPanic.normal ?_
         (try simp only [pA,pE,pB,pC,pD])
         have L2:Hid (LdI w n gS cS E V2 us ((kpP L UL).map (·.1)) ((kpP L UL).map (·.2)) _ vc vi vg gl):=(L10.out.later S1).setS (fnL_len _ _) (by omega) (hz1.sum_tight rfl HSB.out (by omega)) hcur1 e2 k2 HGS.out b2
         rw [addF_step fk HN8.out.len] at L2
         have HN2:Hid (NeD zk (vs ++ [u]) (i + 1)):=HN8.out.snoc HRU.out
         have E2:Hid (V2.heap[bC]? = some (.cells (uJ (vs ++ [u] ++ List.replicate (n - (i + 1)) 0)).toArray 79)):=(k2 _ (Ne.symm (Nat.ne_of_lt HBC.out.1))).trans (kept S1 E10.out)
         have VV2:Hid ((∀ g,vi.ownBlock = some g -> Cl noU V2 g) /\ (∀ g,vg.ownBlock = some g -> Cl noU V2 g)):=by
          refine ⟨fun g hg=>?_,fun g hg=>?_⟩
          ·obtain ⟨cur,t,h3,h4⟩:=(V10.out.1 g hg).later S1
           obtain ⟨cur4,h5⟩:=owns_type ((L10.out.later S1).o.i) hg
           exact ⟨cur,t,(k2 g (by rintro rfl;rw [hcur1] at h5;cases h5)).trans h3,h4⟩
          ·obtain ⟨cur,t,h3,h4⟩:=(V10.out.2 g hg).later S1
           obtain ⟨cur4,h5⟩:=owns_type ((L10.out.later S1).o.g) hg
           exact ⟨cur,t,(k2 g (by rintro rfl;rw [hcur1] at h5;cases h5)).trans h3,h4⟩
         clear L10 E10 V10 HN8 HRU hz1 b1 S1 e2 b2 s2 k2 SV hcur1 hsz1 HCU HSR HP2 HSB HNX HBX
         go_wp2_with fail
         go_roundg q2
         case measure=>omega
         case rel=>exact ⟨i + 1,ab2,vs ++ [u],by go_num,rfl,by have:=HIG2.out;omega,HAB2,L2,HN2,E2,HLB2,VV2⟩
      ·have hd2:decide ((i:Int) < (n:Int)) = false:=decide_eq_false (by omega)
       have hd3:decide (i < n) = false:=decide_eq_false (by omega)
       have hE9:n = i:=by omega
       subst hE9
       have HC7:Hid (CoD gz n (UL ++ [vs]) (k + 1)):=HC6.out.snoc (by rw [HZK.out];exact HN8.out)
       have HZS:Hid (osD n F1 (gz.zip (UL ++ [vs])) = addF zk vs n fk):=by
        have h3:=HC6.out.len
        unfold Hid
        rw [zip_snoc UL gz vs (by omega),osD_snoc,HFK.out]
        dsimp only
        rw [<- HZK.out,List.getElem?_eq_getElem (by omega),Option.getD_some]
        simp only [h3]
       have HB7:Hid (∀ j,j < n -> (osD n F1 (gz.zip (UL ++ [vs])) j).natAbs <= (2 + (k + 1)) * 2 ^ (E + 1026)):=fun j hj=>by
        rw [HZS.out]
        unfold addF
        rw [if_pos hj]
        exact sum_bd (HB6.out j hj) (HLB.out j hj)
       have HKP:Hid _:=kpP_snoc h1 HC6.out.len vs
       rw [<- HN8.out.any,<- HAB.out] at HKP
       have HW2:Hid (Value.int .i64 (wrap64 ((k:Int) + 1)) = .int .i64 ((k + 1:Nat):Int)):=by
        have h3:k < 3000000:=by omega
        unfold Hid
        refine congrArg _ ?_
        unfold wrap64
        omega
       cases ab with
       | false=>
        rw [if_neg Bool.false_ne_true,List.append_nil] at HKP
        go_wp2_with fail
        go_roundg q
        case measure=>omega
        case rel=>
         refine ⟨k + 1,by go_num,by have:=HIG.out;omega,UL ++ [vs],vi,vg,gl,?_,HC7,HB7,HV8⟩
         unfold Hid
         rw [HKP.out,HZS.out]
         exact HL8.out
       | true=>
        rw [if_pos rfl] at HKP
        obtain ⟨id,hid⟩:∃ x:Int,L[k] = x:=⟨_,rfl⟩
        rw [hid] at HKP
        have hri:=HI.out _ HL8.out.b
        rcases hri.cells with h0 | ⟨gi,oi,hio,hci⟩
        ·omega
        subst hio
        have HID:Hid (wr.cell? ⟨gi,oi + k,none⟩ = some (.int .i64 id)):=by
         have h3:=hci k h1
         rw [List.getElem?_eq_getElem h1,hid] at h3
         exact h3
        have HGI:Hid (gi < w.heap.size):=by
         have h4:=HI.out w (Below.refl _ _)
         rcases h4.cells with h0 | ⟨g5,o5,e5,hc5⟩
         ·omega
         ·cases e5
          exact World.block_lt_of_cell? _ _ (hc5 k h1)
        have HLI:Hid (((kpP L UL).map (·.1)).length + 1 <= 4000000):=by
         have h3:(kpP L UL).length <= L.length:=by
          unfold kpP
          exact Nat.le_trans (List.length_filter_le _ _) (by rw [List.length_zip];exact Nat.min_le_left _ _)
         unfold Hid
         rw [List.length_map]
         omega
        clear hri hci
        go_upto_region 27 with fail
        refine wp_region_noPanic ?_
        refine wp_region_P (fun V=>V.heap[w.heap.size + 1]? = some (.cells #[.int .i64 (n:Int),vc,vi,vg,.slice none 0 0,.bool false] 30) /\ V.cell? ⟨gi,oi + k,none⟩ = some (.int .i64 id)) 9 (by kernel_rfl) ?_
        have SV:(fun V=>V.heap[w.heap.size + 1]? = some (.cells #[.int .i64 (n:Int),vc,vi,vg,.slice none 0 0,.bool false] 30) /\ V.cell? ⟨gi,oi + k,none⟩ = some (.int .i64 id)) wr.drew:=⟨HL8.out.z,HID.out⟩
        have qV:Below wr.heap.size wr wr.drew:=(Below.refl _ _).drew
        have LV:LdI w n gS cS E wr.drew us _ _ _ vc vi vg gl:=HL8.out.later qV
        have CV:(∀ g,vi.ownBlock = some g -> Cl noU wr.drew g) /\ (∀ g,vg.ownBlock = some g -> Cl noU wr.drew g):=⟨fun g hg=>(HV8.out.1 g hg).later qV,fun g hg=>(HV8.out.2 g hg).later qV⟩
        have EV:wr.drew.heap[bC]? = some (.cells (uJ (vs ++ List.replicate (n - n) 0)).toArray 79):=HE8.out
        obtain ⟨V,hV⟩:∃ V,wr.drew = V:=⟨_,rfl⟩
        rw [hV] at SV LV CV EV ⊢
        clear hV qV
        refine tzQ 113 0 ?_ ?_ (fun _=>SV) ?_
        rotate_left
        ·intro w' hSw;go_simp;try with_reducible rfl
        (try simp only [pA,pE,pB,pC,pD])
        refine tzP 114 1 (vi) (Or.inl ⟨by kernel_rfl,?_⟩) SV ?_
        ·intro w' hSw;obtain ⟨c0,c1,c2,c3,c4,c5⟩:=cells6 hSw.1;go_simp;try with_reducible rfl
        (try simp only [pA,pE,pB,pC,pD])
        refine tzQ 115 2 ?_ ?_ (fun _=>SV) ?_
        rotate_left
        ·intro w' hSw;go_simp;try with_reducible rfl
        (try simp only [pA,pE,pB,pC,pD])
        refine tzQ 116 3 ?_ ?_ (fun _=>SV) ?_
        rotate_left
        ·intro w' hSw;go_simp;try with_reducible rfl
        (try simp only [pA,pE,pB,pC,pD])
        refine tzQ 117 4 ?_ ?_ (fun _=>SV) ?_
        rotate_left
        ·intro w' hSw;go_simp;try with_reducible rfl
        (try simp only [pA,pE,pB,pC,pD])
        refine tzP 118 5 (.int .i64 id) (Or.inl ⟨by kernel_rfl,?_⟩) SV ?_
        ·intro w' hSw;have c9:=hSw.2;go_simp;try with_reducible rfl
        (try simp only [pA,pE,pB,pC,pD])
        refine rzP [6] ?_
        refine consP _ rfl (hopBJ 119 (.int .i64 id) 3 rfl rfl rfl (by kernel_rfl) fun I V1 hI hb=>?_) AllReadyP.nil
        have S1:(fun V=>V.heap[w.heap.size + 1]? = some (.cells #[.int .i64 (n:Int),vc,vi,vg,.slice none 0 0,.bool false] 30) /\ V.cell? ⟨gi,oi + k,none⟩ = some (.int .i64 id)) V1:=⟨kept hb SV.1,(hb.cell (World.block_lt_of_cell? _ _ SV.2)).trans SV.2⟩
        have L1:=LV.later hb
        have C1:(∀ g,vi.ownBlock = some g -> Cl noU V1 g) /\ (∀ g,vg.ownBlock = some g -> Cl noU V1 g):=⟨fun g hg=>(CV.1 g hg).later hb,fun g hg=>(CV.2 g hg).later hb⟩
        have E1:=kept hb EV
        have hsz1:w.heap.size + 2 <= V1.heap.size:=by (have h7:=blk_lt E1;have h8:=HBC.out.2;omega)
        refine ⟨S1,?_⟩
        (try simp only [pA,pE,pB,pC,pD])
        refine rzP [7] ?_
        refine consP _ rfl (hopL rfl (append_clJ noU Tryz.underlying23 Tryz.infoIJ rfl (by decide) (by decide) zeroI_noU V1 (by rfl) _ _ (by rfl) (w.heap.size + 2) vi _ _ (by kernel_rfl) L1.o.i C1.1 ⟨I,0,none⟩ 1 1 [.int .i64 id] (by kernel_rfl) (by decide) rfl (news_oneJ hI) (oneI _ rfl) (oneI_noU id) HLI.out hsz1 fun v4 V2 o4 g4 cl4=>?_)) AllReadyP.nil
        change QK _ _ Exit.normal (Act.put _ (some 120) v4) V2
        have S2:(fun V=>V.heap[w.heap.size + 1]? = some (.cells #[.int .i64 (n:Int),vc,vi,vg,.slice none 0 0,.bool false] 30) /\ V.cell? ⟨gi,oi + k,none⟩ = some (.int .i64 id)) V2:=⟨(grw_types L1.o.i g4 _ _ _ (by decide) S1.1).trans S1.1,grw_cell g4 (fun h=>by have:=(World.ownsRow.lt L1.o.i gi h).1;have:=HGI.out;omega) S1.2⟩
        refine (And.intro S2 ?_:_ /\ _)
        (try simp only [pA,pE,pB,pC,pD])
        refine tzQ 121 8 ?_ ?_ (fun _=>S2) ?_
        rotate_left
        ·intro w' hSw;go_simp;try with_reducible rfl
        (try simp only [pA,pE,pB,pC,pD])
        have b2:Below w.heap.size w V2:=L1.b.trans (g4.below (fun k hk=>Nat.le_trans (Nat.le_add_right _ 2) (World.ownsRow.lt L1.o.i k hk).1) L1.b.size)
        refine rzP [9] ?_
        refine consPs _ rfl (by kernel_rfl) (hopL rfl (wpList_store_at (by rfl) 23 _ _ (by rfl) w w.heap.size (w.heap.size + 1) 2 v4 _ #[.int .i64 (n:Int),vc,v4,vg,.slice none 0 0,.bool false] 30 (by kernel_rfl) (by kernel_rfl) S2.1 b2 (Nat.le_succ _) 1 (by kernel_rfl) (by rw [(own_valJ o4).2];rfl) (Nat.le_of_ble_eq_true rfl) (by intro u hu;rw [(own_valJ o4).2] at hu;simp only [List.mem_cons,List.not_mem_nil,or_false] at hu;subst hu;exact (own_valJ o4).1) (by rw [(own_valJ o4).2];rfl) fun V3 e3 b3 s3 k3=>put_noneL rfl ?_)) AllReadyP.nil
        refine ⟨trivial,?_⟩
        (try simp only [pA,pE,pB,pC,pD])
        refine wpAnyP_done (by kernel_rfl) ?_ _
        refine NoPanic.normal ?_
        (try simp only [pA,pE,pB,pC,pD])
        have HL9:Hid (LdI w n gS cS E V3 us ((kpP L UL).map (·.1) ++ [id]) ((kpP L UL).map (·.2)) (fnL n (addF zk vs n fk)) vc v4 vg gl):=L1.pushI C1.1 g4 (by rw [List.length_append,List.map_append];exact o4) HGS.out e3 k3 b3
        have hz3:bC ≠ w.heap.size + 1:=by have:=HBC.out.2;omega
        have E3:Hid (V3.heap[bC]? = some (.cells (uJ vs).toArray 79)):=by
         have h3:=(k3 bC hz3).trans ((grw_types L1.o.i g4 _ _ _ (by decide) E1).trans E1)
         rw [Nat.sub_self,List.replicate_zero,List.append_nil] at h3
         exact h3
        have C3:Hid ((∀ g,v4.ownBlock = some g -> Cl noU V3 g) /\ (∀ g,vg.ownBlock = some g -> Cl noU V3 g)):=by
         refine ⟨fun g hg=>?_,fun g hg=>?_⟩
         ·obtain ⟨cur,t,h3,h4⟩:=cl4 g hg
          exact ⟨cur,t,(k3 g (by have:=(World.ownsRow.lt o4 g hg).1;omega)).trans h3,h4⟩
         ·obtain ⟨cur,t,h3,h4⟩:=C1.2 g hg
          obtain ⟨cur4,h5⟩:=owns_type L1.o.g hg
          have h7:=(grw_types L1.o.i g4 g cur4 _ (by decide) h5)
          exact ⟨cur,t,(k3 g (by have:=(World.ownsRow.lt L1.o.g g hg).1;omega)).trans (h7.trans h3),h4⟩
        have S3:Hid (w.heap.size + 2 <= V3.heap.size):=by have:=blk_lt E3.out;have:=HBC.out.2;unfold Hid;omega
        have HNV:Hid (vs.length = n /\ gl.length = ((kpP L UL).map (·.2)).length):=⟨HN8.out.len,L1.o.len⟩
        have HCW:Hid (V3.ownsRow (w.heap.size + 2) 79 1 (.slice (some ⟨bC,0,none⟩) n n) vs.length (uJ vs)):=by
         have h3:=HNV.out.1
         refine ⟨by rw [uJ_len,Nat.mul_one],.inr ⟨bC,n,_,by rw [h3],by have:=HBC.out.2;omega,E3.out,by omega,by simp only [maxLen];omega,by rw [List.size_toArray,uJ_len,h3,Nat.mul_one],?_⟩⟩
         rw [Nat.mul_one,List.take_of_length_le (by simp [uJ_len])]
        clear hz3 E1 C1 L1 LV CV EV SV S1 S2 e3 k3 b3 b2 s3 o4 g4 cl4 hI hb hsz1 HL8 HE8 HV8 HLB
        have HOG:Hid _:=HL9.out.o.g
        obtain ⟨d0,d1,d2,d3,d4,d5⟩:=cells6 HL9.out.z
        have hgl4:gl.length + 1 <= 4000000:=by
         have h3:=HNV.out.2
         have h4:=HLI.out
         rw [List.length_map] at h3 h4
         omega
        have A3:Below V3.heap.size V3 (V3.alloc (.cells #[.slice (some ⟨bC,0,none⟩) n n] 27)):=(Below.refl _ V3).alloc (Nat.le_refl _) _
        go_wp2_with (first
         | (at_builtin;refine append_clJ noU Tryz.underlying28 Tryz.infoUsJ rfl (by decide) (by decide) zeroS_noU _ (by rfl) _ _ (by rfl) (w.heap.size + 2) vg _ _ (by rfl) (World.ownsRow.alloc HOG.out _) (fun g hg=>(C3.out.2 g hg).later A3) ⟨V3.heap.size,0,none⟩ 1 1 [.slice (some ⟨bC,0,none⟩) n n] (by rfl) (by decide) rfl (news_oneJ (heap_alloc_new _ _)) (oneI _ rfl) (oneS_noU _ n n) hgl4 (by simp only [alloc_size];have:=S3.out;omega) ?_;intro v9 w9 o9 g9 cl9;have z9:w9.heap[w.heap.size + 1]? = some (.cells #[.int .i64 (n:Int),vc,v4,vg,.slice none 0 0,.bool false] 30):=(grw_types (World.ownsRow.alloc HOG.out _) g9 _ _ _ (by decide) (alloc_kept HL9.out.z _)).trans (alloc_kept HL9.out.z _);have bel9:Below w.heap.size w w9:=(HL9.out.b.alloc HL9.out.b.size _).trans (g9.below (fun k hk=>Nat.le_trans (Nat.le_add_right _ 2) (World.ownsRow.lt HOG.out k hk).1) (HL9.out.b.alloc HL9.out.b.size _).size))
         | (refine wpList_store_at (by rfl) 28 _ _ (by rfl) w w.heap.size (w.heap.size + 1) 3 v9 _ #[.int .i64 (n:Int),vc,v4,v9,.slice none 0 0,.bool false] 30 (by rfl) (by rfl) z9 bel9 (Nat.le_succ _) 1 (by kernel_rfl) (by rw [(own_valJ o9).2];rfl) (Nat.le_of_ble_eq_true rfl) (by intro u hu;rw [(own_valJ o9).2] at hu;simp only [List.mem_cons,List.not_mem_nil,or_false] at hu;subst hu;exact (own_valJ o9).1) (by rw [(own_valJ o9).2];rfl) ?_;intro W10 e10 b10 s10 k10))
        have L10:Hid (LdI w n gS cS E W10 us ((kpP L UL).map (·.1) ++ [id]) ((kpP L UL).map (·.2) ++ [vs]) (fnL n (addF zk vs n fk)) vc v4 v9 (gl ++ [.slice (some ⟨bC,0,none⟩) n n])):=(HL9.out.later A3).pushG (fun g hg=>(C3.out.2 g hg).later A3) g9 o9 (World.ownsRow.alloc HCW.out _) HGS.out e10 k10 b10
        have C10:Hid ((∀ g,v4.ownBlock = some g -> Cl noU W10 g) /\ (∀ g,v9.ownBlock = some g -> Cl noU W10 g)):=by
         refine ⟨fun g hg=>?_,fun g hg=>?_⟩
         ·obtain ⟨cur,t,h3,h4⟩:=(C3.out.1 g hg).later A3
          obtain ⟨cur4,h5⟩:=owns_type (HL9.out.later A3).o.i hg
          have h7:=grw_types (World.ownsRow.alloc HOG.out _) g9 g cur4 _ (by decide) h5
          exact ⟨cur,t,(k10 g (by have:=(World.ownsRow.lt HL9.out.o.i g hg).1;omega)).trans (h7.trans h3),h4⟩
         ·obtain ⟨cur,t,h3,h4⟩:=cl9 g hg
          exact ⟨cur,t,(k10 g (by have:=(World.ownsRow.lt o9 g hg).1;omega)).trans h3,h4⟩
        go_roundg q
        case measure=>omega
        case rel=>
         refine ⟨k + 1,by go_num,by have:=HIG.out;omega,UL ++ [vs],v4,v9,gl ++ [.slice (some ⟨bC,0,none⟩) n n],?_,HC7,HB7,C10⟩
         unfold Hid
         rw [HKP.out,HZS.out,List.map_append,List.map_append]
         exact L10.out
    ·have hd1:decide ((k:Int) < (L.length:Int)) = false:=decide_eq_false (by omega)
     have hd2:decide (k < L.length) = false:=decide_eq_false (by omega)
     have hE9:k = L.length:=by omega
     subst hE9
     obtain ⟨W2,rfl⟩:∃ x,x = wr:=⟨_,rfl⟩
     obtain ⟨fs,hfs⟩:∃ f,osD n F1 (gz.zip UL) = f:=⟨_,rfl⟩
     have HFS:Hid _:=hfs
     rw [hfs] at HL6 HB6
     clear hfs hk
     have HL9:Hid (LdI w n gS cS E W2 us ((kpP L UL).map (·.1)) ((kpP L UL).map (·.2)) (fnL n fs) vc vi vg gl):=HL6.out
     have S9:Hid (w.heap.size + 1 < W2.heap.size):=blk_lt HL6.out.z
     go_wp2_with fail
     obtain ⟨b3,hb3⟩:∃ m,W2.heap.size = m:=⟨_,rfl⟩
     go_loopg [24] n (fun g iv wx=>∃ (i:Nat) (rs:List Nat) (vr:Value),iv = .int .i64 i /\ i + g = n /\ rs.length = i /\ Hid (wx.heap[w.heap.size + 1]? = some (.cells #[.int .i64 (n:Int),vc,vi,vg,vr,.bool false] 30)) /\ Hid (wx.ownsRow b3 79 1 vr rs.length (uJ rs)) /\ Hid (∀ j,j < i -> RndZ 1 (fs j) 1 (rs[j]?.getD 0,true)) /\ Hid (Below w.heap.size w wx) /\ Hid (RowZ wx w.heap.size (.slice (some ⟨gS,0,none⟩) n cS) E 1050 (fnL n fs)) /\ Hid (∀ k,k < b3 -> k ≠ w.heap.size + 1 -> wx.heap[k]? = W2.heap[k]?) /\ Hid (∀ g,vr.ownBlock = some g -> Cl noU wx g) /\ Hid (b3 <= wx.heap.size))
     case atStart=>exact ⟨0,[],_,rfl,by omega,rfl,HL9.out.z,World.ownsRow_nil _ _ _ _,(fun j hj=>absurd hj (Nat.not_lt_zero _)),HL9.out.b,HL9.out.s,(fun k _ _=>rfl),(fun g hg=>by cases hg),Nat.le_of_eq hb3.symm⟩
     case round=>
      clear HL6 HB6
      obtain ⟨i,rs,vr,rfl,hi,hrl9,HZ,HRR,HRS,HBB,HSS,HKK,HVC,HB3⟩:=hrel
      have HS3:Hid (w.heap.size + 1 < b3):=by (have:=S9.out;unfold Hid;omega)
      by_cases h2:i < n
      ·have hd3:decide ((i:Int) < (n:Int)) = true:=decide_eq_true (by omega)
       obtain ⟨q,rfl⟩:∃ q,gk = q + 1:=⟨gk - 1,by omega⟩
       have HIG:Hid _:=hi
       obtain ⟨gb,capb,nS,oS,lS,qS,eS,hvS,hrS,hnS⟩:=HSS.out.range (k:=i) (by rw [fnL_len];omega)
       rw [fnL_len] at hvS
       cases hvS
       rw [fnL_at _ h2] at hnS
       have HRO:Hid _:=roundZ_any 1 _ E 0 1050 (fs i) _ (NumC.toZ hnS) E hE (Nat.add_zero _).symm (by omega) (by omega) (by omega) (by omega)
       go_upto_region 33 with (first
        | (refine wpList_load_mid (by rfl) 56 _ (by rfl) gS (i * 3) (by rfl) #[.bool nS,.slice oS lS qS,.int .i64 eS].toList _ hrS Tryz.underlying56 rfl (by kernel_rfl) ?_)
        | (go_at_call 55;refine Calls.mono HRO.out ?_;rintro e w6 ⟨u,ok,rfl,hru,b6⟩))
       have HRD:Hid (RndZ 1 (fs i) 1 (u,ok)):=by
        unfold Hid
        rw [show (1:Nat) = 2 ^ 0 from rfl]
        exact hru
       have HKR:Hid (w6.heap[w.heap.size]? = some (.cells #[.int .i64 0,.slice none 0 0,.slice none 0 0,.slice none 0 0,.slice none 0 0,.bool false] 30)):=kept b6 ((HKK.out _ (by have:=S9.out;omega) (by omega)).trans HL9.out.r)
       have HB2:Hid (Below w.heap.size w w6):=to_call HBB.out b6
       cases ok with
       | false=>
        go_wp2_with (refine wpList_store_row (by rfl) 30 _ _ (by rfl) w w.heap.size w.heap.size #[.int .i64 0,.slice none 0 0,.slice none 0 0,.slice none 0 0,.slice none 0 0,.bool false] _ (by rfl) (by rfl) HKR.out HB2.out (Nat.le_refl _) 6 Tryz.infoZu (by rfl) (by rfl) (oneZ _ _ _ _ _ rfl rfl rfl rfl _) ?_;intro W9 e9 b9 s9 o9)
        refine bodyPost_ret (res_ctJ _ 8 9 30 (by kernel_rfl) _ _ w.heap.size #[.int .i64 0,.slice none 0 0,.slice none 0 0,.slice none 0 0,.slice none 0 0,.bool false] _ (by rfl) (by rfl) _ Tryz.underlying30 rfl 6 Tryz.infoZu rfl e9) rfl ?_
        refine ⟨⟨_,_,rfl,LdPost.mk_no (.inr (.inr ⟨us,UL,i,u,HN5.out,HC6.out,h2,?_⟩))⟩,b9⟩
        rw [HF1.out,HFS.out]
        exact HRD.out
       | true=>
        have HO3:Hid (w6.ownsRow b3 79 1 vr rs.length (uJ rs)):=owns_keep HRR.out fun k hk=>b6.block k (World.ownsRow.lt HRR.out k hk).2
        have HZ6:Hid (w6.heap[w.heap.size + 1]? = some (.cells #[.int .i64 (n:Int),vc,vi,vg,vr,.bool false] 30)):=kept b6 HZ.out
        have HS6:Hid (RowZ w6 w.heap.size (.slice (some ⟨gS,0,none⟩) n cS) E 1050 (fnL n fs)):=HSS.out.later b6
        have HV6:Hid (∀ g,vr.ownBlock = some g -> Cl noU w6 g):=fun g hg=>(HVC.out g hg).later b6
        have HK6:Hid (∀ k,k < b3 -> k ≠ w.heap.size + 1 -> w6.heap[k]? = W2.heap[k]?):=fun k hk hne=>(b6.block k (Nat.lt_of_lt_of_le hk HB3.out)).trans (HKK.out k hk hne)
        have HB6':Hid (b3 <= w6.heap.size):=Nat.le_trans HB3.out b6.size
        have HNU:Hid (noU vc = true /\ noU vi = true /\ noU vg = true):=⟨own_noU HL9.out.o.c,own_noU HL9.out.o.i,own_noU HL9.out.o.g⟩
        have HW3:Hid (Value.int .i64 (wrap64 ((i:Int) + 1)) = .int .i64 ((i + 1:Nat):Int)):=by
         unfold Hid
         refine congrArg _ ?_
         unfold wrap64
         omega
        obtain ⟨d0,d1,d2,d3,d4,d5⟩:=cells6 HZ6.out
        have hul:rs.length + 1 <= 4000000:=by omega
        have hgs:=HGS.out
        clear b6 hrS hnS hru HRO
        go_wp2_with (first
         | (at_builtin;refine append_clJ noU Tryz.underlying27 Tryz.infoUJ rfl (by decide) (by decide) zeroU_noU _ (by rfl) _ _ (by rfl) b3 vr _ _ (by rfl) (World.ownsRow.alloc HO3.out _) (fun g hg=>((HV6.out g hg).later ((Below.refl _ w6).alloc (Nat.le_refl _) _))) ⟨w6.heap.size,0,none⟩ 1 1 [.int .u64 (u:Int)] (by rfl) (by decide) rfl (news_oneJ (heap_alloc_new _ _)) (oneI _ rfl) (oneU_noU u) hul (by simp only [alloc_size];have:=HB6'.out;omega) ?_;intro v9 w9 o9 g9 cl9;have z9:w9.heap[w.heap.size + 1]? = some (.cells #[.int .i64 (n:Int),vc,vi,vg,vr,.bool false] 30):=(grw_types (World.ownsRow.alloc HO3.out _) g9 _ _ _ (by decide) (alloc_kept HZ6.out _)).trans (alloc_kept HZ6.out _);have bel9:Below w.heap.size w w9:=(HB2.out.alloc HB2.out.size _).trans (g9.below (fun k hk=>Nat.le_trans (by have:=HS3.out;omega) (World.ownsRow.lt HO3.out k hk).1) (HB2.out.alloc HB2.out.size _).size))
         | (refine wpList_store_at (by rfl) 27 _ _ (by rfl) w w.heap.size (w.heap.size + 1) 4 v9 _ #[.int .i64 (n:Int),vc,vi,vg,v9,.bool false] 30 (by rfl) (by rfl) z9 bel9 (Nat.le_succ _) 1 (by kernel_rfl) (by rw [(own_valJ o9).2];rfl) (Nat.le_of_ble_eq_true rfl) (by intro u hu;rw [(own_valJ o9).2] at hu;simp only [List.mem_cons,List.not_mem_nil,or_false] at hu;subst hu;exact (own_valJ o9).1) (by rw [(own_valJ o9).2];rfl) ?_;intro W10 e10 b10 s10 k10))
        have S10:b3 <= W10.heap.size:=by
         have h3:=g9.by'.size
         simp only [alloc_size] at h3
         have h4:=HB6'.out
         omega
        have R10:Hid (W10.ownsRow b3 79 1 v9 (rs ++ [u]).length (uJ (rs ++ [u]))):=by
         unfold Hid
         rw [uJ_snoc,List.length_append]
         exact owns_keep o9 fun k hk=>k10 k (by have:=(World.ownsRow.lt o9 k hk).1;have:=HS3.out;omega)
        have RS10:Hid (∀ j,j < i + 1 -> RndZ 1 (fs j) 1 ((rs ++ [u])[j]?.getD 0,true)):=fun j hj=>by
         by_cases e:j < i
         ·rw [List.getElem?_append_left (by omega)];exact HRS.out j e
         ·have ej:j = i:=by omega
          subst ej
          rw [List.getElem?_append_right (by omega),hrl9,Nat.sub_self]
          exact HRD.out
        have SS10:Hid (RowZ W10 w.heap.size (.slice (some ⟨gS,0,none⟩) n cS) E 1050 (fnL n fs)):=
         ((HS6.out.later ((Below.refl _ w6).alloc (Nat.le_refl _) _)).grwT (World.ownsRow.alloc HO3.out _) (by decide) g9 (fun g hg=>((HV6.out g hg).later ((Below.refl _ w6).alloc (Nat.le_refl _) _)))).boxed (zb_cl z9 HNU.out.1 HNU.out.2.1 HNU.out.2.2 (own_noU HO3.out)) (fun g e=>by cases e;exact fun h9=>by (have h9:gS = w.heap.size + 1:=h9);omega) k10
        have KK10:Hid (∀ k,k < b3 -> k ≠ w.heap.size + 1 -> W10.heap[k]? = W2.heap[k]?):=fun k hk hne=>(k10 k hne).trans ((g9.by'.block k (by simp only [alloc_size];have:=HB6'.out;omega) (fun e=>by have:=(World.ownsRow.lt HO3.out k e.symm).1;omega)).trans ((show (w6.alloc _).heap[k]? = w6.heap[k]? by first | exact heap_alloc_old w6 _ (by have:=HB6'.out;omega) | exact heap_alloc_old w6 _ _ (by have:=HB6'.out;omega)).trans (HK6.out k hk hne)))
        have VC10:Hid (∀ g,v9.ownBlock = some g -> Cl noU W10 g):=fun g hg=>by
         obtain ⟨cur,t,h3,h4⟩:=cl9 g hg
         have h5:=(World.ownsRow.lt o9 g hg).1
         have h6:=HS3.out
         exact ⟨cur,t,(k10 g (by omega)).trans h3,h4⟩
        go_roundg q
        case measure=>omega
        case rel=>exact ⟨i + 1,rs ++ [u],v9,by go_num,by have:=HIG.out;omega,by rw [List.length_append,hrl9];rfl,e10,R10,RS10,b10,SS10,KK10,VC10,S10⟩
      ·have hd3:decide ((i:Int) < (n:Int)) = false:=decide_eq_false (by omega)
       have hd4:decide (i < n) = false:=decide_eq_false (by omega)
       have hE9:n = i:=by omega
       subst hE9
       have HKR:Hid (wr.heap[w.heap.size]? = some (.cells #[.int .i64 0,.slice none 0 0,.slice none 0 0,.slice none 0 0,.slice none 0 0,.bool false] 30)):=(HKK.out _ (by have:=HS3.out;omega) (by omega)).trans HL9.out.r
       have HONE:Hid ((#[.int .i64 (n:Int),vc,vi,vg,vr,.bool false]:Array Value).all (·.oneCell') = true):=oneZ _ _ _ _ _ (own_valJ HL9.out.o.c).1 (own_valJ HL9.out.o.i).1 (own_valJ HL9.out.o.g).1 (own_valJ HRR.out).1 _
       go_wp2_with (first
        | (refine wpList_load_row (by rfl) 30 _ (by rfl) (w.heap.size + 1) _ (by rfl) HZ.out _ Tryz.underlying30 rfl 6 Tryz.infoZu (by rfl) ?_)
        | (refine wpList_store_row (by rfl) 30 _ _ (by rfl) w w.heap.size w.heap.size #[.int .i64 (n:Int),vc,vi,vg,vr,.bool false] _ (by rfl) (by rfl) HKR.out HBB.out (Nat.le_refl _) 6 Tryz.infoZu (by rfl) (by rfl) HONE.out ?_;intro W9 e9 b9 s9 o9))
       refine bodyPost_ret (res_ctJ _ 8 9 30 (by kernel_rfl) _ _ w.heap.size #[.int .i64 (n:Int),vc,vi,vg,vr,.bool false] _ (by rfl) (by rfl) _ Tryz.underlying30 rfl 6 Tryz.infoZu rfl e9) rfl ?_
       have kp:∀ {Et:TypeId} {sz m:Nat} {v:Value} {xs:List Value},W2.ownsRow (w.heap.size + 2) Et sz v m xs -> W9.ownsRow w.heap.size Et sz v m xs:=fun hx=>owns_monoJ (owns_keep hx fun k hk=>by (have h3:=World.ownsRow.lt hx k hk;exact (o9 k (by omega)).trans (HKK.out k (by omega) (by omega)))) (by omega)
       refine ⟨⟨_,_,rfl,⟨rfl,HONE.out,fun _=>⟨vc,vi,vg,vr,gl,us,UL,rs,rfl,⟨kp HL9.out.o.c,?_,kp HL9.out.o.i,kp HL9.out.o.g,HL9.out.o.len,fun j u hj=>kp (HL9.out.o.col j u hj)⟩,HN5.out,HC6.out,hrl9,?_⟩,fun c=>by cases c⟩⟩,b9⟩
       ·exact owns_monoJ (owns_keep HRR.out fun k hk=>o9 k (by have:=(World.ownsRow.lt HRR.out k hk).1;have:=HS3.out;omega)) (by have:=HS3.out;omega)
       ·intro j hj
        rw [HF1.out,HFS.out]
        exact HRS.out j hj
end Go.Proofs.YtgialbaeekkkhaaGreat
