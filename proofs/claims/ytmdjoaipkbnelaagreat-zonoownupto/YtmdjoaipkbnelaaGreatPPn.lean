import Derived.Test.YtmdjoaipkbnelaaGreatPPm
set_option linter.unusedVariables false
set_option linter.unusedSimpArgs false
namespace Go.Proofs.YtmdjoaipkbnelaaGreat
open Go.RowKit Go.Shelf
def fnL (n:Nat) (f:Nat -> Int):List Int:=(List.range n).map f
theorem fnL_at {n j:Nat} (f:Nat -> Int) (h:j < n):(fnL n f)[j]?.getD 0 = f j:=by unfold fnL;simp [h]
theorem fnL_congr {n:Nat} {f g:Nat -> Int} (h:∀ j,j < n -> f j = g j):fnL n f = fnL n g:=by
 unfold fnL
 exact List.map_congr_left fun j hj=>h j (List.mem_range.1 hj)
def lostD (zs:List Int) (us:List Nat) (j:Nat):Int:=(((zs[j]?.getD 0) - fval (us[j]?.getD 0)).natAbs:Int)
def addF (zs:List Int) (us:List Nat) (i:Nat) (f:Nat -> Int):Nat -> Int:=fun j=>if j < i then f j + lostD zs us j else f j
structure NeD (zs:List Int) (us:List Nat) (k:Nat):Prop where
 len:us.length = k
 lt:∀ u ∈ us,u < 18446744073709551616
 is:∀ j,j < k -> RndZ 0 (zs[j]?.getD 0) 1 (us[j]?.getD 0,true)
theorem NeD.snoc {zs:List Int} {us:List Nat} {k u:Nat} (h:NeD zs us k) (hu:RndZ 0 (zs[k]?.getD 0) 1 (u,true)):NeD zs (us ++ [u]) (k + 1):=by
 refine ⟨by rw [List.length_append,h.len];rfl,fun x hx=>?_,fun j hj=>?_⟩
 ·rcases List.mem_append.1 hx with hx | hx
  ·exact h.lt x hx
  ·rw [List.mem_singleton.1 hx];exact (rz_canon hu).2.1
 ·by_cases e:j < k
  ·rw [List.getElem?_append_left (by rw [h.len];exact e)];exact h.is j e
  ·have ej:j = k:=by omega
   subst ej
   rw [List.getElem?_append_right (by rw [h.len];exact Nat.le_refl _),h.len,Nat.sub_self]
   exact hu
def osD (n:Nat) (f:Nat -> Int) (PL:List (List Int × List Nat)):Nat -> Int:=PL.foldl (fun f p=>addF p.1 p.2 n f) f
structure CoD (gz:List (List Int)) (n:Nat) (UL:List (List Nat)) (k:Nat):Prop where
 len:UL.length = k
 is:∀ j,j < k -> NeD (gz[j]?.getD []) (UL[j]?.getD []) n
def LdNo (zc zr:List Int) (gz:List (List Int)) (n m:Nat):Prop:=(∃ j x,j < n /\ RndZ 0 (zc[j]?.getD 0) 1 (x,false)) \/ (∃ k j x,k < m /\ j < n /\ RndZ 0 ((gz[k]?.getD [])[j]?.getD 0) 1 (x,false)) ∨
 (∃ us UL j x,NeD zc us n /\ CoD gz n UL m /\ j < n /\ RndZ 1 (osD n (addF zc us n fun j=>zr[j]?.getD 0) (gz.zip UL) j) 1 (x,false))
structure LdPost (zc zr:List Int) (L:List Int) (gz:List (List Int)) (n base:Nat) (w':World) (c:Array Value) (ok:Bool):Prop where
 sz:c.size = 6
 one:c.all (·.oneCell') = true
 yes:ok = true -> ∃ vc vi vg vr gl us UL rs,c = #[.int .i64 (n:Int),vc,vi,vg,vr,.bool false] /\ OfL w' base us rs ((kpP L UL).map (·.1)) ((kpP L UL).map (·.2)) vc vr vi vg gl /\ NeD zc us n /\ CoD gz n UL L.length /\ rs.length = n /\ ∀ j,j < n -> RndZ 1 (osD n (addF zc us n fun j=>zr[j]?.getD 0) (gz.zip UL) j) 1 (rs[j]?.getD 0,true)
 no:ok = false -> LdNo zc zr gz n L.length
theorem LdPost.mk_no {zc zr L:List Int} {gz:List (List Int)} {n base:Nat} {w':World} (h:LdNo zc zr gz n L.length):LdPost zc zr L gz n base w' #[.int .i64 0,.slice none 0 0,.slice none 0 0,.slice none 0 0,.slice none 0 0,.bool false] false:=⟨rfl,oneZ _ _ _ _ _ rfl rfl rfl rfl _,(fun c=>by cases c),fun _=>h⟩
def LdAns (zc zr:List Int) (L:List Int) (gz:List (List Int)) (n base:Nat) (e:Ending) (w':World):Prop:=∃ (c:Array Value) (ok:Bool),e = .returned (.tuple #[.agg c,.bool ok]) /\ LdPost zc zr L gz n base w' c ok
theorem NumC.bd {w:World} {v:Value} {s:Nat} {T z:Int} (h:NumC w v s T z) {X:Nat} (hX:(X:Int) = s + T):z.natAbs < 2 ^ X:=by
 obtain ⟨neg,m,e,h1,h2,h3,h4,h5⟩:=h
 rw [<- h4,zv_abs]
 refine Nat.lt_of_lt_of_le (Nat.mul_lt_mul_of_pos_right (lt_bl m) (Nat.two_pow_pos _)) ?_
 rw [<- Nat.pow_add]
 exact Nat.pow_le_pow_right (by decide) (by omega)
theorem sum_bd {x y:Int} {c Y:Nat} (hx:x.natAbs <= c * 2 ^ Y) (hy:y.natAbs <= 2 ^ Y):(x + y).natAbs <= (c + 1) * 2 ^ Y:=by
 have:=Int.natAbs_add_le x y
 rw [Nat.succ_mul]
 omega
def nzU (u:Nat):Bool:=((u:Int) != 0)
theorem nz_same {V:Int} {D u:Nat} {b:Bool} (h:RndZ 0 V D (u,b)):nzU u = nzB u:=by
 obtain ⟨hf,hl,hc⟩:=rz_canon h
 unfold nzU nzB
 dsimp only at hf hl hc
 have h1:srung u = 0 ↔ u = 0:=by
  constructor
  ·intro h0
   unfold Canon at hc
   rw [h0] at hc
   exact hc.trans (by decide)
  ·intro h0
   subst h0
   decide
 by_cases h2:u = 0
 ·rw [decide_eq_true (h1.2 h2),h2];rfl
 ·rw [decide_eq_false (fun c=>h2 (h1.1 c))]
  simp [h2]
theorem NeD.any {zs:List Int} {vs:List Nat} {n:Nat} (h:NeD zs vs n):vs.any nzU = vs.any nzB:=by
 rw [Bool.eq_iff_iff,List.any_eq_true,List.any_eq_true]
 have h2:∀ u ∈ vs,nzU u = nzB u:=fun u hu=>by
  obtain ⟨j,hj,rfl⟩:=List.mem_iff_getElem.1 hu
  have h1:=h.is j (by rw [<- h.len];exact hj)
  rw [List.getElem?_eq_getElem hj] at h1
  exact nz_same h1
 exact ⟨fun ⟨u,hu,e⟩=>⟨u,hu,(h2 u hu) ▸ e⟩,fun ⟨u,hu,e⟩=>⟨u,hu,(h2 u hu).symm ▸ e⟩⟩
theorem CoD.snoc {gz:List (List Int)} {n k:Nat} {UL:List (List Nat)} {vs:List Nat} (h:CoD gz n UL k) (hv:NeD (gz[k]?.getD []) vs n):CoD gz n (UL ++ [vs]) (k + 1):=by
 refine ⟨by rw [List.length_append,h.len];rfl,fun j hj=>?_⟩
 by_cases e:j < k
 ·rw [List.getElem?_append_left (by rw [h.len];exact e)];exact h.is j e
 ·have ej:j = k:=by omega
  subst ej
  rw [List.getElem?_append_right (by rw [h.len];exact Nat.le_refl _),h.len,Nat.sub_self]
  exact hv
theorem range_later {w w':World} {b o:Nat} {cs:List Value} (h:w.rangeAt b o cs) (hb:Below w.heap.size w w'):w'.rangeAt b o cs:=fun j v hv=>(hb.cell (World.block_lt_of_cell? _ _ (h j v hv))).trans (h j v hv)
theorem zb_cl {w:World} {B n:Nat} {va vb vc vd:Value} {t:TypeId} (h:w.heap[B]? = some (.cells #[.int .i64 (n:Int),va,vb,vc,vd,.bool false] t)) (h1:noU va = true) (h2:noU vb = true) (h3:noU vc = true) (h4:noU vd = true):Cl noU w B:=by
 refine ⟨_,_,h,fun i v hv=>?_⟩
 match i,hv with
 | 0,hv=>cases hv;rfl
 | 1,hv=>cases hv;exact h1
 | 2,hv=>cases hv;exact h2
 | 3,hv=>cases hv;exact h3
 | 4,hv=>cases hv;exact h4
 | 5,hv=>cases hv;rfl
 | (j + 6),hv=>simp at hv
theorem OfL.boxed {w W:World} {base:Nat} {cs rs:List Nat} {ids:List Int} {gs:List (List Nat)} {vc vr vi vg:Value} {gl:List Value} {B:Nat} (h:OfL w base cs rs ids gs vc vr vi vg gl) (hB:B < base) (ho:∀ k,k ≠ B -> W.heap[k]? = w.heap[k]?):OfL W base cs rs ids gs vc vr vi vg gl:=by
 have kp:∀ {Et:TypeId} {sz m:Nat} {v:Value} {xs:List Value},w.ownsRow base Et sz v m xs -> W.ownsRow base Et sz v m xs:=fun hx=>owns_keep hx fun k hk=>ho k (by have:=(World.ownsRow.lt hx k hk).1;omega)
 exact ⟨kp h.c,kp h.r,kp h.i,kp h.g,h.len,fun j u hj=>kp (h.col j u hj)⟩
end Go.Proofs.YtmdjoaipkbnelaaGreat
