import Derived.Test.YtmdjoaipkbnelaaGreatPPd
set_option maxRecDepth 100000
set_option maxHeartbeats 4000000
set_option linter.unusedVariables false
set_option linter.unusedSimpArgs false
namespace Go.Proofs.YtmdjoaipkbnelaaGreat
open Go.RowKit Go.Shelf
def nzB (u:Nat):Bool:=!decide (srung u = 0)
theorem nz_ord {u:Nat} (hu:Fin u):(FloatKind.f64.format.order u 0 != some Ordering.eq) = nzB u:=by
 rw [neq_ordN hu (by unfold Fin frung infK;decide)]
 rfl
theorem anyF_snoc {p:Nat -> Bool} {us:List Nat} {k:Nat} (h:k < us.length):(us.take (k + 1)).any p = ((us.take k).any p || p (us[k]?.getD 0)):=by
 rw [List.take_succ_eq_append_getElem h,List.getElem?_eq_getElem h,List.any_append]
 simp
theorem anyF_at {p:Nat -> Bool} {us:List Nat} {k:Nat} (h:k < us.length) (hp:p (us[k]?.getD 0) = true):us.any p = true:=by
 rw [List.any_eq_true]
 rw [List.getElem?_eq_getElem h] at hp
 exact ⟨_,List.getElem_mem h,hp⟩
theorem nzC_any (u:Nat) (hu:Fin u) (w:World):Calls Tryz.prog 42 #[.float .f64 u] w fun e w'=>e = .returned (.bool (nzB u)) /\ w' = w:=by
 have HU:Hid (∀ x,x = (FloatKind.f64.format.order u 0 != some Ordering.eq) -> x = nzB u):=fun x hx=>hx.trans (nz_ord hu)
 clear hu
 go_enter Tryz.func42,Tryz.ntmps42
 go_wp2_with fail
 go_ret
 exact ⟨by rw [<- HU.out _ rfl];rfl,rfl⟩
theorem indexF_any (ao:Option Addr) (len cap:Nat) (us:List Nat) (w:World) (h:RdF w ao len cap us) (hf:∀ u ∈ us,Fin u) :
  Calls Tryz.prog 69 #[.slice ao len cap,.func (.func 42) #[] #[]] w fun e w'=>(∃ i:Int,e = .returned (.int .i64 i) /\ Hid (decide (i ≥ 0) = us.any nzB)) /\ w' = w:=by
 have HR:Hid (RdF w ao len cap us):=h
 have HF0:Hid (∀ u ∈ us,Fin u):=hf
 have hmx:len <= 9223372036854775807:=Nat.le_trans h.max maxLen_le
 have HLN:Hid (us.length = len):=h.length
 clear h hf
 go_enter Tryz.func69,Tryz.ntmps69
 go_wp2_with fail
 go_loopg [8] len (fun g iv wx=>∃ k:Nat,iv = .int .i64 k /\ k + g = len /\ Hid (wx = w) /\ Hid ((us.take k).any nzB = false))
 case atStart=>exact ⟨0,rfl,by omega,rfl,rfl⟩
 case round=>
  obtain ⟨k,rfl,hk,HW,HF⟩:=hrel
  have e0:wr = w:=HW.out
  subst e0
  by_cases hlt:k < len
  ·have hd:decide ((k:Int) < (len:Int)) = true:=decide_eq_true (by omega)
   obtain ⟨g,rfl⟩:∃ g,gk = g + 1:=⟨gk - 1,by omega⟩
   rcases HR.out.cells with h0 | ⟨ab,aoff,rfl,hca⟩
   ·omega
   have ga:=hca k hlt
   have HKL:Hid (k < us.length):=by unfold Hid;rw [HLN.out];exact hlt
   have hfx:=HF0.out _ (getD_mem (us:=us) (j:=k) HKL.out)
   have HIG:Hid (k + (g + 1) = len):=hk
   obtain ⟨x,hx⟩:∃ x,us[k]?.getD 0 = x:=⟨_,rfl⟩
   rw [hx] at ga hfx
   have HC1:=nzC_any x hfx wr
   obtain ⟨b,hb⟩:∃ b,nzB x = b:=⟨_,rfl⟩
   rw [hb] at HC1
   have HB:Hid (nzB (us[k]?.getD 0) = b):=by unfold Hid;rw [hx];exact hb
   clear hca hk hb hx hfx
   cases b with
   | false=>
    go_wp2_with (go_at_call 42;refine HC1.mono ?_;rintro e w' ⟨rfl,rfl⟩)
    go_roundg g
    case measure=>omega
    case rel=>exact ⟨k + 1,by go_num,by have:=HIG.out;omega,rfl,by unfold Hid;rw [anyF_snoc HKL.out,HF.out,HB.out];rfl⟩
   | true=>
    go_wp2_with (go_at_call 42;refine HC1.mono ?_;rintro e w' ⟨rfl,rfl⟩)
    go_ret
    exact ⟨⟨_,rfl,by unfold Hid;rw [anyF_at HKL.out HB.out];exact decide_eq_true (by omega)⟩,rfl⟩
  ·have hd:decide ((k:Int) < (len:Int)) = false:=decide_eq_false (by omega)
   have hd':decide (k < len) = false:=decide_eq_false (by omega)
   have HE:Hid (us.any nzB = false):=by
    have h9:=HF.out
    rw [List.take_of_length_le (by rw [HLN.out];omega)] at h9
    exact h9
   go_wp2_with fail
   go_ret
   exact ⟨⟨_,rfl,by unfold Hid;rw [HE.out];rfl⟩,rfl⟩
theorem containsF_any (ao:Option Addr) (len cap:Nat) (us:List Nat) (w:World) (h:RdF w ao len cap us) (hf:∀ u ∈ us,Fin u) :
  Calls Tryz.prog 41 #[.slice ao len cap,.func (.func 42) #[] #[]] w fun e w'=>e = .returned (.bool (us.any nzB)) /\ w' = w:=by
 have HR:Hid (RdF w ao len cap us):=h
 have HF:Hid (∀ u ∈ us,Fin u):=hf
 clear h hf
 go_enter Tryz.func41,Tryz.ntmps41
 go_wp2_with (go_at_call 69;refine (indexF_any ao len cap us _ HR.out HF.out).mono ?_;rintro e w' ⟨⟨i,rfl,hi⟩,rfl⟩)
 go_ret
 exact ⟨by rw [<- hi.out];rfl,rfl⟩
end Go.Proofs.YtmdjoaipkbnelaaGreat
