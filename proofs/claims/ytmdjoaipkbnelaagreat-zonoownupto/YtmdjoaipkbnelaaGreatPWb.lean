import Derived.Test.YtmdjoaipkbnelaaGreatPPr
set_option linter.unusedVariables false
set_option linter.unusedSimpArgs false
namespace Go.Proofs.YtmdjoaipkbnelaaGreat
open Go.RowKit Go.Shelf
open Ieee
def TimesRes (nx ny:Bool) (mx my:Nat) (ex ey:Int) (w:World) (e':Ending) (w':World):Prop:=∃ v' neg e,e' = .returned v' /\ NumV w' v' neg (mx * my) e /\ (mx * my = 0 -> e = 0) /\ (mx * my ≠ 0 -> neg = (nx != ny) /\ e = ex + ey) /\ Below w.heap.size w w'
attribute [local go_sem] Oper.semAt_some
def sumG (B:List Nat -> Nat) (gs:List (List Nat)):Nat:=(gs.map B).sum
def farV (rs:List Nat) (gs:List (List Nat)) (i:Nat):Int:=fval (rs[i]?.getD 0) + (sumG (fun g=>rmag (frung (g[i]?.getD 0))) gs:Nat)
def colV (gs:List (List Nat)) (es:List Int) (i:Nat):Nat -> Int
 | 0=>0
 | k + 1=>colV gs es i k + (es[k]?.getD 0) * fval ((gs[k]?.getD [])[i]?.getD 0)
def absG (i:Nat) (gs:List (List Nat)):Nat:=sumG (fun g=>rmag (frung (g[i]?.getD 0))) gs
def ptK (A:Nat) (cs rs:List Nat) (gs:List (List Nat)) (es bs:List Int) (i k:Nat):Int:=fval (cs[i]?.getD 0) * (A:Int) + (bs[i]?.getD 0) * fval (rs[i]?.getD 0) + colV gs es i k
def ptV (A:Nat) (cs rs:List Nat) (gs:List (List Nat)) (es bs:List Int) (n:Nat):List Int:=(List.range n).map fun i=>ptK A cs rs gs es bs i gs.length
theorem up_leJ {Y:Int} {D q:Nat} (hD:0 < D) (h:RndZ 1 Y D (q,true)):Y <= fval q * (D:Int):=by
 obtain ⟨f,hf⟩:=Sf.some Y hD
 rcases rz_up h hf with ⟨_,_,a⟩ | ⟨a,_⟩
 ·have k:Y <= smag (ceilK Y D f) * (D:Int):=(ceil_le hD hf _).2 (Int.le_refl _)
  have a':srung q = max (ceilK Y D f) (1 - (infK:Int)):=a
  have m:smag (ceilK Y D f) <= smag (srung q):=by
   rcases Int.lt_trichotomy (smag (ceilK Y D f)) (smag (srung q)) with c | c | c
   ·omega
   ·omega
   ·have:=lt_of_smag c;omega
  rw [fval_smag]
  exact Int.le_trans k (Int.mul_le_mul_of_nonneg_right m (Int.natCast_nonneg D))
 ·have:=congrArg Prod.snd a;cases this
end Go.Proofs.YtmdjoaipkbnelaaGreat
