import Derived.Test.YtmdjoaipkbnelaaGreatPPq
set_option linter.unusedVariables false
set_option linter.unusedSimpArgs false
namespace Go.Proofs.YtmdjoaipkbnelaaGreat
open Go.RowKit Go.Shelf
theorem tk_badB (z:ZD):(tkZ z).bad = !(!z.bad && wholeB z):=by
 unfold tkZ checkB
 cases hb:z.bad with
 | true=>
  simp only [if_true,Bool.not_true,Bool.false_and,Bool.not_false]
  split
  ·exact hb
  ·rfl
 | false=>
  simp only [Bool.false_eq_true,if_false,Bool.not_false,Bool.true_and]
  split
  ·rename_i h;rw [h];exact hb
  ·rename_i h;rw [Bool.not_eq_true] at h;rw [h];rfl
theorem no_two {d V:Int} {D a b:Nat} (h:RndZ d V D (a,true)) (k:RndZ d V D (b,false)):False:=by
 have:=RndZ.uniq h k
 simp only [Prod.mk.injEq] at this
 exact absurd this.2 (by decide)
theorem col_sum {x y:ZD} {n k j:Nat} (lx:x.ids.length = x.gs.length) (ly:y.ids.length = y.gs.length) (hk:k < (mg x.ids y.ids).length) (hj:j < n):((gzD n x y)[k]?.getD [])[j]?.getD 0 = fval ((colL x n ((mg x.ids y.ids)[k]?.getD 0))[j]?.getD 0) + fval ((colL y n ((mg x.ids y.ids)[k]?.getD 0))[j]?.getD 0):=by
 rw [gzD_at hk]
 unfold sumC
 rw [fnL_at _ hj,colZ_L lx,colZ_L ly]
end Go.Proofs.YtmdjoaipkbnelaaGreat
