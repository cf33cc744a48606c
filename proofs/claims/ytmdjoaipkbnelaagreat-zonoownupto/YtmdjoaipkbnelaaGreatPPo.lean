import Derived.Test.YtmdjoaipkbnelaaGreatPPr
set_option linter.unusedVariables false
set_option linter.unusedSimpArgs false
namespace Go.Proofs.YtmdjoaipkbnelaaGreat
open Go.RowKit Go.Shelf
structure GdU (u:ZD) (n:Nat):Prop where
 N:u.N = (n:Int)
 n1:1 <= n
 n2:n <= 256
 c:u.cs.length = n
 r:u.rs.length = n
 ig:u.ids.length = u.gs.length
 g:∀ k,k < u.gs.length -> (u.gs[k]?.getD []).length = n
 few:u.gs.length <= 1050000
 tk:(tkZ u).N = (n:Int)
theorem GdU.of {w:World} {u:ZD} (hu:ZU w u) (wu:UW u) (h:(!u.bad && wholeB u) = true):GdU u u.rn:=by
 obtain ⟨_,hw,hc⟩:=tk_good h
 obtain ⟨h1,h2,h3,h4,h5,_,h7⟩:=(wholeB_iff u).1 hw
 have hrl:=hu.r.length
 have e3:=(numN_fin h3).1
 have e4:=(numN_fin h4).1
 have hig:=hu.i.length
 have hgg:=hu.g.length
 have hN:u.N = (u.rn:Int):=by omega
 refine ⟨hN,by omega,by omega,by omega,by omega,by omega,fun k hk=>?_,by have:=wu.gl;omega,by rw [tk_self hc];exact hN⟩
 have:=(numN_fin (h7 k (by omega)).2.2).1
 omega
end Go.Proofs.YtmdjoaipkbnelaaGreat
