import Derived.Test.YtoflalhiihcofaaGreatPPl
set_option linter.unusedVariables false
set_option linter.unusedSimpArgs false
namespace Go.Proofs.YtoflalhiihcofaaGreat
open Go.RowKit Go.Shelf
theorem RowZ.mono {w:World} {base base' s:Nat} {T T':Int} {v:Value} {zs:List Int} (h:RowZ w base v s T zs) (hb:base' <= base) (hT:T <= T'):RowZ w base' v s T' zs:=by
 obtain ⟨xs,h1,h2⟩:=h.own
 exact ⟨⟨xs,owns_monoJ h1 hb,fun j hj=>by obtain ⟨n,o,l,c,e,a1,a2,a3,a4⟩:=h2 j hj;exact ⟨n,o,l,c,e,a1,a2,a3,a4.mono hT⟩⟩,h.cl⟩
structure CoZ (w:World) (base:Nat) (v:Value) (s:Nat) (T:Int) (gz:List (List Int)):Prop where
 own:∃ gl:List Value,gl.length = gz.length /\ w.ownsRow base 27 1 v gz.length gl /\ (∀ g,v.ownBlock = some g -> Cl noU w g) /\ ∀ k,k < gz.length -> ∃ B,RowZ w B (gl[k]?.getD (.slice none 0 0)) s T (gz[k]?.getD [])
theorem CoZ.later {w w':World} {base s:Nat} {T:Int} {v:Value} {gz:List (List Int)} (h:CoZ w base v s T gz) (hb:Below w.heap.size w w'):CoZ w' base v s T gz:=by
 obtain ⟨gl,h1,h2,h3,h4⟩:=h.own
 exact ⟨gl,h1,owns_keep h2 fun k hk=>hb.block k (World.ownsRow.lt h2 k hk).2,fun g hg=>(h3 g hg).later hb,fun k hk=>by obtain ⟨B,hB⟩:=h4 k hk;exact ⟨B,hB.later hb⟩⟩
end Go.Proofs.YtoflalhiihcofaaGreat
