import Derived.Test.YtgialbaeekkkhaaGreatPPs
set_option linter.unusedVariables false
set_option linter.unusedSimpArgs false
namespace Go.Proofs.YtgialbaeekkkhaaGreat
open Go.RowKit Go.Shelf
theorem PlR.sz {a b:ZD} {base:Nat} {w':World} {c:Array Value} (h:PlR a b base w' c):c.size = 6 /\ c.all (·.oneCell') = true:=by
 have bad:∀ n:Int,(#[.int .i64 n,.slice none 0 0,.slice none 0 0,.slice none 0 0,.slice none 0 0,.bool true]:Array Value).size = 6 /\ (#[.int .i64 n,.slice none 0 0,.slice none 0 0,.slice none 0 0,.slice none 0 0,.bool true]:Array Value).all (·.oneCell') = true:=fun n=>⟨rfl,oneZ _ _ _ _ _ rfl rfl rfl rfl _⟩
 by_cases e:a.N = b.N
 ·by_cases hb:a.bad = true \/ b.bad = true
  ·rw [h.bd e hb];exact bad _
  ·have h1:a.bad = false:=by cases hq:a.bad with | true=>exact absurd (.inl hq) hb | false=>rfl
   have h2:b.bad = false:=by cases hq:b.bad with | true=>exact absurd (.inr hq) hb | false=>rfl
   obtain ⟨_,_,_,hh⟩:=h.gd e h1 h2
   rcases hh with ⟨hc,_⟩ | hs
   ·rw [hc];exact bad _
   ·exact ⟨hs.sz,hs.one⟩
 ·rw [h.un e];exact bad _
theorem samZ_row (a b:ZD) (w:World) (ha:ZR w a) (hb:ZR w b):Calls Tryz.prog 9 #[.agg (zRow a),.agg (zRow b)] w fun e w'=>e = .returned (.bool (sameZ (tkZ a) (tkZ b))) /\ Below w.heap.size w w':=same_anyJ a b w ha hb
theorem SmZ.tkS {u x:ZD} (m:SmZ u x):(tkZ u).N = (tkZ x).N /\ (tkZ u).bad = (tkZ x).bad /\ (tkZ u).cs = (tkZ x).cs /\ (tkZ u).rs = (tkZ x).rs /\ (tkZ u).ids = (tkZ x).ids /\ (tkZ u).gs = (tkZ x).gs:=by
 unfold tkZ
 rw [checkB_eq u x m.N m.bad m.cs m.rs m.ids m.gs m.cn m.dn m.gn m.rn]
 split
 ·exact ⟨m.N,m.bad,m.cs,m.rs,m.ids,m.gs⟩
 ·exact ⟨rfl,rfl,rfl,rfl,rfl,rfl⟩
theorem same_sm {u x q y:ZD} (m:SmZ u x) (k:SmZ q y):sameZ (tkZ u) (tkZ q) = sameZ (tkZ x) (tkZ y):=by
 obtain ⟨a1,a2,a3,a4,a5,a6⟩:=m.tkS
 obtain ⟨b1,b2,b3,b4,b5,b6⟩:=k.tkS
 unfold sameZ
 rw [a1,a2,a3,a4,a5,a6,b1,b2,b3,b4,b5,b6]
theorem sameZ_self (x:ZD):sameZ x x = true:=by
 unfold sameZ sameL sameG
 simp
theorem LdR.sm {w w0:World} {base:Nat} {z x:ZD} (h:LdR w base z x) (hz:ZR w0 z):SmZ x z:=⟨h.N,h.bad,h.cs,h.rs,h.ids,h.gs,by rw [<- h.zr.i.length,h.ids,hz.i.length],by rw [<- h.zr.g.length,h.gs,hz.g.length],by rw [<- h.zr.c.length,h.cs,hz.c.length],by rw [<- h.zr.r.length,h.rs,hz.r.length]⟩
theorem held_of {w w0:World} {z x u:ZD} {base:Nat} (h:LdR w base z x) (hu:ZU w u) (hz:ZR w0 z) (hw:ZW z) (sx:SmZ x z) (su:SmZ u z):Calls Tryz.prog 11 #[.agg (zRow x),.agg (zRow u)] w fun e w'=>e = .returned (.bool true) /\ Below w.heap.size w w':=
 heldJ_any z x u base w h hu (SmZ.bits sx su) (by rw [sx.cs,hz.c.length];exact hw.cl) (by rw [sx.rs,hz.r.length];exact hw.rl) (by rw [sx.ids,hz.i.length];exact hw.il) (by rw [sx.gs,hz.g.length];exact hw.gl) (fun j hj=>by rw [sx.gs] at hj ⊢;rw [hz.g.length] at hj;rw [(hz.g.each j hj).length];exact hw.coll j hj)
end Go.Proofs.YtgialbaeekkkhaaGreat
