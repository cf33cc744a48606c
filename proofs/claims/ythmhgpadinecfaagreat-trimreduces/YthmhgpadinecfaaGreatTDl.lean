import Derived.Test.YthmhgpadinecfaaGreatTDk
set_option linter.unusedVariables false
set_option linter.unusedSimpArgs false
namespace Go.Proofs.YthmhgpadinecfaaGreat
open Go.RowKit Go.Shelf
def gdZ (u : ZD) : Bool := !u.bad && wholeB u
theorem goodZ_any (u : ZD) (w : World) (hu : ZU w u) (hw : UW u) : Calls Tryz.prog 23 #[.agg (zRow u)] w fun e w' => e = .returned (.bool (gdZ u)) /\ Below w.heap.size w w' := by
 refine goodD_any u.N u.co u.cn u.cc u.io u.dn u.dc u.go u.gn u.gc u.ro u.rn u.rc u.bad w (if checkB u then 0 else 100) (gdZ u) ?_ (fun W hb => refCheck_any u W (hu.later hb) hw)
 unfold Hid gdZ checkB
 cases u.bad with
 | true => simp
 | false => cases hq : wholeB u <;> simp [hq]
def lsD (u : ZD) (k : Nat) : Int := lossV (u.gs[k]?.getD [])
theorem placesZ_any (u : ZD) (E : Nat) (hE : E = 1074) (w : World) (hu : ZU w u) (hw : UW u) (hf : ∀ k j : Nat, Fin ((u.gs[k]?.getD [])[j]?.getD 0)) :
  Calls Tryz.prog 24 #[.agg (zRow u)] w fun e w' => ∃ (v : Value) (p : List Nat), e = .returned v /\ w'.ownsRow w.heap.size 3 1 v p.length (p.map fun x : Nat => Value.int .i64 (x : Int)) /\ p.Perm (List.range u.gn) /\ p.Pairwise (ltD (lsD u)) /\ Below w.heap.size w w' := by
 refine placesD_any u.N u.co u.cn u.cc u.io u.dn u.dc u.go u.gn u.gc u.ro u.rn u.rc u.bad u.gv u.gs E w hu.g hw.gl (lsD u) hE ?_
 intro W hb k hk
 refine lossD_any _ _ _ (u.gs[k]?.getD []) E hE W ((hu.g.each k hk).later hb) ?_ (hf k) (hw.ll k hk)
 intro x hx
 have hk2 : k < u.gs.length := by rw [hu.g.length]; exact hk
 rw [List.getElem?_eq_getElem hk2] at hx
 exact hw.g _ (List.getElem_mem hk2) x hx
end Go.Proofs.YthmhgpadinecfaaGreat
