import Derived.Test.YtmdjoaipkbnelaaGreatShelfK
import Derived.Test.YtmdjoaipkbnelaaGreatPPe
set_option maxHeartbeats 1000000
set_option linter.unusedVariables false
set_option linter.unusedSimpArgs false
namespace Go.Proofs.YtmdjoaipkbnelaaGreat
open Go.RowKit Go.Shelf
open Go.Maps Go.Sort in
theorem Tryz.sortsA (m:Nat):AnyZI.SortsIn Tryz.prog Tryz.sortedA_ren Fence.wide m:=
 ⟨fun blk off cap ss W hH hblk hsz=>callsIn_wide.2 (AnyM.slices_Sort_int Tryz.sortA blk off cap ss W hH hblk hsz),
  fun p cap W=>callsIn_wide.2 (AnyM.slices_Sort_int_none Tryz.sortA p cap W)⟩
theorem keysM_any (mb:Option Nat) (W:World):Calls Tryz.prog 40 #[.map mb] W fun e w'=>e = .returned (.func (.func 68) #[] #[.pointer (some ⟨W.heap.size,0,none⟩)]) /\ w' = W.alloc (.cells #[.map mb] 85):=
 (callsIn_wide (n:=5)).1 (AnyZI.keys_in Tryz.keysA Fence.wide 5 trivial rfl mb W)
theorem sortedM_any (a b:ZD) (nz:Value) (B nn:Nat) (D:DataW Value) (w:World) (hown:w.ownsMap Tryz.prog 3 elR B nn D) (hnn:nn <= 4000000) (hp:PrM a b nz (List.range a.ids.length) (List.range b.ids.length) D) (ha:a.ids.Pairwise (· < ·)) (hb:b.ids.Pairwise (· < ·)) :
  Calls Tryz.prog 39 #[.func (.func 68) #[] #[.pointer (some ⟨w.heap.size,0,none⟩)]] (w.alloc (.cells #[.map (some B)] 85)) fun e w'=>∃ v,e = .returned v /\ w'.ownsRow w.heap.size 3 1 v (mg a.ids b.ids).length ((mg a.ids b.ids).map (Value.int .i64)) /\ Below w.heap.size w w':=by
 have hsz:Maps.size D <= nn:=hown.size_le
 have hseq:SeqGives Fence.wide 2 Tryz.prog 68 #[.pointer (some ⟨w.heap.size,0,none⟩)] Go.encZ (fun ss=>ss.Perm (Go.intKeys D)) (Maps.size D) (w.alloc (.cells #[.map (some B)] 85)):=
  AnyZI.keys_gives (ρ:=Tryz.keysA_ren) { Tryz.keysA with } Fence.wide _ trivial rfl (by omega) w.heap.size B nn D _ (by simp) (by simp) (by
   obtain ⟨es,clock,hb,Ft,hs,hD⟩:=hown
   exact ⟨es,clock,(Below.heap_alloc _ _ B (Array.getElem?_eq_some_iff.1 hb).1).trans hb,Ft,hs,hD⟩)
 have cS:=AnyZI.sorted_in Tryz.sortedA Fence.wide 5 trivial trivial trivial trivial rfl (by omega) (Tryz.sortsA _) (enters_of Tryz.func67 (by kernel_rfl) rfl) 68 #[.pointer (some ⟨w.heap.size,0,none⟩)] trivial (enters_of Tryz.func68 (by kernel_rfl) rfl) _ _ (Nat.le_trans hsz (Nat.le_trans hnn (by unfold maxLen;decide))) (by omega) _ hseq
 change CallsIn _ _ Tryz.prog 39 _ _ _ at cS
 refine Calls.mono ((callsIn_wide (n:=5)).1 cS) ?_
 rintro e w' ⟨v,ss,he,hS,hrow,hnil,hbl⟩
 have hs:=hp.sorted ha hb hown Tryz.keyI Tryz.underlying3 hS
 have hl:ss.length = (mg a.ids b.ids).length:=by rw [<- hs,List.length_mergeSort]
 rw [hs,hl] at hrow
 have hsz2:(w.alloc (.cells #[.map (some B)] 85)).heap.size = w.heap.size + 1:=by simp only [alloc_size]
 rw [hsz2] at hrow hbl
 exact ⟨v,he,owns_monoJ hrow (Nat.le_succ _),((Below.refl _ w).alloc (Nat.le_refl _) _).trans (hbl.mono (Nat.le_succ _))⟩
end Go.Proofs.YtmdjoaipkbnelaaGreat
