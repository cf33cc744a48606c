import Derived.Test.YthmhgpadinecfaaGreatTDf
set_option maxRecDepth 100000
set_option maxHeartbeats 4000000
set_option linter.unusedVariables false
set_option linter.unusedSimpArgs false
namespace Go.Proofs.YthmhgpadinecfaaGreat
open Go.RowKit Go.Shelf
def plD (u : Nat) : Nat := if u = 9223372036854775808 then 0 else u
theorem plainD_any (u : Nat) (w : World) : Calls Tryz.prog 46 #[.int .u64 (u : Int)] w fun e w' => e = .returned (.int .u64 ((plD u : Nat) : Int)) /\ w' = w := by
 go_enter Tryz.func46, Tryz.ntmps46
 by_cases h : u = 9223372036854775808
 ·have e1 : ((u : Int) == 9223372036854775808) = true := by simp; omega
  have e2 : plD u = 0 := if_pos h
  rw [e2]
  clear h e2
  go_wp2_with fail
  go_ret
  exact ⟨rfl, rfl⟩
 ·have e1 : ((u : Int) == 9223372036854775808) = false := by simp; omega
  have e2 : plD u = u := if_neg h
  rw [e2]
  clear h e2
  go_wp2_with fail
  go_ret
  exact ⟨rfl, rfl⟩
theorem plainsD_any (ao : Option Addr) (len cap : Nat) (us : List Nat) (w : World) (hr : RdUs w ao len cap us) (hl : len <= 1050000) :
  Calls Tryz.prog 26 #[.slice ao len cap] w fun e w' => ∃ v, e = .returned v /\ w'.ownsRow w.heap.size 50 1 v us.length (uJ (us.map plD)) /\ Below w.heap.size w w' := by
 have HR : Hid _ := hr
 have HLN : Hid _ := hr.length
 clear hr
 go_enter Tryz.func26, Tryz.ntmps26
 go_wp2_with fail
 go_loopg [3, 4] len (fun g v u wx => ∃ (i : Nat), u = .int .i64 i /\ i + g = len /\ Hid (wx.ownsRow w.heap.size 50 1 v i (uJ ((us.take i).map plD))) /\ Hid (Below w.heap.size w wx))
 case atStart => exact ⟨0, rfl, by omega, World.ownsRow_nil _ _ _ _, Below.refl _ _⟩
 case round =>
  obtain ⟨i, rfl, hi, HO, HB⟩ := hrel
  have hsr := HB.out.size
  by_cases hlt : i < len
  ·have hd : decide ((i : Int) < (len : Int)) = true := decide_eq_true (by omega)
   obtain ⟨g, rfl⟩ : ∃ g, gk = g + 1 := ⟨gk - 1, by omega⟩
   rcases (HR.out.later HB.out).cells with h0 | ⟨b, off, rfl, hc⟩
   ·omega
   have g0 := hc i hlt
   have HTS : Hid _ := take_snocJ (us := us) (k := i) (by rw [HLN.out]; exact hlt)
   obtain ⟨x, hx⟩ : ∃ x, us[i]?.getD 0 = x := ⟨_, rfl⟩
   rw [hx] at g0 HTS
   have HIG : Hid _ := hi
   clear hc hi hx
   go_wp2_with (first
    | (go_at_call 46; refine Calls.mono (plainD_any x _) ?_; rintro e w' ⟨rfl, hw⟩; rw [hw]; clear hw)
    | (at_builtin; refine append_gsJ Tryz.underlying29 Tryz.infoUJ rfl (by decide) (by decide) _ (by rfl) _ _ (by rfl) w.heap.size _ _ _ (by rfl) (World.ownsRow.alloc HO.out _) ⟨wr.heap.size, 0, none⟩ 1 1 [.int .u64 ((plD x : Nat) : Int)] (by rfl) rfl (news_oneJ (heap_alloc_new wr _)) (oneI _ rfl) (by omega) (by simp only [alloc_size]; omega) ?_; intro v5 w5 o5 g5))
   have B5 : Hid (Below w.heap.size w w5) := (HB.out.alloc hsr _).trans (g5.below (fun k hk => (World.ownsRow.lt HO.out k hk).1) (by simp only [alloc_size]; omega))
   have O5 : Hid _ := o5
   clear o5 g5
   go_roundg g
   case measure => omega
   case rel =>
    refine ⟨i + 1, by go_num, by have := HIG.out; omega, ?_, B5⟩
    unfold Hid
    rw [HTS.out, List.map_append, List.map_cons, List.map_nil, uJ_snoc]
    exact O5.out
  ·have hd : decide ((i : Int) < (len : Int)) = false := decide_eq_false (by omega)
   have HO2 : Hid (wr.ownsRow w.heap.size 50 1 u3 us.length (uJ (us.map plD))) := by
    have := HO.out
    rw [List.take_of_length_le (by rw [HLN.out]; omega), show i = us.length by rw [HLN.out]; omega] at this
    exact this
   go_wp2
   go_ret
   exact ⟨_, rfl, HO2.out, HB.out⟩
end Go.Proofs.YthmhgpadinecfaaGreat
