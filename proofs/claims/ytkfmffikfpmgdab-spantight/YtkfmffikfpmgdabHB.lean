import Derived.Test.YtkfmffikfpmgdabHA
namespace Go.Proofs.Ytkfmffikfpmgdab
open Go.RowKit
set_option linter.unusedVariables false

set_option maxRecDepth 100000 in
set_option maxHeartbeats 2000000 in
theorem holds_any (al ah : Nat) (ab : Bool) (hal : al < 18446744073709551616) (hah : ah < 18446744073709551616) (v : Value) (E k : Nat) (T z : Int) (hE : E = 1074) (hk : k ≤ 10000) (hT : 1024 ≤ T ∧ T ≤ 20000) (w : World) (hz : NumZ w v (E + k) T z) (hh : ab = true ∨ (Good al ah ab ∧ fval al * ((2 ^ k : Nat) : Int) ≤ z ∧ z ≤ fval ah * ((2 ^ k : Nat) : Int))) :
    Calls Try.prog 12 #[.agg #[Value.float .f64 al, .float .f64 ah, .bool ab], v] w fun e' w' => e' = .returned (.bool true) ∧ Below w.heap.size w w' := by
  have HV : Hid (NumZ w v (E + k) T z) := hz
  obtain ⟨nx, mx, ex, ⟨ao, len, cap, xs, rfl, -⟩, -⟩ := hz
  obtain ⟨g0, g1, -, gb⟩ := alloc2_facts w (Obj.cells #[Value.float .f64 al, .float .f64 ah, .bool ab] 24) (Obj.cells #[Value.bool nx, Value.slice ao len cap, Value.int IntKind.i64 ex] 27)
  have G0 : Hid _ := g0
  have G1 : Hid _ := g1
  have GB : Hid _ := gb
  clear g0 g1 gb
  go_enter Try.func12, Try.ntmps12
  go_upto_region 1 with fail
  generalize ((w.alloc (Obj.cells #[Value.float .f64 al, .float .f64 ah, .bool ab] 24)).alloc (Obj.cells #[Value.bool nx, Value.slice ao len cap, Value.int IntKind.i64 ex] 27)) = W0 at G0 G1 GB ⊢
  obtain ⟨a0, a1, a2⟩ := cells3 G0.out
  cases ab
  · obtain ⟨hg, hl, hu⟩ : Good al ah false ∧ fval al * ((2 ^ k : Nat) : Int) ≤ z ∧ z ≤ fval ah * ((2 ^ k : Nat) : Int) := by
      rcases hh with c | c
      · cases c
      · exact c
    have HG : Hid (Good al ah false) := hg
    have HL : Hid _ := hl
    have HU : Hid _ := hu
    clear hg hl hu hh
    go_wp2_with fail
    refine Calls.mono (of_any4 al ah false _) ?_
    rintro e w0 ⟨rfl, bw⟩
    have M1 : Hid _ := (bw.block _ (blk_lt G1.out)).trans G1.out
    have MB : Hid (Below w.heap.size w w0) := GB.out.trans (bw.mono GB.out.size)
    have MV : Hid _ := NumZ.later HV.out MB.out
    clear bw G0 G1 GB a0 a1 a2 HV
    go_wp2_with fail
    refine Calls.mono (ends_any al ah false hal hah _ E hE) ?_
    rintro e w1 ⟨v1, u1, rfl, ⟨z1, hz1, hf1⟩, ⟨y1, hy1, hg1⟩, bw⟩
    have Z1 : Hid (NumZ w1 v1 E 1024 z1) := hz1
    have Y1 : Hid (NumZ w1 u1 E 1024 y1) := hy1
    have F1 : Hid (Fin al → z1 = fval al) := hf1
    have H1 : Hid (Fin ah → y1 = fval ah) := hg1
    obtain ⟨nx1, mx1, ex1, ⟨ao1, len1, cap1, xs1, rfl, -⟩, -⟩ := hz1
    obtain ⟨ny1, my1, ey1, ⟨bo1, blen1, bcap1, ys1, rfl, -⟩, -⟩ := hy1
    have M1_1 : Hid _ := (bw.block _ (blk_lt M1.out)).trans M1.out
    have MV_1 : Hid _ := NumZ.later MV.out bw
    have C_1 : Hid (Below w.heap.size w w1) := MB.out.trans (bw.mono MB.out.size)
    clear bw hf1 hg1 MB M1 MV
    rw [decide_eq_true HG.out]
    have HZ1 : Hid (z1 = fval al ∧ y1 = fval ah) := ⟨F1.out HG.out.2.1, H1.out HG.out.2.2.1⟩
    clear F1 H1
    go_upto_region 4 with fail
    obtain ⟨k0, k1, -, kb⟩ := alloc2_facts w1 (Obj.cells #[Value.bool nx1, Value.slice ao1 len1 cap1, Value.int IntKind.i64 ex1] 27) (Obj.cells #[Value.bool ny1, Value.slice bo1 blen1 bcap1, Value.int IntKind.i64 ey1] 27)
    have K1x : Hid _ := k0
    have K1y : Hid _ := k1
    have C1' : Hid (Below w.heap.size w ((w1.alloc (Obj.cells #[Value.bool nx1, Value.slice ao1 len1 cap1, Value.int IntKind.i64 ex1] 27)).alloc (Obj.cells #[Value.bool ny1, Value.slice bo1 blen1 bcap1, Value.int IntKind.i64 ey1] 27))) := C_1.out.trans (kb.mono C_1.out.size)
    have M1_1' : Hid _ := (kb.block _ (blk_lt M1_1.out)).trans M1_1.out
    have Z1' : Hid _ := NumZ.later Z1.out kb
    have Y1' : Hid _ := NumZ.later Y1.out kb
    have MV_1' : Hid _ := NumZ.later MV_1.out kb
    clear k0 k1 kb C_1 M1_1 Z1 Y1 MV_1
    generalize ((w1.alloc (Obj.cells #[Value.bool nx1, Value.slice ao1 len1 cap1, Value.int IntKind.i64 ex1] 27)).alloc (Obj.cells #[Value.bool ny1, Value.slice bo1 blen1 bcap1, Value.int IntKind.i64 ey1] 27)) = V1 at K1x K1y C1' M1_1' Z1' Y1' MV_1' ⊢
    have Zp : Hid (NumZ V1 _ (E + k) T (z1 * ((2 ^ k : Nat) : Int))) := NumZ.mono (NumZ.more Z1'.out k) (by omega)
    have Zq : Hid (NumZ V1 _ (E + k) T (y1 * ((2 ^ k : Nat) : Int))) := NumZ.mono (NumZ.more Y1'.out k) (by omega)
    have s1 : decide (sgi (z1 * ((2 ^ k : Nat) : Int) - z) ≤ 0) = true := by
      apply decide_eq_true
      rw [sgi_le, HZ1.out.1]; have := HL.out; omega
    have s2 : decide (sgi (z - y1 * ((2 ^ k : Nat) : Int)) ≤ 0) = true := by
      apply decide_eq_true
      rw [sgi_le, HZ1.out.2]; have := HU.out; omega
    have S1 : Hid _ := s1
    have S2 : Hid _ := s2
    clear s1 s2 HL HU HZ1
    generalize z1 * ((2 ^ k : Nat) : Int) = zp at Zp S1
    generalize y1 * ((2 ^ k : Nat) : Int) = zq at Zq S2
    obtain ⟨x0, x1, x2⟩ := cells3 K1x.out
    obtain ⟨q0, q1, q2⟩ := cells3 K1y.out
    obtain ⟨t0, t1, t2⟩ := cells3 M1_1'.out
    go_wp2_with fail
    refine Calls.mono (cmpZ_any _ _ (E + k) T zp z _ Zp.out MV_1'.out (by omega) (by omega)) ?_
    rintro e wc ⟨rfl, bw⟩
    have CC : Hid (Below w.heap.size w wc) := C1'.out.trans (bw.mono C1'.out.size)
    have k2 := (bw.block _ (blk_lt K1y.out)).trans K1y.out
    have k3 := (bw.block _ (blk_lt M1_1'.out)).trans M1_1'.out
    have Zq' : Hid _ := NumZ.later Zq.out bw
    have Zv' : Hid _ := NumZ.later MV_1'.out bw
    clear bw x0 x1 x2 q0 q1 q2 t0 t1 t2
    obtain ⟨q0, q1, q2⟩ := cells3 k2
    obtain ⟨t0, t1, t2⟩ := cells3 k3
    clear k2 k3
    have s1 := S1.out
    go_wp2_with fail
    refine Calls.mono (cmpZ_any _ _ (E + k) T z zq _ Zv'.out Zq'.out (by omega) (by omega)) ?_
    rintro e wd ⟨rfl, bw⟩
    have CD : Hid (Below w.heap.size w wd) := CC.out.trans (bw.mono CC.out.size)
    clear bw
    have s2 := S2.out
    go_wp2_with fail
    go_ret
    exact ⟨rfl, CD.out⟩
  · go_wp2_with fail
    go_ret
    exact ⟨rfl, GB.out⟩
end Go.Proofs.Ytkfmffikfpmgdab
