import Derived.Test.YtmbnbleahehdaaaEJ
import Derived.Test.YtmbnbleahehdaaaEN
namespace Go.Proofs.Ytmbnbleahehdaaa
open Go.RowKit
set_option linter.unusedVariables false

structure IXc (a b d c h k r : Int) : Prop where
  ok : ∀ w, Calls Try.prog 24 #[.agg #[.int .i64 a, .int .i64 b, .int .i64 d], .agg #[.int .i64 c, .int .i64 h, .int .i64 k]] w fun e w' => e = .returned (.int .i64 r) ∧ Below w.heap.size w w'
set_option maxRecDepth 100000 in
set_option maxHeartbeats 8000000 in
theorem convRow_any (x0 x4 x5 x6 x7 x8 x9 x12 x13 : Value) (wo bo : Option Addr) (wn wc bn bc : Nat) (us vs : List Nat) (o kh kw c h k c' h' k' r s i f0 f1 f2 g0 g1 g2 oc fc : Int) (f : Nat) (ps : List P3) (ix d0 d1 d2 kk : P3 → Int) (jx : P3 → Nat) (hps : ps.length ≤ 1000) (hfb : f < bn)
    (hoc : IntKind.i64.wrap (o * c) = oc) (hfc : IntKind.i64.wrap ((f : Int) * c) = fc) (hkk : ∀ p, p ∈ ps → IntKind.i64.wrap (d0 p + fc) = kk p) (hjx : ∀ p, p ∈ ps → jx p < wn)
    (hO : ∀ w, Calls Try.prog 18 #[.agg #[x0, .int .i64 o, .int .i64 kh, .int .i64 kw, x4, x5, x6, x7, x8, x9, .slice wo wn wc, .slice bo bn bc, x12, x13], .agg #[.int .i64 c, .int .i64 h, .int .i64 k]] w fun e w' => e = .returned (.tuple #[.agg #[.int .i64 c', .int .i64 h', .int .i64 k'], .int .i64 0]) ∧ Below w.heap.size w w')
    (hP : ∀ w, Calls Try.prog 23 #[.int .i64 i, .agg #[.int .i64 c', .int .i64 h', .int .i64 k']] w fun e w' => e = .returned (.agg #[.int .i64 (f : Int), .int .i64 r, .int .i64 s]) ∧ Below w.heap.size w w')
    (hN : ∀ w, Calls Try.prog 33 #[.agg #[x0, .int .i64 o, .int .i64 kh, .int .i64 kw, x4, x5, x6, x7, x8, x9, .slice wo wn wc, .slice bo bn bc, x12, x13], .agg #[.int .i64 c, .int .i64 h, .int .i64 k], .agg #[.int .i64 (f : Int), .int .i64 r, .int .i64 s]] w fun e w' => e = .returned (.tuple #[.agg #[.int .i64 f0, .int .i64 f1, .int .i64 f2], .agg #[.int .i64 g0, .int .i64 g1, .int .i64 g2]]) ∧ Below w.heap.size w w')
    (hW : ∀ w, Calls Try.prog 22 #[.agg #[x0, .int .i64 o, .int .i64 kh, .int .i64 kw, x4, x5, x6, x7, x8, x9, .slice wo wn wc, .slice bo bn bc, x12, x13], .agg #[.int .i64 c, .int .i64 h, .int .i64 k], .agg #[.int .i64 (f : Int), .int .i64 r, .int .i64 s]] w fun e w' => ∃ v, e = .returned v ∧ OwnP w' w.heap.size v ps ∧ Below w.heap.size w w')
    (hI : ∀ p, p ∈ ps → ∀ w, Calls Try.prog 24 #[.agg #[.int .i64 p.1, .int .i64 p.2.1, .int .i64 p.2.2], .agg #[.int .i64 c, .int .i64 h, .int .i64 k]] w fun e w' => e = .returned (.int .i64 (ix p)) ∧ Below w.heap.size w w')
    (hF : ∀ p, p ∈ ps → ∀ w, Calls Try.prog 45 #[.agg #[.int .i64 p.1, .int .i64 p.2.1, .int .i64 p.2.2], .agg #[.int .i64 f0, .int .i64 f1, .int .i64 f2]] w fun e w' => e = .returned (.agg #[.int .i64 (d0 p), .int .i64 (d1 p), .int .i64 (d2 p)]) ∧ Below w.heap.size w w')
    (hJ : ∀ p, p ∈ ps → ∀ w, Calls Try.prog 24 #[.agg #[.int .i64 (kk p), .int .i64 (d1 p), .int .i64 (d2 p)], .agg #[.int .i64 oc, .int .i64 kh, .int .i64 kw]] w fun e w' => e = .returned (.int .i64 (jx p : Int)) ∧ Below w.heap.size w w')
    (w : World) (hUW : RdF w wo wn wc us) (hUB : RdF w bo bn bc vs) :
    Calls Try.prog 36 #[.agg #[x0, .int .i64 o, .int .i64 kh, .int .i64 kw, x4, x5, x6, x7, x8, x9, .slice wo wn wc, .slice bo bn bc, x12, x13], .agg #[.int .i64 c, .int .i64 h, .int .i64 k], .int .i64 i] w fun e w' => ∃ v1 v2, e = .returned (.agg #[v1, v2, .float .f64 (vs[f]?.getD 0)]) ∧ v1.oneCell' = true ∧ v2.oneCell' = true ∧ RowV w' w.heap.size v1 v2 (ps.map ix) (ps.map fun p => us[jx p]?.getD 0) ∧ Below w.heap.size w w' := by
  have HO : Hid _ := hO
  have HP : Hid _ := hP
  have HN : Hid _ := hN
  have HW : Hid _ := hW
  have HI : Hid _ := hI
  have HF : Hid _ := hF
  have HJ : Hid _ := hJ
  have HUW : Hid _ := hUW
  have HUB : Hid _ := hUB
  have HKK : Hid _ := hkk
  have HJX : Hid _ := hjx
  clear hO hP hN hW hI hF hJ hUW hUB hkk hjx
  have j0 : (0 : Int) ≤ (f : Int) := by omega
  have j1 : (f : Int) < (bn : Int) := by omega
  go_enter Try.func36, Try.ntmps36
  go_wp2_with fail
  refine Calls.mono (HO.out _) ?_
  rintro e w1 ⟨rfl, hb⟩
  have HB1 : Hid (Below w.heap.size w w1) := to_call ((((Below.refl _ w).alloc (Nat.le_refl _) _).alloc (by simp only [alloc_size]; omega) _).alloc (by simp only [alloc_size]; omega) _) hb
  have k0 := kept hb (alloc_kept (alloc_kept (heap_alloc_new w _) _) _)
  have k1 := kept hb (alloc_kept (heap_at _ _ (w.heap.size + 1) (by simp only [alloc_size])) _)
  have k2 := kept hb (heap_at _ _ (w.heap.size + 1 + 1) (by simp only [alloc_size]))
  have hsz := blk_lt k2
  clear hb HO
  go_wp2_with fail
  have X1 : Below w.heap.size w (w1.alloc (.cells #[.int .i64 c', .int .i64 h', .int .i64 k'] 25)) := HB1.out.alloc HB1.out.size _
  refine Calls.mono (HP.out _) ?_
  rintro e w3 ⟨rfl, hb⟩
  have HB3 : Hid (Below w.heap.size w w3) := to_call X1 hb
  have m0 := kept hb (alloc_kept k0 _)
  have m1 := kept hb (alloc_kept k1 _)
  have m2 := kept hb (alloc_kept k2 _)
  have hs3 : w1.heap.size + 1 ≤ w3.heap.size := by have := hb.size; rw [alloc_size] at this; exact this
  clear hb HP X1 k0 k1 k2 HB1
  go_upto_region 3 with fail
  have X3 : Hid (Below w.heap.size w (w3.alloc (.cells #[.int .i64 (f : Int), .int .i64 r, .int .i64 s] 67))) := HB3.out.alloc HB3.out.size _
  have p0 := alloc_kept m0 (.cells #[.int .i64 (f : Int), .int .i64 r, .int .i64 s] 67)
  have p1 := alloc_kept m1 (.cells #[.int .i64 (f : Int), .int .i64 r, .int .i64 s] 67)
  have p2 := alloc_kept m2 (.cells #[.int .i64 (f : Int), .int .i64 r, .int .i64 s] 67)
  have p3 := heap_alloc_new w3 (.cells #[.int .i64 (f : Int), .int .i64 r, .int .i64 s] 67)
  have hs4 : (w3.alloc (.cells #[.int .i64 (f : Int), .int .i64 r, .int .i64 s] 67)).heap.size = w3.heap.size + 1 := alloc_size ..
  generalize w3.alloc (.cells #[.int .i64 (f : Int), .int .i64 r, .int .i64 s] 67) = w4 at *
  clear m0 m1 m2 HB3
  obtain ⟨b0, b1, b2⟩ := cells3 p1
  obtain ⟨t0, t1, t2⟩ := cells3 p3
  go_wp2_with (first | (refine wpList_load_row (by rfl) 30 _ (by rfl) w.heap.size _ (by rfl) p0 _ Try.underlying30 rfl 14 Try.infoLy (by rfl) ?_))
  refine Calls.mono (HN.out _) ?_
  rintro e w5 ⟨rfl, hb⟩
  have HB5 : Hid (Below w.heap.size w w5) := to_call X3.out hb
  have n0 := kept hb p0
  have n1 := kept hb p1
  have n2 := kept hb p2
  have n3 := kept hb p3
  have hs5 : w3.heap.size + 1 ≤ w5.heap.size := by have := hb.size; omega
  clear hb HN X3 p0 p1 p2 p3 b0 b1 b2 t0 t1 t2 hs4
  go_upto_region 4 with fail
  have HB6 : Hid (Below w.heap.size w ((w5.alloc (.cells #[.int .i64 f0, .int .i64 f1, .int .i64 f2] 67)).alloc (.cells #[.int .i64 g0, .int .i64 g1, .int .i64 g2] 67))) := (HB5.out.alloc HB5.out.size _).alloc (by simp only [alloc_size]; have := HB5.out.size; omega) _
  have m0 := alloc_kept (alloc_kept n0 (.cells #[.int .i64 f0, .int .i64 f1, .int .i64 f2] 67)) (.cells #[.int .i64 g0, .int .i64 g1, .int .i64 g2] 67)
  have m1 := alloc_kept (alloc_kept n1 (.cells #[.int .i64 f0, .int .i64 f1, .int .i64 f2] 67)) (.cells #[.int .i64 g0, .int .i64 g1, .int .i64 g2] 67)
  have m2 := alloc_kept (alloc_kept n2 (.cells #[.int .i64 f0, .int .i64 f1, .int .i64 f2] 67)) (.cells #[.int .i64 g0, .int .i64 g1, .int .i64 g2] 67)
  have m3 := alloc_kept (alloc_kept n3 (.cells #[.int .i64 f0, .int .i64 f1, .int .i64 f2] 67)) (.cells #[.int .i64 g0, .int .i64 g1, .int .i64 g2] 67)
  have m4 := alloc_kept (heap_alloc_new w5 (.cells #[.int .i64 f0, .int .i64 f1, .int .i64 f2] 67)) (.cells #[.int .i64 g0, .int .i64 g1, .int .i64 g2] 67)
  have hs6 : ((w5.alloc (.cells #[.int .i64 f0, .int .i64 f1, .int .i64 f2] 67)).alloc (.cells #[.int .i64 g0, .int .i64 g1, .int .i64 g2] 67)).heap.size = w5.heap.size + 2 := by simp only [alloc_size]
  generalize (w5.alloc (.cells #[.int .i64 f0, .int .i64 f1, .int .i64 f2] 67)).alloc (.cells #[.int .i64 g0, .int .i64 g1, .int .i64 g2] 67) = v1f at *
  clear n0 n1 n2 n3 HB5
  obtain ⟨b0, b1, b2⟩ := cells3 m1
  obtain ⟨t0, t1, t2⟩ := cells3 m3
  have a1 := cellOf m0 1 (.int .i64 o) rfl
  have a2 := cellOf m0 2 (.int .i64 kh) rfl
  have a3 := cellOf m0 3 (.int .i64 kw) rfl
  go_upto_region 6 with fail
  have HB7 : Hid (Below w.heap.size w (v1f.alloc (.cells #[.int .i64 oc, .int .i64 kh, .int .i64 kw] 25))) := HB6.out.alloc HB6.out.size _
  have q0 := alloc_kept m0 (.cells #[.int .i64 oc, .int .i64 kh, .int .i64 kw] 25)
  have q1 := alloc_kept m1 (.cells #[.int .i64 oc, .int .i64 kh, .int .i64 kw] 25)
  have q2 := alloc_kept m2 (.cells #[.int .i64 oc, .int .i64 kh, .int .i64 kw] 25)
  have q3 := alloc_kept m3 (.cells #[.int .i64 oc, .int .i64 kh, .int .i64 kw] 25)
  have q4 := alloc_kept m4 (.cells #[.int .i64 oc, .int .i64 kh, .int .i64 kw] 25)
  have q5 := heap_at v1f (.cells #[.int .i64 oc, .int .i64 kh, .int .i64 kw] 25) (w5.heap.size + 2) hs6
  have hs7 : (v1f.alloc (.cells #[.int .i64 oc, .int .i64 kh, .int .i64 kw] 25)).heap.size = w5.heap.size + 3 := by rw [alloc_size]; omega
  generalize v1f.alloc (.cells #[.int .i64 oc, .int .i64 kh, .int .i64 kw] 25) = v2 at *
  clear m0 m1 m2 m3 m4 HB6 b0 b1 b2 t0 t1 t2 a1 a2 a3
  rcases (HUB.out.later HB7.out).cells with z | ⟨bb, boff, rfl, hcB⟩
  · omega
  have gB := hcB f hfb
  have a11 := cellOf q0 11 (.slice (some ⟨bb, boff, none⟩) bn bc) rfl
  clear hcB
  go_upto_region 7 with (first | (refine wpList_store_row (by rfl) 71 _ _ (by rfl) w w.heap.size (w5.heap.size + 3) _ _ (by rfl) (by rfl) (heap_at v2 _ (w5.heap.size + 3) hs7) (HB7.out.alloc HB7.out.size _) (by omega) 3 Try.infoRow (by rfl) (by rfl) (by exact one_row _ _ _ rfl rfl) ?_; intro v3 s6 hb8 hs8 ho8))
  have HB8 : Hid (Below w.heap.size w v3) := hb8
  have s0 := (ho8 _ (by omega)).trans (alloc_kept q0 _)
  have s1 := (ho8 _ (by omega)).trans (alloc_kept q1 _)
  have s2 := (ho8 _ (by omega)).trans (alloc_kept q2 _)
  have s3 := (ho8 _ (by omega)).trans (alloc_kept q3 _)
  have s4 := (ho8 _ (by omega)).trans (alloc_kept q4 _)
  have s5 := (ho8 _ (by omega)).trans (alloc_kept q5 _)
  have hs9 : v3.heap.size = w5.heap.size + 4 := by rw [hs8, alloc_size]; omega
  clear q0 q1 q2 q3 q4 q5 HB7 gB a11 hb8 hs8 ho8
  obtain ⟨b0, b1, b2⟩ := cells3 s1
  obtain ⟨t0, t1, t2⟩ := cells3 s3
  go_wp2_with (first
    | (refine wpList_load_row (by rfl) 30 _ (by rfl) w.heap.size _ (by rfl) s0 _ Try.underlying30 rfl 14 Try.infoLy (by rfl) ?_)
    | (go_at_call 22; refine Calls.mono (HW.out _) ?_; rintro e6 w6 ⟨v6, rfl, op6, hb6⟩; have G6 : Hid (Below v3.heap.size v3 w6) := hb6; have OP6 : Hid (OwnP w6 v3.heap.size v6 ps) := op6; clear hb6 op6; obtain ⟨ao6, cap6, rfl⟩ := OP6.out.sl))
  have B6 : Hid (Below w.heap.size w w6) := to_call HB8.out G6.out
  have M0 : Hid _ := kept G6.out s0
  have M1 : Hid _ := kept G6.out s1
  have M2 : Hid _ := kept G6.out s2
  have M4 : Hid _ := kept G6.out s4
  have M5 : Hid _ := kept G6.out s5
  have M6 : Hid _ := kept G6.out s6
  have hl6 := blk_lt M6.out
  have HO6 : Hid (RowO w6 w6.heap.size (w5.heap.size + 3) [] [] (vs[f]?.getD 0)) := ⟨_, _, M6.out, rfl, rfl, World.ownsRow_nil _ _ _ 1, World.ownsRow_nil _ _ _ 1⟩
  have hv36 : w5.heap.size + 4 ≤ w6.heap.size := by have := G6.out.size; omega
  rw [hs9] at OP6
  clear b0 b1 b2 t0 t1 t2 s0 s1 s2 s3 s4 s5 s6 G6 HW HB8
  go_loopg [57] ps.length (fun g v wx => ∃ j : Nat, v = .int .i64 j ∧ j + g = ps.length ∧ Hid (RowO wx w6.heap.size (w5.heap.size + 3) ((ps.take j).map ix) ((ps.take j).map fun p => us[jx p]?.getD 0) (vs[f]?.getD 0)) ∧ Hid (Below w.heap.size w wx) ∧ Hid (∀ k, k < w6.heap.size → k ≠ w5.heap.size + 3 → wx.heap[k]? = w6.heap[k]?) ∧ w6.heap.size ≤ wx.heap.size)
  case atStart => exact ⟨0, rfl, by omega, HO6.out, B6.out, fun _ _ _ => rfl, Nat.le_refl _⟩
  case round =>
    obtain ⟨j, rfl, hj, HO, HB, HK, hwr⟩ := hrel
    by_cases hlt : j < ps.length
    · obtain ⟨g, rfl⟩ : ∃ g, gk = g + 1 := ⟨gk - 1, by omega⟩
      have hd : decide ((j : Int) < (ps.length : Int)) = true := decide_eq_true (by omega)
      obtain ⟨gb, rfl, hgb, hgl, t0, t1, t2⟩ := OP6.out.at hlt
      obtain ⟨p, hp⟩ : ∃ p, ps[j] = p := ⟨_, rfl⟩
      have hpm : p ∈ ps := by rw [← hp]; exact List.getElem_mem hlt
      have HTK : Hid (ps.take (j + 1) = ps.take j ++ [p]) := by unfold Hid; rw [List.take_succ_eq_append_getElem hlt, hp]
      rw [hp] at t0 t1 t2
      have hcg := cell_of_heapE (HK.out gb hgl (by omega))
      rw [← hcg] at t0 t1 t2
      have i0 : (0 : Int) ≤ (j : Int) := by omega
      have i1 : (j : Int) < (ps.length : Int) := by omega
      have hw1 : IntKind.i64.wrap ((j : Int) + 1) = (j : Int) + 1 := by have := hps; rw [IntKind.wrap_i64]; omega
      have hkp := HKK.out p hpm
      have hjp := HJX.out p hpm
      have ix1 : IXc p.1 p.2.1 p.2.2 c h k (ix p) := ⟨HI.out p hpm⟩
      have ix2 : IXc (kk p) (d1 p) (d2 p) oc kh kw (jx p : Int) := ⟨HJ.out p hpm⟩
      have hFp : Hid _ := HF.out p hpm
      go_upto_region 10 with fail
      have X4 : (wr.alloc (Obj.cells #[.int .i64 p.1, .int .i64 p.2.1, .int .i64 p.2.2] 67)).heap[w5.heap.size]? = _ := alloc_kept ((HK.out _ (by omega) (by omega)).trans M4.out) (Obj.cells #[.int .i64 p.1, .int .i64 p.2.1, .int .i64 p.2.2] 67)
      obtain ⟨f0c, f1c, f2c⟩ := cells3 X4
      clear t0 t1 t2 hcg
      go_wp2_with fail
      refine Calls.mono (hFp.out _) ?_
      rintro e7 w7 ⟨rfl, hb7⟩
      have XB : Hid (Below wr.heap.size wr (wr.alloc (Obj.cells #[.int .i64 p.1, .int .i64 p.2.1, .int .i64 p.2.2] 67))) := (Below.refl _ wr).alloc (Nat.le_refl _) _
      have Y3 := kept hb7 (heap_alloc_new wr (Obj.cells #[.int .i64 p.1, .int .i64 p.2.1, .int .i64 p.2.2] 67))
      have Y0 := kept hb7 (alloc_kept ((HK.out _ (by omega) (by omega)).trans M0.out) (Obj.cells #[.int .i64 p.1, .int .i64 p.2.1, .int .i64 p.2.2] 67))
      have Y1 := kept hb7 (alloc_kept ((HK.out _ (by omega) (by omega)).trans M1.out) (Obj.cells #[.int .i64 p.1, .int .i64 p.2.1, .int .i64 p.2.2] 67))
      have Y5 := kept hb7 (alloc_kept ((HK.out _ (by omega) (by omega)).trans M5.out) (Obj.cells #[.int .i64 p.1, .int .i64 p.2.1, .int .i64 p.2.2] 67))
      have G7 : Hid (Below wr.heap.size wr w7) := to_call XB.out hb7
      obtain ⟨b0, b1, b2⟩ := cells3 Y1
      clear hb7 XB X4 f0c f1c f2c hFp
      go_upto_region 11 with fail
      have hm7 : w.heap.size ≤ w7.heap.size := Nat.le_trans (Nat.le_trans (show w.heap.size ≤ w6.heap.size by omega) hwr) G7.out.size
      have V7 : Below w.heap.size w (w7.alloc (Obj.cells #[.int .i64 (d0 p), .int .i64 (d1 p), .int .i64 (d2 p)] 67)) := (to_call HB.out G7.out).alloc hm7 _
      have V7r : Below wr.heap.size wr (w7.alloc (Obj.cells #[.int .i64 (d0 p), .int .i64 (d1 p), .int .i64 (d2 p)] 67)) := G7.out.alloc G7.out.size _
      have y0 := alloc_kept Y0 (Obj.cells #[.int .i64 (d0 p), .int .i64 (d1 p), .int .i64 (d2 p)] 67)
      have y1 := alloc_kept Y1 (Obj.cells #[.int .i64 (d0 p), .int .i64 (d1 p), .int .i64 (d2 p)] 67)
      have y3 := alloc_kept Y3 (Obj.cells #[.int .i64 (d0 p), .int .i64 (d1 p), .int .i64 (d2 p)] 67)
      have y5 := alloc_kept Y5 (Obj.cells #[.int .i64 (d0 p), .int .i64 (d1 p), .int .i64 (d2 p)] 67)
      have y6 := heap_alloc_new w7 (Obj.cells #[.int .i64 (d0 p), .int .i64 (d1 p), .int .i64 (d2 p)] 67)
      have hm8 : (w7.alloc (Obj.cells #[.int .i64 (d0 p), .int .i64 (d1 p), .int .i64 (d2 p)] 67)).heap.size = w7.heap.size + 1 := alloc_size ..
      have hm9 : wr.heap.size + 1 ≤ w7.heap.size := by have := blk_lt Y3; omega
      generalize w7.alloc (Obj.cells #[.int .i64 (d0 p), .int .i64 (d1 p), .int .i64 (d2 p)] 67) = v7 at *
      clear Y0 Y1 Y3 Y5 b0 b1 b2
      obtain ⟨b0, b1, b2⟩ := cells3 y1
      obtain ⟨k0, k1, k2⟩ := cells3 y6
      go_upto_region 12 with (first | (refine wpList_store_at (by rfl) 3 _ _ (by rfl) wr wr.heap.size w7.heap.size 0 (.int .i64 (kk p)) _ #[.int .i64 (kk p), .int .i64 (d1 p), .int .i64 (d2 p)] 67 (by rfl) (by rfl) y6 V7r G7.out.size 1 Try.infoInt (by rfl) (Nat.le_of_ble_eq_true rfl) (by exact one_int _) (by rfl) ?_; intro v8 e8 hb8 hs8 ho8))
      have V8r : Hid (Below wr.heap.size wr v8) := hb8
      have hw8 : v8.heap.size = w7.heap.size + 1 := by omega
      have Z0 : Hid _ := (ho8 _ (by omega)).trans y0
      have Z1 : Hid _ := (ho8 _ (by omega)).trans y1
      have Z3 : Hid _ := (ho8 _ (by omega)).trans y3
      have Z5 : Hid _ := (ho8 _ (by omega)).trans y5
      have Z6 : Hid _ := e8
      rcases (HUW.out.later (to_call HB.out V8r.out)).cells with z | ⟨bw, woff, rfl, hcW⟩
      · omega
      have gW0 := hcW (jx p) hjp
      have lW : bw < v8.heap.size := World.block_lt_of_cell? v8 _ gW0
      have lWw : bw < w.heap.size := by
        rcases HUW.out.cells with z | ⟨b', o', he, hc⟩
        · omega
        · cases he; exact World.block_lt_of_cell? w _ (hc (jx p) hjp)
      have D8 : Hid (Below v8.heap.size v8 v8.drew) := (Below.refl _ _).drew
      clear hcW hb8 hs8 ho8 e8 y0 y1 y3 y5 y6 b0 b1 b2 k0 k1 k2 V7 V7r hm8
      obtain ⟨u0, u1, u2⟩ := cells3 (kept D8.out Z3.out)
      obtain ⟨b0, b1, b2⟩ := cells3 (kept D8.out Z1.out)
      obtain ⟨q0, q1, q2⟩ := cells3 (kept D8.out Z5.out)
      obtain ⟨k0, k1, k2⟩ := cells3 (kept D8.out Z6.out)
      have a10 := cellOf (kept D8.out Z0.out) 10 (.slice (some ⟨bw, woff, none⟩) wn wc) rfl
      have gW := (D8.out.cell (p := ⟨bw, woff + jx p, none⟩) lW).trans gW0
      have jj0 : (0 : Int) ≤ (jx p : Int) := by omega
      have jj1 : (jx p : Int) < (wn : Int) := by omega
      have hl1 : ((ps.take j).map ix).length ≤ 1000 := by rw [List.length_map, List.length_take]; omega
      have hl2 : ((ps.take j).map fun p => us[jx p]?.getD 0).length ≤ 1000 := by rw [List.length_map, List.length_take]; omega
      have HO8 : Hid _ := RowO.later HO.out V8r.out
      go_region_held3 (fun w' => w'.cell? ⟨wr.heap.size, 0, none⟩ = some (.int .i64 p.1) ∧ w'.cell? ⟨wr.heap.size, 1, none⟩ = some (.int .i64 p.2.1) ∧ w'.cell? ⟨wr.heap.size, 2, none⟩ = some (.int .i64 p.2.2) ∧ w'.cell? ⟨w.heap.size + 1, 0, none⟩ = some (.int .i64 c) ∧ w'.cell? ⟨w.heap.size + 1, 1, none⟩ = some (.int .i64 h) ∧ w'.cell? ⟨w.heap.size + 1, 2, none⟩ = some (.int .i64 k) ∧ w'.cell? ⟨w7.heap.size, 0, none⟩ = some (.int .i64 (kk p)) ∧ w'.cell? ⟨w7.heap.size, 1, none⟩ = some (.int .i64 (d1 p)) ∧ w'.cell? ⟨w7.heap.size, 2, none⟩ = some (.int .i64 (d2 p)) ∧ w'.cell? ⟨w5.heap.size + 2, 0, none⟩ = some (.int .i64 oc) ∧ w'.cell? ⟨w5.heap.size + 2, 1, none⟩ = some (.int .i64 kh) ∧ w'.cell? ⟨w5.heap.size + 2, 2, none⟩ = some (.int .i64 kw) ∧ w'.cell? ⟨w.heap.size, 10, none⟩ = some (.slice (some ⟨bw, woff, none⟩) wn wc) ∧ w'.cell? ⟨bw, woff + jx p, none⟩ = some (.float .f64 (us[jx p]?.getD 0))) (go_keep)
        (first
          | (go_at_call 24; refine Calls.mono ((show IXc _ _ _ _ _ _ _ by first | exact ix1 | exact ix2).ok _) ?_; rintro e9 w9 ⟨rfl, hb9⟩; first | (have G9 : Hid (Below v8.heap.size v8 w9) := D8.out.trans hb9; clear hb9; obtain ⟨u0, u1, u2⟩ := cells3 (kept G9.out Z3.out); obtain ⟨b0, b1, b2⟩ := cells3 (kept G9.out Z1.out); obtain ⟨q0, q1, q2⟩ := cells3 (kept G9.out Z5.out); obtain ⟨k0, k1, k2⟩ := cells3 (kept G9.out Z6.out); have a10 := cellOf (kept G9.out Z0.out) 10 (.slice (some ⟨bw, woff, none⟩) wn wc) rfl; have gW := (G9.out.cell (p := ⟨bw, woff + jx p, none⟩) lW).trans gW0) | (have GA : Hid (Below v8.heap.size v8 w9) := G9.out.trans (hb9.mono G9.out.size); clear hb9; obtain ⟨u0, u1, u2⟩ := cells3 (kept GA.out Z3.out); obtain ⟨b0, b1, b2⟩ := cells3 (kept GA.out Z1.out); obtain ⟨q0, q1, q2⟩ := cells3 (kept GA.out Z5.out); obtain ⟨k0, k1, k2⟩ := cells3 (kept GA.out Z6.out); have a10 := cellOf (kept GA.out Z0.out) 10 (.slice (some ⟨bw, woff, none⟩) wn wc) rfl; have gW := (GA.out.cell (p := ⟨bw, woff + jx p, none⟩) lW).trans gW0))
          | (go_at_call 44; refine Calls.mono (put2_any (w5.heap.size + 3) w6.heap.size _ _ _ (ix p) (us[jx p]?.getD 0) _ (RowO.later HO8.out GA.out) (Nat.le_trans (Nat.le_trans hwr V8r.out.size) GA.out.size) w.heap.size (by omega) (by omega) hl1 hl2) ?_; rintro eb wb ⟨rfl, ob, bb', tb, tT⟩; obtain ⟨u0, u1, u2⟩ := cells3 (tT _ _ _ (kept GA.out Z3.out) (by decide) (by decide) (by omega)); obtain ⟨b0, b1, b2⟩ := cells3 (tT _ _ _ (kept GA.out Z1.out) (by decide) (by decide) (by omega)); obtain ⟨q0, q1, q2⟩ := cells3 (tT _ _ _ (kept GA.out Z5.out) (by decide) (by decide) (by omega)); obtain ⟨k0, k1, k2⟩ := cells3 (tT _ _ _ (kept GA.out Z6.out) (by decide) (by decide) (by omega)); have a10 := cellOf (tT _ _ _ (kept GA.out Z0.out) (by decide) (by decide) (by omega)) 10 (.slice (some ⟨bw, woff, none⟩) wn wc) rfl; have gW := (cell_of_heapE (tb bw (by omega) (by omega)) (woff + jx p)).trans ((GA.out.cell (p := ⟨bw, woff + jx p, none⟩) lW).trans gW0)))
      have HOb : Hid _ := ob
      have HBb : Hid (Below w.heap.size w wb) := (to_call (to_call HB.out V8r.out) GA.out).trans bb'
      have HKb : Hid (∀ k, k < w6.heap.size → k ≠ w5.heap.size + 3 → wb.heap[k]? = w6.heap[k]?) := fun k hk hne => (((tb k hk hne).trans (GA.out.block k (by omega))).trans (V8r.out.block k (by omega))).trans (HK.out k hk hne)
      have hsb : w6.heap.size ≤ wb.heap.size := Nat.le_trans (Nat.le_trans (Nat.le_trans hwr V8r.out.size) GA.out.size) bb'.size
      clear ob bb' tb tT u0 u1 u2 b0 b1 b2 q0 q1 q2 k0 k1 k2 a10 gW
      go_wp2_with fail
      go_roundg g
      case measure => omega
      case rel => exact ⟨j + 1, by go_num, by omega, by have := HOb.out; unfold Hid; rw [HTK.out, List.map_append, List.map_append]; exact this, HBb.out, HKb.out, hsb⟩
    · obtain rfl : j = ps.length := by omega
      have hd : decide ((ps.length : Int) < (ps.length : Int)) = false := decide_eq_false (by omega)
      obtain ⟨v1, v2, k1, p1, p2, ov⟩ := HO.out
      have HV : Hid (RowV wr w.heap.size v1 v2 (ps.map ix) (ps.map fun p => us[jx p]?.getD 0)) := by
        have := ov.mono (show w.heap.size ≤ w6.heap.size by omega)
        rw [List.take_length] at this
        exact this
      have K1 : Hid (wr.heap[w5.heap.size + 3]? = _) := k1
      have HKR : Hid (wr.heap[w.heap.size + 1 + 1]? = _) := (HK.out _ (by omega) (by omega)).trans M2.out
      clear k1 ov
      go_wp2_with (first
        | (refine wpList_load_row (by rfl) 71 _ (by rfl) (w5.heap.size + 3) _ (by rfl) K1.out _ Try.underlying71 rfl 3 Try.infoRow (by rfl) ?_)
        | (refine wpList_store_row (by rfl) 71 _ _ (by rfl) w w.heap.size (w.heap.size + 1 + 1) _ _ (by rfl) (by rfl) HKR.out HB.out (by omega) 3 Try.infoRow (by rfl) (by rfl) (by exact one_row _ _ _ p1 p2) ?_; intro W9 e9 hb9 hs9 ho9))
      refine bodyPost_ret (res_one _ 6 71 (by kernel_rfl) _ _ (w.heap.size + 1 + 1) _ (by rfl) _ Try.underlying71 rfl 3 Try.infoRow rfl e9) rfl ?_
      refine ⟨v1, v2, rfl, p1, p2, HV.out.keep fun k hk hv => ho9 k fun e => ?_, hb9⟩
      rcases hv with hv | hv
      · exact own_ne HV.out.o1 HKR.out (by decide) (e ▸ hv)
      · exact own_ne HV.out.o2 HKR.out (by decide) (e ▸ hv)
end Go.Proofs.Ytmbnbleahehdaaa
