import Derived.Test.YtmbnbleahehdaaaEC
namespace Go.Proofs.Ytmbnbleahehdaaa
open Go.RowKit
set_option linter.unusedVariables false

theorem res_two (f : Func) (i j : Nat) (ty : TypeId) (hf : f.results = #[ResultVar.cell i ty, ResultVar.cell j ty]) (tmps : Array Value) (W : World) (B C : Nat) (c c' : Array Value) (hp : tmps[i]? = some (.pointer (some ⟨B, 0, none⟩))) (hq : tmps[j]? = some (.pointer (some ⟨C, 0, none⟩)))
    (d : TypeDesc) (hu : Try.prog.underlying ty = some d) (hd : d.isRow = true) (n : Nat) (hi : (Try.prog.info? ty).map (·.size) = some n) (hc : c.size = n) (hc' : c'.size = n) (h : W.heap[B]? = some (.cells c ty)) (h' : W.heap[C]? = some (.cells c' ty)) : (results f tmps).run Try.prog W = .ok (.tuple #[.agg c, .agg c']) W := by
  have hr : W.rangeAt B 0 c.toList := by
    have := World.rangeAt_of_block h 0 c.size
    simpa using this
  have hr' : W.rangeAt C 0 c'.toList := by
    have := World.rangeAt_of_block h' 0 c'.size
    simpa using this
  have hl := run_loadVar_mid (P := Try.prog) W B 0 ty c.toList d hr hu hd (by rw [hi]; simp [hc])
  have hl2 : (loadVar ty ⟨B, 0, none⟩).run Try.prog W = .ok (.agg c) W := by simpa using hl
  have hk := run_loadVar_mid (P := Try.prog) W C 0 ty c'.toList d hr' hu hd (by rw [hi]; simp [hc'])
  have hk2 : (loadVar ty ⟨C, 0, none⟩).run Try.prog W = .ok (.agg c') W := by simpa using hk
  simp [results, hf, hp, hq, hl2, hk2, asAddr]
set_option maxRecDepth 100000 in
set_option maxHeartbeats 1000000 in
theorem windowC_any (o kh kw sh sw ph pw fr : Int) (A : Nat) (v1 v2 v3 v4 : Value) (c h k t0 t1 t2 a y b x yy xx cc : Int) (h1 : IntKind.i64.wrap (t1 * sh) = a) (h2 : IntKind.i64.wrap (a - ph) = y) (h3 : IntKind.i64.wrap (t2 * sw) = b) (h4 : IntKind.i64.wrap (b - pw) = x) (h5 : IntKind.i64.wrap (y + kh) = yy) (h6 : IntKind.i64.wrap (x + kw) = xx) (h7 : IntKind.i64.wrap c = cc) (w : World) :
    Calls Try.prog 33 #[.agg #[.int .i64 2, .int .i64 o, .int .i64 kh, .int .i64 kw, .int .i64 sh, .int .i64 sw, .int .i64 ph, .int .i64 pw, .int .i64 fr, .float .f64 A, v1, v2, v3, v4], .agg #[.int .i64 c, .int .i64 h, .int .i64 k], .agg #[.int .i64 t0, .int .i64 t1, .int .i64 t2]] w fun e w' =>
      e = .returned (.tuple #[.agg #[.int .i64 0, .int .i64 y, .int .i64 x], .agg #[.int .i64 cc, .int .i64 yy, .int .i64 xx]]) ∧ Below w.heap.size w w' := by
  have HB : Hid (∀ x1 x2 x3 x4 x5, Below w.heap.size w (((((w.alloc x1).alloc x2).alloc x3).alloc x4).alloc x5)) := fun x1 x2 x3 x4 x5 => (((((Below.refl _ w).alloc (Nat.le_refl _) _).alloc (by simp only [alloc_size]; omega) _).alloc (by simp only [alloc_size]; omega) _).alloc (by simp only [alloc_size]; omega) _).alloc (by simp only [alloc_size]; omega) _
  go_enter Try.func33, Try.ntmps33
  go_wp2_with fail
  go_region
  go_wp2_with fail
  go_region
  go_wp2_with fail
  exact bodyPost_ret (res_two _ 6 7 67 (by kernel_rfl) _ _ (w.heap.size + 1 + 1 + 1) (w.heap.size + 1 + 1 + 1 + 1) _ _ (by rfl) (by rfl) _ Try.underlying67 rfl 3 Try.infoPlace rfl rfl (alloc_kept (heap_at _ _ (w.heap.size + 1 + 1 + 1) (by simp only [alloc_size])) _) (heap_at _ _ (w.heap.size + 1 + 1 + 1 + 1) (by simp only [alloc_size]))) rfl ⟨rfl, (HB.out _ _ _ _ _).drew.drew⟩
set_option maxRecDepth 100000 in
set_option maxHeartbeats 1000000 in
theorem windowM_any (o kh kw sh sw ph pw fr : Int) (A : Nat) (v1 v2 v3 v4 : Value) (c h k t0 t1 t2 a y b x yy xx cc : Int) (h1 : IntKind.i64.wrap (t1 * sh) = a) (h2 : IntKind.i64.wrap (a - ph) = y) (h3 : IntKind.i64.wrap (t2 * sw) = b) (h4 : IntKind.i64.wrap (b - pw) = x) (h5 : IntKind.i64.wrap (y + kh) = yy) (h6 : IntKind.i64.wrap (x + kw) = xx) (h7 : IntKind.i64.wrap (t0 + 1) = cc) (w : World) :
    Calls Try.prog 33 #[.agg #[.int .i64 4, .int .i64 o, .int .i64 kh, .int .i64 kw, .int .i64 sh, .int .i64 sw, .int .i64 ph, .int .i64 pw, .int .i64 fr, .float .f64 A, v1, v2, v3, v4], .agg #[.int .i64 c, .int .i64 h, .int .i64 k], .agg #[.int .i64 t0, .int .i64 t1, .int .i64 t2]] w fun e w' =>
      e = .returned (.tuple #[.agg #[.int .i64 t0, .int .i64 y, .int .i64 x], .agg #[.int .i64 cc, .int .i64 yy, .int .i64 xx]]) ∧ Below w.heap.size w w' := by
  have HB : Hid (∀ x1 x2 x3 x4 x5, Below w.heap.size w (((((w.alloc x1).alloc x2).alloc x3).alloc x4).alloc x5)) := fun x1 x2 x3 x4 x5 => (((((Below.refl _ w).alloc (Nat.le_refl _) _).alloc (by simp only [alloc_size]; omega) _).alloc (by simp only [alloc_size]; omega) _).alloc (by simp only [alloc_size]; omega) _).alloc (by simp only [alloc_size]; omega) _
  go_enter Try.func33, Try.ntmps33
  go_wp2_with fail
  go_region
  go_wp2_with fail
  exact bodyPost_ret (res_two _ 6 7 67 (by kernel_rfl) _ _ (w.heap.size + 1 + 1 + 1) (w.heap.size + 1 + 1 + 1 + 1) _ _ (by rfl) (by rfl) _ Try.underlying67 rfl 3 Try.infoPlace rfl rfl (alloc_kept (heap_at _ _ (w.heap.size + 1 + 1 + 1) (by simp only [alloc_size])) _) (heap_at _ _ (w.heap.size + 1 + 1 + 1 + 1) (by simp only [alloc_size]))) rfl ⟨rfl, (HB.out _ _ _ _ _).drew⟩
end Go.Proofs.Ytmbnbleahehdaaa
