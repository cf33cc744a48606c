import Derived.Test.YtogdfdhdmfkmaaaGreatJZu
import Derived.Test.YtogdfdhdmfkmaaaGreatGJd
namespace Go.Proofs.YtogdfdhdmfkmaaaGreat
open Go.RowKit Go.Shelf
set_option linter.unusedVariables false
set_option linter.unusedSimpArgs false

/-- What came in is no longer than the bulk, and its words are words. -/
structure UW (u : ZD) : Prop where
  cl : u.cn ≤ 1050000
  rl : u.rn ≤ 1050000
  il : u.dn ≤ 1050000
  gl : u.gn ≤ 1050000
  ll : ∀ k, k < u.gn → (u.gv k).2.1 ≤ 1050000
  c : ∀ x ∈ u.cs, x < 18446744073709551616
  r : ∀ x ∈ u.rs, x < 18446744073709551616
  g : ∀ l ∈ u.gs, ∀ x ∈ l, x < 18446744073709551616
/-- The document's Reals. -/
theorem reals_any (u : ZD) (E : Nat) (hE : E = 1074) (w : World) (hu : ZU w u) (hw : UW u) :
    Calls Tryz.prog 41 #[.agg (zRow u)] w fun e w' => (∃ N' a1 l1 c1 a2 l2 c2 a3 l3 c3 a4 l4 c4, e = .returned (.tuple #[.agg #[.int .i64 N', .slice a1 l1 c1, .slice a2 l2 c2, .slice a3 l3 c3, .slice a4 l4 c4], .bool (!u.bad && wholeB u)]) ∧ ((!u.bad && wholeB u) = true → N' = u.N ∧ ∃ gl, RlS w' w.heap.size E u.cs u.rs u.ids u.gs (.slice a1 l1 c1) (.slice a4 l4 c4) (.slice a2 l2 c2) (.slice a3 l3 c3) gl)) ∧ Below w.heap.size w w' := by
  by_cases h : u.bad = true ∨ u.N < 1 ∨ 256 < u.N ∨ u.dn ≠ u.gn
  · exact reals_no u E w h hw.il hw.gl
  · have h0 : u.bad = false := by cases hb : u.bad with | true => exact absurd (.inl hb) h | false => rfl
    have h1 : 1 ≤ u.N := by have : ¬ u.N < 1 := fun c => h (.inr (.inl c)); omega
    have h2 : u.N ≤ 256 := by have : ¬ 256 < u.N := fun c => h (.inr (.inr (.inl c))); omega
    have h3 : u.dn = u.gn := by by_cases c : u.dn = u.gn; exact c; exact absurd (.inr (.inr (.inr c))) h
    clear h
    obtain ⟨N, co, cn, cc, io, dn, dc, go, gn, gc, ro, rn, rc, bad, cs, ids, gv, gs, rs⟩ := u
    dsimp only at h0 h1 h2 h3
    subst h0 h3
    obtain ⟨n, rfl⟩ : ∃ n : Nat, N = (n : Int) := ⟨N.toNat, by omega⟩
    exact reals_yes n co cn cc io dn dc go gc ro rn rc cs ids gv gs rs E hE w hu ⟨by omega, by omega⟩ hw.cl hw.rl hw.il hw.ll hw.c hw.r hw.g
theorem check_or (u : ZD) : ((!u.bad && wholeB u) || emptyB u.bad u.N u.cn u.dn u.gn u.rn) = checkB u := by
  unfold emptyB checkB bareB
  cases u.bad with
  | true =>
    simp only [Bool.not_true, Bool.false_and, Bool.false_or, Bool.true_and, if_true]
    by_cases h1 : u.cn = 0 <;> by_cases h2 : u.dn = 0 <;> by_cases h3 : u.gn = 0 <;> by_cases h4 : u.rn = 0 <;> simp [h1, h2, h3, h4]
  | false => simp
set_option maxRecDepth 100000 in
set_option maxHeartbeats 2000000 in
/-- The document's Check. -/
theorem refCheck_any (u : ZD) (w : World) (hu : ZU w u) (hw : UW u) :
    Calls Tryz.prog 20 #[.agg (zRow u)] w fun e w' => e = .returned (.int .i64 (if checkB u then 0 else 100)) ∧ Below w.heap.size w w' := by
  have HRl : ∀ W', Below w.heap.size w W' → _ := fun W' hb => reals_any u 1074 rfl W' (hu.later hb) hw
  have HEm : ∀ W', _ := fun W' => refEmpty_any u.N u.co u.io u.go u.ro u.cn u.cc u.dn u.dc u.gn u.gc u.rn u.rc u.bad (by have := hw.cl; omega) (by have := hw.il; omega) (by have := hw.gl; omega) (by have := hw.rl; omega) W'
  have HOR : Hid _ := check_or u
  obtain ⟨ok, hok⟩ : ∃ ok, (!u.bad && wholeB u) = ok := ⟨_, rfl⟩
  obtain ⟨em, hem⟩ : ∃ em, emptyB u.bad u.N u.cn u.dn u.gn u.rn = em := ⟨_, rfl⟩
  obtain ⟨cb, hcb⟩ : ∃ cb, checkB u = cb := ⟨_, rfl⟩
  rw [hok, hem, hcb] at HOR
  rw [hok] at HRl
  rw [hem] at HEm
  rw [hcb]
  obtain ⟨rv, hrv⟩ : ∃ rv : Int, (if cb = true then 0 else 100) = rv := ⟨_, rfl⟩
  rw [hrv]
  have HRV : Hid _ := hrv
  clear hok hem hcb hu hw hrv
  obtain ⟨N, co, cn, cc, io, dn, dc, go, gn, gc, ro, rn, rc, bad, cs, ids, gv, gs, rs⟩ := u
  unfold zRow at HRl ⊢
  dsimp only at HRl HEm ⊢
  have HR : Hid _ := HRl
  have HE : Hid _ := HEm
  clear HRl HEm
  have X0 : Below w.heap.size w (w.alloc (.cells #[.int .i64 N, .slice co cn cc, .slice io dn dc, .slice go gn gc, .slice ro rn rc, .bool bad] 33)) := (Below.refl _ w).alloc (Nat.le_refl _) _
  have Y0 : (w.alloc (.cells #[.int .i64 N, .slice co cn cc, .slice io dn dc, .slice go gn gc, .slice ro rn rc, .bool bad] 33)).heap[w.heap.size]? = some (.cells #[.int .i64 N, .slice co cn cc, .slice io dn dc, .slice go gn gc, .slice ro rn rc, .bool bad] 33) := heap_alloc_new w _
  have HX : Hid _ := And.intro X0 Y0
  clear X0 Y0
  go_enter Tryz.func20, Tryz.ntmps20
  go_upto_region 2 with (first
    | (refine wpList_load_row (by rfl) 33 _ (by rfl) w.heap.size _ (by rfl) HX.out.2 _ Tryz.underlying33 rfl 6 Tryz.infoZu (by rfl) ?_)
    | (go_at_call 41; refine Calls.mono (HR.out _ HX.out.1) ?_; rintro e w1 ⟨⟨N', a1, l1, c1, a2, l2, c2, a3, l3, c3, a4, l4, c4, rfl, -⟩, b1⟩))
  have P1 : Hid (Below w.heap.size w (w1.alloc (.cells #[.int .i64 N', .slice a1 l1 c1, .slice a2 l2 c2, .slice a3 l3 c3, .slice a4 l4 c4] 76)) ∧ (w1.alloc (.cells #[.int .i64 N', .slice a1 l1 c1, .slice a2 l2 c2, .slice a3 l3 c3, .slice a4 l4 c4] 76)).heap[w.heap.size]? = some (.cells #[.int .i64 N, .slice co cn cc, .slice io dn dc, .slice go gn gc, .slice ro rn rc, .bool bad] 33)) := ⟨(to_call HX.out.1 b1).alloc (to_call HX.out.1 b1).size _, alloc_kept (kept b1 HX.out.2) _⟩
  clear b1 HR HX
  cases ok
  case true =>
    have HC : Hid (cb = true) := HOR.out.symm
    go_wp2_with fail
    go_ret
    exact ⟨by rw [← HRV.out, HC.out]; rfl, P1.out.1⟩
  case false =>
    have HC : Hid (cb = em) := by unfold Hid; rw [← HOR.out, Bool.false_or]
    cases em
    case true =>
      go_wp2_with (first
        | (refine wpList_load_rowG (by rfl) 33 _ (by rfl) w.heap.size _ (by rfl) P1.out.2 _ Tryz.underlying33 rfl 6 Tryz.infoZu (by rfl) ?_)
        | (go_at_call 42; refine Calls.mono (HE.out _) ?_; rintro e w2 ⟨rfl, b2⟩))
      go_ret
      exact ⟨by rw [← HRV.out, HC.out]; rfl, to_call P1.out.1 b2⟩
    case false =>
      go_wp2_with (first
        | (refine wpList_load_rowG (by rfl) 33 _ (by rfl) w.heap.size _ (by rfl) P1.out.2 _ Tryz.underlying33 rfl 6 Tryz.infoZu (by rfl) ?_)
        | (go_at_call 42; refine Calls.mono (HE.out _) ?_; rintro e w2 ⟨rfl, b2⟩))
      go_ret
      exact ⟨by rw [← HRV.out, HC.out]; rfl, to_call P1.out.1 b2⟩
theorem and_eqJ {a b c d : Bool} (h1 : a = b) (h2 : c = d) : (a && c) = (b && d) := by rw [h1, h2]
theorem colsB_eq {N : Int} {co co' : Option Addr} {cn cn' cc cc' : Nat} {io io' : Option Addr} {dn dc dc' : Nat} {go go' : Option Addr} {gn gn' gc gc' : Nat} {ro ro' : Option Addr} {rn rn' rc rc' : Nat} {bad bad' : Bool} {cs cs' : List Nat} {ids : List Int} {gv gv' : Nat → Option Addr × Nat × Nat} {gs : List (List Nat)} {rs rs' : List Nat} :
    ∀ (ks : List (_root_.Fin dn)) (last : Int), colsB ⟨N, co, cn, cc, io, dn, dc, go, gn, gc, ro, rn, rc, bad, cs, ids, gv, gs, rs⟩ last ks = colsB ⟨N, co', cn', cc', io', dn, dc', go', gn', gc', ro', rn', rc', bad', cs', ids, gv', gs, rs'⟩ last ks
  | [], _ => rfl
  | k :: ks, last => and_eqJ rfl (colsB_eq ks _)
/-- Two that have the same numbers are taken alike. -/
theorem checkB_eq (x u : ZD) (hN : x.N = u.N) (hb : x.bad = u.bad) (hc : x.cs = u.cs) (hr : x.rs = u.rs) (hi : x.ids = u.ids) (hg : x.gs = u.gs) (h1 : x.cn = u.cn) (h2 : x.dn = u.dn) (h3 : x.gn = u.gn) (h4 : x.rn = u.rn) : checkB x = checkB u := by
  obtain ⟨N, co, cn, cc, io, dn, dc, go, gn, gc, ro, rn, rc, bad, cs, ids, gv, gs, rs⟩ := x
  obtain ⟨N', co', cn', cc', io', dn', dc', go', gn', gc', ro', rn', rc', bad', cs', ids', gv', gs', rs'⟩ := u
  dsimp only at hN hb hc hr hi hg h1 h2 h3 h4
  subst hN hb hc hr hi hg h1 h2 h3 h4
  unfold checkB bareB wholeB
  dsimp only
  rw [colsB_eq]
end Go.Proofs.YtogdfdhdmfkmaaaGreat
