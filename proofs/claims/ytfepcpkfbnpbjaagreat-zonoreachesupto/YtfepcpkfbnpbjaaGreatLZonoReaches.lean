import Derived.Test.YtfepcpkfbnpbjaaGreatJXv
import Derived.Test.YtfepcpkfbnpbjaaGreatGJh
namespace Go.Proofs.YtfepcpkfbnpbjaaGreat
open Go.RowKit Go.Shelf
set_option linter.unusedVariables false
set_option linter.unusedSimpArgs false

theorem Tryz.infoR5 : (Tryz.prog.info? 30).map (·.size) = some 5 := by kernel_rfl
theorem sgi_leK {x : Int} (h : x ≤ 0) : sgi x ≤ 0 := by unfold sgi; split <;> (try split) <;> omega
theorem sgi_geK {x : Int} (h : 0 ≤ x) : 0 ≤ sgi x := by unfold sgi; split <;> (try split) <;> omega
theorem sgi_ltK (x : Int) : decide (sgi x < 0) = decide (x < 0) := by unfold sgi; split <;> (try split) <;> simp <;> omega
/-- The value of an end as a real. -/
theorem endC {w : World} {v : Value} {E : Nat} {i : Int} (hE : E = 1074) (hi : i = 1 ∨ i = -1) (h : NumV w v (decide (i < 0)) i.natAbs 0) : NumC w v E 1024 (i * ((2 ^ E : Nat) : Int)) := by
  refine ⟨_, _, _, h, by omega, ?_, ?_, fun c => by rcases hi with rfl | rfl <;> cases c⟩
  · have := bl_le_of_lt (m := i.natAbs) (k := 1) (by rcases hi with rfl | rfl <;> decide)
    omega
  · rcases hi with rfl | rfl <;> (unfold zv sv; simp)
theorem SupR.exact {z : ZD} {ds : List Nat} {s : Nat} {ok : Bool} {E : Nat} (h : SupR z ds s ok) (hn : numN ds z.N = true) (hf : WhF z) (gz : z.gs.length = z.dn) (hE : E = 1074) : RndZ 1 (supV ds z.cs z.rs z.gs z.rn) (2 ^ E) (s, ok) := by
  rcases h.is with ⟨_, h2⟩ | ⟨h1, _⟩
  · obtain ⟨n1, n2⟩ := numN_fin hn
    have hl : ds.length = z.rn := by rw [hf.N] at n1; omega
    obtain ⟨a, ha⟩ : ∃ a : Nat, a = 92 := ⟨_, rfl⟩
    obtain ⟨b, hb⟩ : ∃ b : Nat, b = 1166 := ⟨_, rfl⟩
    rw [supO_gen ha hf.fin gz (fin_getD n2) hl hf.rl hf.n2] at h2
    refine RndZ.of_ratio (RndO.some_iff hb h2) (Nat.two_pow_pos E) ?_
    rw [Int.mul_assoc, ← Int.natCast_mul, ← Nat.pow_add, show a + E = b by omega]
  · rw [hn] at h1; cases h1
theorem RlS.colAt {w : World} {base E : Nat} {cs rs : List Nat} {ids : List Int} {gs : List (List Nat)} {vc vr vi : Value} {a3 : Option Addr} {l3 c3 : Nat} {gl : List Value} (h : RlS w base E cs rs ids gs vc vr vi (.slice a3 l3 c3) gl) {k : Nat} (hk : k < gs.length) : ∃ g u, a3 = some ⟨g, 0, none⟩ ∧ w.cell? ⟨g, k, none⟩ = some u ∧ RowN w base u E (gs[k]?.getD []) := by
  obtain ⟨ao, cap, h1, h2, h3⟩ := owns_slice h.g
  have hl := h.len
  rcases h3 with h0 | ⟨g, rfl, hc⟩
  · omega
  have hkl : k < gl.length := by omega
  have hcell := hc k hkl
  rw [List.getElem?_eq_getElem hkl] at hcell
  injection h1 with q1
  exact ⟨g, _, q1, hcell, h.col k _ (List.getElem?_eq_getElem hkl)⟩
/-- The ends of the columns, those of the boxes. -/
def endL (A : Nat) (f : Nat → Int) (n : Nat) : List Int := (List.range n).map fun k => endV A (f k)
theorem endL_len (A : Nat) (f : Nat → Int) (n : Nat) : (endL A f n).length = n := by unfold endL; simp
theorem endL_snoc (A : Nat) (f : Nat → Int) (n : Nat) : endL A f (n + 1) = endL A f n ++ [endV A (f n)] := by unfold endL; rw [List.range_succ, List.map_append]; rfl
theorem endL_at {A : Nat} {f : Nat → Int} {n k : Nat} (h : k < n) : (endL A f n)[k]?.getD 0 = endV A (f k) := by unfold endL; simp [h]
theorem endL_abs {A : Nat} {f : Nat → Int} {n : Nat} : ∀ x ∈ endL A f n, x.natAbs ≤ A := by
  intro x hx
  unfold endL at hx
  obtain ⟨k, _, rfl⟩ := List.mem_map.1 hx
  exact Nat.le_of_eq (endV_abs A (f k))
set_option maxRecDepth 100000 in
set_option maxHeartbeats 16000000 in
theorem zonoReaches_walk (z : ZD) (dO : Option Addr) (dl dcap : Nat) (ds : List Nat) (eO : Option Addr) (el ec : Nat) (eis : List Int) (bits : Int) (w : World) (hz : ZR w z) (hw : ZW z) (hdn : z.dn ≤ 1048576) (hds : RdF w dO dl dcap ds) (hdl : dl ≤ 1050000) (hes : RdIs w eO el ec eis) (hel : el ≤ 1050000) (hbt : -9223372036854775808 ≤ bits ∧ bits < 9223372036854775808) :
    Calls Tryz.prog 3 #[.agg (zRow z), .slice dO dl dcap, .slice eO el ec, .int .i64 bits] w fun e w' => e = .returned (.bool true) ∧ Below w.heap.size w w' := by
  obtain ⟨E, hE⟩ : ∃ E : Nat, E = 1074 := ⟨_, rfl⟩
  have HE : Hid (E = 1074) := hE
  have HOF : Hid (∀ W', Below w.heap.size w W' → _) := fun W' hb => ofU z W' (hz.later hb) hw
  have HZ : Hid (∀ W', Below w.heap.size w W' → ZR W' z) := fun W' hb => hz.later hb
  have HRE : Hid (∀ W' (u : ZD), ZU W' u → SmZ u z → _) := fun W' u hu k => realsU z u E hE W' hz hw hu k
  have HSU : Hid (∀ W', Below w.heap.size w W' → _) := fun W' hb => supportA_any z dO dl dcap ds W' (hz.later hb) (by omega) (hds.later hb)
  have HBO : Hid (∀ W', Below w.heap.size w W' → _) := fun W' hb => boundsR_any z W' (hz.later hb) (by omega)
  have HDI : Hid (∀ (n : Int) W', Below w.heap.size w W' → _) := fun n W' hb => directions_any dO dl dcap ds n E hE W' (hds.later hb) hdl
  have HGZ : Hid (z.gs.length = z.gn ∧ z.ids.length = z.dn ∧ z.dn ≤ 1048576) := ⟨hz.g.length, hz.i.length, hdn⟩
  have HPA : Hid (∀ (f n : Nat) W', f ≤ 1050000 → n ≤ 1050000 → Below w.heap.size w W' → _) := fun f n W' hf hn hb => partsJ_any eO el ec eis f n bits E hE W' (hes.later hb) hel hf hn hbt
  unfold zRow at HOF HRE HSU HBO ⊢
  clear hz hw hds hdn hbt hE hes hel hdl
  have X0 : Below w.heap.size w (w.alloc (.cells #[.int .i64 z.N, .slice z.co z.cn z.cc, .slice z.io z.dn z.dc, .slice z.go z.gn z.gc, .slice z.ro z.rn z.rc, .bool z.bad] 26)) := (Below.refl _ w).alloc (Nat.le_refl _) _
  have Y0 : (w.alloc (.cells #[.int .i64 z.N, .slice z.co z.cn z.cc, .slice z.io z.dn z.dc, .slice z.go z.gn z.gc, .slice z.ro z.rn z.rc, .bool z.bad] 26)).heap[w.heap.size]? = some (.cells #[.int .i64 z.N, .slice z.co z.cn z.cc, .slice z.io z.dn z.dc, .slice z.go z.gn z.gc, .slice z.ro z.rn z.rc, .bool z.bad] 26) := heap_alloc_new w _
  have HX : Hid _ := And.intro X0 Y0
  clear X0 Y0
  go_enter Tryz.func3, Tryz.ntmps3
  go_upto_region 2 with (first
    | (refine wpList_load_row (by rfl) 26 _ (by rfl) w.heap.size _ (by rfl) HX.out.2 _ Tryz.underlying26 rfl 6 Tryz.infoZ (by rfl) ?_)
    | (go_at_call 5; refine Calls.mono (HOF.out _ HX.out.1) ?_; rintro e w1 ⟨u, rfl, hu, hsm, b1⟩)
    | (go_at_call 4; refine Calls.mono (HRE.out _ _ hu hsm) ?_; rintro e w2 ⟨N', a1, l1, c1, a2, l2, c2, a3, l3, c3, a4, l4, c4, rfl, hN, b2⟩; have HN : Hid _ := hN; clear hN))
  have A2 : Below w2.heap.size w2 (w2.alloc (.cells #[.int .i64 N', .slice a1 l1 c1, .slice a2 l2 c2, .slice a3 l3 c3, .slice a4 l4 c4] 30)) := (Below.refl _ w2).alloc (Nat.le_refl _) _
  have P2 : Hid (Below w.heap.size w (w2.alloc (.cells #[.int .i64 N', .slice a1 l1 c1, .slice a2 l2 c2, .slice a3 l3 c3, .slice a4 l4 c4] 30)) ∧ (w2.alloc (.cells #[.int .i64 N', .slice a1 l1 c1, .slice a2 l2 c2, .slice a3 l3 c3, .slice a4 l4 c4] 30)).heap[w.heap.size]? = some (.cells #[.int .i64 z.N, .slice z.co z.cn z.cc, .slice z.io z.dn z.dc, .slice z.go z.gn z.gc, .slice z.ro z.rn z.rc, .bool z.bad] 26) ∧ (w2.alloc (.cells #[.int .i64 N', .slice a1 l1 c1, .slice a2 l2 c2, .slice a3 l3 c3, .slice a4 l4 c4] 30)).heap[w2.heap.size]? = some (.cells #[.int .i64 N', .slice a1 l1 c1, .slice a2 l2 c2, .slice a3 l3 c3, .slice a4 l4 c4] 30) ∧ ((!z.bad && wholeB z) = true → N' = z.N ∧ ∃ gl, RlS (w2.alloc (.cells #[.int .i64 N', .slice a1 l1 c1, .slice a2 l2 c2, .slice a3 l3 c3, .slice a4 l4 c4] 30)) w1.heap.size E z.cs z.rs z.ids z.gs (.slice a1 l1 c1) (.slice a4 l4 c4) (.slice a2 l2 c2) (.slice a3 l3 c3) gl)) := ⟨to_call (to_call (to_call HX.out.1 b1) b2) A2, kept A2 (kept b2 (kept b1 HX.out.2)), heap_alloc_new w2 _, fun g => ⟨(HN.out g).1, by obtain ⟨gl, hr⟩ := (HN.out g).2; exact ⟨gl, hr.later A2⟩⟩⟩
  obtain ⟨X, hX⟩ : ∃ X, w2.alloc (.cells #[.int .i64 N', .slice a1 l1 c1, .slice a2 l2 c2, .slice a3 l3 c3, .slice a4 l4 c4] 30) = X := ⟨_, rfl⟩
  obtain ⟨B3, hB3⟩ : ∃ B3, w2.heap.size = B3 := ⟨_, rfl⟩
  rw [hX, hB3] at P2
  rw [hX, hB3]
  clear hX hB3 A2 b1 b2 hu hsm HX HOF HRE HN
  obtain ⟨gd, hgd⟩ : ∃ gd, (!z.bad && wholeB z) = gd := ⟨_, rfl⟩
  rw [hgd]
  have HGD : Hid ((!z.bad && wholeB z) = gd) := hgd
  clear hgd
  go_upto_region 3 with (first
    | (refine wpList_load_row (by rfl) 26 _ (by rfl) w.heap.size _ (by rfl) P2.out.2.1 _ Tryz.underlying26 rfl 6 Tryz.infoZ (by rfl) ?_)
    | (go_at_call 6; refine Calls.mono (HSU.out _ P2.out.1) ?_; rintro e w3 ⟨s, ok, rfl, hsu, b3⟩; have SUP : Hid (SupA z ds s ok) := hsu; clear hsu))
  have P3 : Hid (Below w.heap.size w w3 ∧ Below X.heap.size X w3) := ⟨to_call P2.out.1 b3, b3⟩
  clear b3
  go_upto_region 4 with (first
    | (refine wpList_load_row (by rfl) 26 _ (by rfl) w.heap.size _ (by rfl) (kept P3.out.2 P2.out.2.1) _ Tryz.underlying26 rfl 6 Tryz.infoZ (by rfl) ?_)
    | (go_at_call 7; refine Calls.mono (HBO.out _ P3.out.1) ?_; rintro e w4 ⟨vl, rfl, hbd, b4⟩; have BND : Hid (BdR w4 z vl) := hbd; clear hbd))
  have P4 : Hid (Below w.heap.size w w4 ∧ Below X.heap.size X w4) := ⟨to_call P3.out.1 b4, to_call P3.out.2 b4⟩
  have k0 : w4.cell? ⟨B3, 0, none⟩ = some (.int .i64 N') := cellAtJ (kept P4.out.2 P2.out.2.2.1) 0 _ rfl
  clear b4 P3 HSU HBO
  go_upto_region 5 with (go_at_call 8; refine Calls.mono (HDI.out N' _ P4.out.1) ?_; rintro e X6 ⟨⟨vd, rfl, hdv⟩, b6⟩; have DIR : Hid (numN ds N' = true → RowN X6 w4.heap.size vd E ds) := hdv; clear hdv)
  have QB : Hid (Below w.heap.size w X6 ∧ Below X.heap.size X X6) := ⟨to_call P4.out.1 b6, to_call P4.out.2 b6⟩
  have BN6 : Hid (BdR X6 z vl) := BND.out.later b6
  clear b6 P4 BND HDI k0
  obtain ⟨nd, hnd⟩ : ∃ nd, numN ds N' = nd := ⟨_, rfl⟩
  rw [hnd] at DIR ⊢
  have HND : Hid (numN ds N' = nd) := hnd
  clear hnd
  cases gd with
  | false =>
    obtain ⟨hvl, hs0, hok⟩ : vl = .slice none 0 0 ∧ s = 0 ∧ ok = false := by
      rcases BN6.out.is with ⟨h, _⟩ | ⟨_, h⟩
      · rw [HGD.out] at h; cases h
      · rcases SUP.out.is with ⟨h', _⟩ | ⟨_, h1, h2⟩
        · rw [HGD.out] at h'; cases h'
        · exact ⟨h, h1, h2⟩
    subst hvl hs0 hok
    clear BN6 SUP DIR HND
    go_wp2_with (go_at_call 9; refine Calls.mono (started_any _) ?_; rintro e w9 ⟨rfl, b9⟩)
    go_ret
    exact ⟨rfl, to_call QB.out.1 b9⟩
  | true =>
    obtain ⟨hb0, hwh, hck⟩ := tk_good HGD.out
    have HF : Hid (WhF z) := WhF.of (HZ.out w (Below.refl _ _)) (by have := HGZ.out.2.2; omega) hwh
    have hgl0 : z.gs.length = z.dn := HGZ.out.1.trans HF.out.dg.symm
    obtain ⟨hN', gl, hR⟩ := P2.out.2.2.2 HGD.out
    have hN2 := hN'.trans HF.out.N
    subst hN2
    have HNN : Hid (numN ds z.N = nd) := by unfold Hid; rw [HF.out.N]; exact HND.out
    have SR : Hid (SupR z ds s ok) := by
      rcases SUP.out.is with ⟨_, h⟩ | ⟨h, _⟩
      · exact h
      · rw [HGD.out] at h; cases h
    obtain ⟨gv, hvl, hsp⟩ : ∃ g, vl = .slice (some ⟨g, 0, none⟩) z.rn z.rn ∧ SpL X6 g z.rn z.rn (fun j r => AroR (z.cs[j]?.getD 0) (farZ z j) r) := by
      rcases BN6.out.is with ⟨_, h⟩ | ⟨h, _⟩
      · exact h
      · rw [HGD.out] at h; cases h
    subst hvl
    have hl3 := hR.lenG
    subst hl3
    have Q6 : Hid (Below w.heap.size w X6 ∧ X6.heap[w.heap.size]? = some (.cells #[.int .i64 z.N, .slice z.co z.cn z.cc, .slice z.io z.dn z.dc, .slice z.go z.gn z.gc, .slice z.ro z.rn z.rc, .bool z.bad] 26) ∧ X6.heap[B3]? = some (.cells #[.int .i64 (z.rn : Int), .slice a1 l1 c1, .slice a2 l2 c2, .slice a3 z.gs.length c3, .slice a4 l4 c4] 30) ∧ RlS X6 w1.heap.size E z.cs z.rs z.ids z.gs (.slice a1 l1 c1) (.slice a4 l4 c4) (.slice a2 l2 c2) (.slice a3 z.gs.length c3) gl ∧ SpL X6 gv z.rn z.rn (fun j r => AroR (z.cs[j]?.getD 0) (farZ z j) r)) := ⟨QB.out.1, kept QB.out.2 P2.out.2.1, kept QB.out.2 P2.out.2.2.1, hR.later QB.out.2, hsp⟩
    have HGL : Hid (z.gs.length = z.dn) := hgl0
    clear P2 QB HGD HND hb0 hwh hck hR hsp BN6 SUP hN' hgl0
    have k2 : X6.cell? ⟨B3, 0, none⟩ = some (.int .i64 (z.rn : Int)) := cellAtJ Q6.out.2.2.1 0 _ rfl
    have hne : ((z.rn : Int) != (z.rn : Int)) = false := by simp
    go_upto_region 9 with fail
    clear k2 hne
    have hgl : z.gs.length ≤ 1048576 := by have h1 := HGZ.out; have h2 := HGL.out; omega
    have hn2 : z.rn ≤ 256 := HF.out.n2
    have D0 : Hid (X6.cell? ⟨B3, 0, none⟩ = some (.int .i64 (z.rn : Int))) := cellAtJ Q6.out.2.2.1 0 _ rfl
    have D3 : Hid (X6.cell? ⟨B3, 3, none⟩ = some (.slice a3 z.gs.length c3)) := cellAtJ Q6.out.2.2.1 3 _ rfl
    have HP1 : Hid (∀ W', Below w.heap.size w W' → _) := fun W' hb => HPA.out 0 z.gs.length W' (by omega) (by omega) hb
    have HP2 : Hid (∀ W', Below w.heap.size w W' → _) := fun W' hb => HPA.out z.gs.length z.rn W' (by omega) (by omega) hb
    rw [show ((0 : Nat) : Int) = 0 from rfl] at HP1
    have HPO : Hid (∀ W' (ve vr : Value) (es bs : List Int) (B1 B2 : Nat), Below X6.heap.size X6 W' → RowZ W' B1 ve E 1024 es → RowZ W' B2 vr E 1024 bs → es.length = z.gs.length → bs.length = z.rn → (∀ x ∈ es, x.natAbs ≤ 2 ^ E) → (∀ x ∈ bs, x.natAbs ≤ 2 ^ E) → _) := fun W' ve vr es bs B1 B2 hb he hr hle hlb hae hab => point_any z.rn a1 l1 c1 a2 l2 c2 a3 z.gs.length c3 a4 l4 c4 z.cs z.rs z.ids z.gs gl ve vr es bs w1.heap.size B1 B2 E HE.out W' (Q6.out.2.2.2.1.later hb) he hr hle hlb hae hab HF.out.cl HF.out.rl (fun k hk => HF.out.gl k (by have h2 := HGL.out; omega)) HF.out.fin.c HF.out.fin.r HF.out.fin.g (by omega) hn2
    go_cut [16] (fun v16 wx => ∃ (es bs : List Int) (B : Nat), Hid (RowZ wx B v16 (E + E) 1060 (ptV (2 ^ E) z.cs z.rs z.gs es bs z.rn)) ∧ Hid ((∀ k : Nat, (es[k]?.getD 0).natAbs ≤ 2 ^ E) ∧ ∀ k : Nat, (bs[k]?.getD 0).natAbs ≤ 2 ^ E) ∧ Hid (Below X6.heap.size X6 wx))
    case first =>
      have bX : Below X6.heap.size X6 X6.drew := (Below.refl _ _).drew
      refine wp_region_noPanic ?_
      refine wp_region_held_drew (S := (fun V => Below X6.heap.size X6 V)) (by kernel_rfl) bX (fun _ => ?_)
      refine takeH 71 (i := 0) (v := .agg #[.int .i64 (z.rn : Int), .slice a1 l1 c1, .slice a2 l2 c2, .slice a3 z.gs.length c3, .slice a4 l4 c4]) rfl rfl (by kernel_rfl) (by kernel_rfl) (by kernel_rfl) (fun _ _ _ h => h) (Or.inl ⟨by kernel_rfl, fun w' hSw => ex_loadRN _ 30 _ rfl B3 (by kernel_rfl) w' _ (kept hSw Q6.out.2.2.1) _ Tryz.underlying30 rfl 5 Tryz.infoR5 rfl⟩) bX ?_
      try simp only [Act.put, List.setIfInBounds_toArray, List.set_cons_zero, List.set_cons_succ]
      refine takeH 72 (i := 1) (v := ?_) rfl rfl (by kernel_rfl) (by kernel_rfl) (by kernel_rfl) (fun _ _ _ h => h) (Or.inl ⟨by kernel_rfl, ?_⟩) bX ?_
      rotate_left
      · intro w' hSw; have s0 := cell_later D0.out hSw; have s3 := cell_later D3.out hSw; go_simp; try with_reducible rfl
      try simp only [Act.put, List.setIfInBounds_toArray, List.set_cons_zero, List.set_cons_succ]
      refine takeH 73 (i := 2) (v := ?_) rfl rfl (by kernel_rfl) (by kernel_rfl) (by kernel_rfl) (fun _ _ _ h => h) (Or.inl ⟨by kernel_rfl, ?_⟩) bX ?_
      rotate_left
      · intro w' hSw; have s0 := cell_later D0.out hSw; have s3 := cell_later D3.out hSw; go_simp; try with_reducible rfl
      try simp only [Act.put, List.setIfInBounds_toArray, List.set_cons_zero, List.set_cons_succ]
      refine takeH 74 (i := 3) (v := ?_) rfl rfl (by kernel_rfl) (by kernel_rfl) (by kernel_rfl) (fun _ _ _ h => h) (Or.inl ⟨by kernel_rfl, ?_⟩) bX ?_
      rotate_left
      · intro w' hSw; have s0 := cell_later D0.out hSw; have s3 := cell_later D3.out hSw; go_simp; try with_reducible rfl
      try simp only [Act.put, List.setIfInBounds_toArray, List.set_cons_zero, List.set_cons_succ]
      refine takeH 75 (i := 4) (v := ?_) rfl rfl (by kernel_rfl) (by kernel_rfl) (by kernel_rfl) (fun _ _ _ h => h) (Or.inl ⟨by kernel_rfl, ?_⟩) bX ?_
      rotate_left
      · intro w' hSw; have s0 := cell_later D0.out hSw; have s3 := cell_later D3.out hSw; go_simp; try with_reducible rfl
      try simp only [Act.put, List.setIfInBounds_toArray, List.set_cons_zero, List.set_cons_succ]
      refine takeH 76 (i := 5) (v := ?_) rfl rfl (by kernel_rfl) (by kernel_rfl) (by kernel_rfl) (fun _ _ _ h => h) (Or.inl ⟨by kernel_rfl, ?_⟩) bX ?_
      rotate_left
      · intro w' hSw; have s0 := cell_later D0.out hSw; have s3 := cell_later D3.out hSw; go_simp; try with_reducible rfl
      try simp only [Act.put, List.setIfInBounds_toArray, List.set_cons_zero, List.set_cons_succ]
      refine takeH 78 (i := 7) (v := ?_) rfl rfl (by kernel_rfl) (by kernel_rfl) (by kernel_rfl) (fun _ _ _ h => h) (Or.inl ⟨by kernel_rfl, ?_⟩) bX ?_
      rotate_left
      · intro w' hSw; have s0 := cell_later D0.out hSw; have s3 := cell_later D3.out hSw; go_simp; try with_reducible rfl
      try simp only [Act.put, List.setIfInBounds_toArray, List.set_cons_zero, List.set_cons_succ]
      refine takeH 79 (i := 8) (v := ?_) rfl rfl (by kernel_rfl) (by kernel_rfl) (by kernel_rfl) (fun _ _ _ h => h) (Or.inl ⟨by kernel_rfl, ?_⟩) bX ?_
      rotate_left
      · intro w' hSw; have s0 := cell_later D0.out hSw; have s3 := cell_later D3.out hSw; go_simp; try with_reducible rfl
      try simp only [Act.put, List.setIfInBounds_toArray, List.set_cons_zero, List.set_cons_succ]
      refine takeH 80 (i := 9) (v := ?_) rfl rfl (by kernel_rfl) (by kernel_rfl) (by kernel_rfl) (fun _ _ _ h => h) (Or.inl ⟨by kernel_rfl, ?_⟩) bX ?_
      rotate_left
      · intro w' hSw; have s0 := cell_later D0.out hSw; have s3 := cell_later D3.out hSw; go_simp; try with_reducible rfl
      try simp only [Act.put, List.setIfInBounds_toArray, List.set_cons_zero, List.set_cons_succ]
      refine takeH 81 (i := 10) (v := ?_) rfl rfl (by kernel_rfl) (by kernel_rfl) (by kernel_rfl) (fun _ _ _ h => h) (Or.inl ⟨by kernel_rfl, ?_⟩) bX ?_
      rotate_left
      · intro w' hSw; have s0 := cell_later D0.out hSw; have s3 := cell_later D3.out hSw; go_simp; try with_reducible rfl
      try simp only [Act.put, List.setIfInBounds_toArray, List.set_cons_zero, List.set_cons_succ]
      refine takeH 82 (i := 11) (v := ?_) rfl rfl (by kernel_rfl) (by kernel_rfl) (by kernel_rfl) (fun _ _ _ h => h) (Or.inl ⟨by kernel_rfl, ?_⟩) bX ?_
      rotate_left
      · intro w' hSw; have s0 := cell_later D0.out hSw; have s3 := cell_later D3.out hSw; go_simp; try with_reducible rfl
      try simp only [Act.put, List.setIfInBounds_toArray, List.set_cons_zero, List.set_cons_succ]
      refine takeH 83 (i := 12) (v := ?_) rfl rfl (by kernel_rfl) (by kernel_rfl) (by kernel_rfl) (fun _ _ _ h => h) (Or.inl ⟨by kernel_rfl, ?_⟩) bX ?_
      rotate_left
      · intro w' hSw; have s0 := cell_later D0.out hSw; have s3 := cell_later D3.out hSw; go_simp; try with_reducible rfl
      try simp only [Act.put, List.setIfInBounds_toArray, List.set_cons_zero, List.set_cons_succ]
      refine takeH 84 (i := 13) (v := ?_) rfl rfl (by kernel_rfl) (by kernel_rfl) (by kernel_rfl) (fun _ _ _ h => h) (Or.inl ⟨by kernel_rfl, ?_⟩) bX ?_
      rotate_left
      · intro w' hSw; have s0 := cell_later D0.out hSw; have s3 := cell_later D3.out hSw; go_simp; try with_reducible rfl
      try simp only [Act.put, List.setIfInBounds_toArray, List.set_cons_zero, List.set_cons_succ]
      refine wpAnyH_ready (rs := [6]) (by kernel_rfl) (by simp) ?_
      refine consH _ rfl (hopCd 77 rfl (by kernel_rfl) rfl (by kernel_rfl) (Calls.mono (HP1.out _ (to_call Q6.out.1 bX)) ?_)) AllReadyH.nil
      rintro e Va ⟨ve, es, rfl, hre, hle, hae, hb⟩
      have bX : Below X6.heap.size X6 Va := to_call bX hb
      clear hb
      refine ⟨_, rfl, bX, ?_⟩
      try simp only [Act.put, List.setIfInBounds_toArray, List.set_cons_zero, List.set_cons_succ]
      refine wpAnyH_ready (rs := [14]) (by kernel_rfl) (by simp) ?_
      refine consH _ rfl (hopCd 85 rfl (by kernel_rfl) rfl (by kernel_rfl) (Calls.mono (HP2.out _ (to_call Q6.out.1 bX)) ?_)) AllReadyH.nil
      rintro e Vb ⟨vb, bs, rfl, hrb, hlb, hab, hb⟩
      have bX : Below X6.heap.size X6 Vb := to_call bX hb
      have hre := hre.later hb
      clear hb
      refine ⟨_, rfl, bX, ?_⟩
      try simp only [Act.put, List.setIfInBounds_toArray, List.set_cons_zero, List.set_cons_succ]
      refine wpAnyH_ready (rs := [15]) (by kernel_rfl) (by simp) ?_
      refine consH _ rfl (hopCd 86 rfl (by kernel_rfl) rfl (by kernel_rfl) (Calls.mono (HPO.out _ ve vb es bs _ _ bX hre hrb hle hlb hae hab) ?_)) AllReadyH.nil
      rintro e Vc ⟨vp, rfl, hpv, hb⟩
      have bX : Below X6.heap.size X6 Vc := to_call bX hb
      clear hb
      refine ⟨_, rfl, bX, ?_⟩
      try simp only [Act.put, List.setIfInBounds_toArray, List.set_cons_zero, List.set_cons_succ]
      refine takeH 16 (i := 16) (v := vp) rfl rfl (by kernel_rfl) (by kernel_rfl) (by kernel_rfl) (fun _ _ _ h => h) (Or.inl ⟨by kernel_rfl, fun w' _ => by kernel_rfl⟩) bX ?_
      try simp only [Act.put, List.setIfInBounds_toArray, List.set_cons_zero, List.set_cons_succ]
      refine wpAnyH_done (by kernel_rfl) ?_ _
      refine NoPanic.normal ?_
      try simp only [Act.put, List.setIfInBounds_toArray, List.set_cons_zero, List.set_cons_succ]
      go_wp2_with fail
      go_meet
      exact ⟨es, bs, _, hpv, ⟨mem_getD (P := fun z => z.natAbs ≤ 2 ^ E) (Nat.zero_le _) hae, mem_getD (P := fun z => z.natAbs ≤ 2 ^ E) (Nat.zero_le _) hab⟩, bX⟩
    case rest =>
      obtain ⟨es, bs, BP, HPV, HAB, HBC⟩ := hcut
      obtain ⟨gp, qp, pn0, po0, pl0, pc0, pe0, hvp, -, -⟩ := RowZ.range HPV.out (k := 0) (by rw [ptV_len]; exact HF.out.n1)
      rw [ptV_len] at hvp
      subst hvp
      obtain ⟨X7, hX7⟩ : ∃ X7, wc = X7 := ⟨_, rfl⟩
      rw [hX7] at HPV HBC ⊢
      clear HP1 HP2 D0 D3 hX7
      go_wp2_with fail
      go_loopg [17] z.rn (fun q v17 wx => ∃ (k : Nat), v17 = .int .i64 k ∧ k + q = z.rn ∧ Hid (Below X7.heap.size X7 wx))
      case atStart => exact ⟨0, rfl, by omega, Below.refl _ _⟩
      case round =>
        obtain ⟨k, rfl, hk, HQ⟩ := hrel
        have QX : Hid (Below X6.heap.size X6 wr) := to_call HBC.out HQ.out
        have k1 : wr.cell? ⟨B3, 0, none⟩ = some (.int .i64 (z.rn : Int)) := cellAtJ (kept QX.out Q6.out.2.2.1) 0 _ rfl
        by_cases h1 : k < z.rn
        · have hd1 : decide ((k : Int) < (z.rn : Int)) = true := decide_eq_true (by omega)
          obtain ⟨q, rfl⟩ : ∃ q, gk = q + 1 := ⟨gk - 1, by omega⟩
          have HIG : Hid _ := hk
          clear hk
          go_upto_region 13 with fail
          obtain ⟨arr, ha1, ha2, ha3⟩ := Q6.out.2.2.2.2.ex
          obtain ⟨⟨lo, hi, bd⟩, hr, r1, r2, r3⟩ := ha3 k h1
          obtain ⟨f1, f2, f3, f4, f5⟩ := hr.holds HF.out.fin h1 HGL.out (HF.out.pos k)
          have HFI : Hid (Fin lo ∧ Fin hi ∧ lo < 18446744073709551616 ∧ hi < 18446744073709551616 ∧ (bd = false → fval lo ≤ fval (z.cs[k]?.getD 0) - farV z.rs z.gs k ∧ fval (z.cs[k]?.getD 0) + farV z.rs z.gs k ≤ fval hi)) := ⟨f1, f2, f3, f4, f5⟩
          have CA : Hid (∀ W', Below X6.heap.size X6 W' → W'.cell? ⟨gv, k * 3, none⟩ = some (.float .f64 lo) ∧ W'.cell? ⟨gv, k * 3 + 1, none⟩ = some (.float .f64 hi) ∧ W'.cell? ⟨gv, k * 3 + 2, none⟩ = some (.bool bd)) := fun W' hb => ⟨cellAtJ (kept hb ha1) _ _ r1, cellAtJ (kept hb ha1) _ _ r2, cellAtJ (kept hb ha1) _ _ r3⟩
          clear ha1 ha2 ha3 hr r1 r2 r3 f1 f2 f3 f4 f5
          have hk0 : (k : Int) < (z.rn : Int) := by omega
          have HO1 : Hid (∀ W', _) := fun W' => ofC_any lo HFI.out.2.2.1 W' E HE.out
          have HO2 : Hid (∀ W', _) := fun W' => ofC_any hi HFI.out.2.2.2.1 W' E HE.out
          obtain ⟨s1, s2, s3⟩ := CA.out wr QX.out
          clear k1 hd1 s2 s3
          go_upto_region 14 with (first
            | (go_at_call 13; refine Calls.mono (apiBits_any lo _) ?_; rintro e w0 ⟨rfl, hw0⟩; rw [hw0]; clear hw0 w0)
            | (go_at_call 12; refine Calls.mono (HO1.out _) ?_; rintro e W4 ⟨v4, rfl, ⟨z4, hz4, hv4⟩, b4⟩; obtain ⟨n4, o4, t4, p4, x4, hf4⟩ := hz4.form; subst hf4; have N4 : Hid (NumC W4 (.agg #[.bool n4, .slice o4 t4 p4, .int .i64 x4]) E 1024 (fval lo)) := (hv4 HFI.out.1) ▸ hz4; clear hz4 hv4))
          have e4 : decide (Fin lo) = true := decide_eq_true HFI.out.1
          rw [e4]
          have A4 : Below W4.heap.size W4 (W4.alloc (.cells #[.bool n4, .slice o4 t4 p4, .int .i64 x4] 50)) := (Below.refl _ W4).alloc (Nat.le_refl _) _
          have Q4 : Hid (Below wr.heap.size wr (W4.alloc (.cells #[.bool n4, .slice o4 t4 p4, .int .i64 x4] 50)) ∧ (W4.alloc (.cells #[.bool n4, .slice o4 t4 p4, .int .i64 x4] 50)).heap[W4.heap.size]? = some (.cells #[.bool n4, .slice o4 t4 p4, .int .i64 x4] 50) ∧ NumC (W4.alloc (.cells #[.bool n4, .slice o4 t4 p4, .int .i64 x4] 50)) (.agg #[.bool n4, .slice o4 t4 p4, .int .i64 x4]) E 1024 (fval lo)) := ⟨to_call b4 A4, heap_alloc_new W4 _, NumC.later N4.out A4⟩
          obtain ⟨X8, hX8⟩ : ∃ X8, W4.alloc (.cells #[.bool n4, .slice o4 t4 p4, .int .i64 x4] 50) = X8 := ⟨_, rfl⟩
          obtain ⟨B18, hB18⟩ : ∃ B18, W4.heap.size = B18 := ⟨_, rfl⟩
          rw [hX8, hB18] at Q4
          rw [hX8, hB18]
          clear hX8 hB18 A4 b4 N4 s1 e4
          obtain ⟨s1, s2, s3⟩ := CA.out X8 (to_call QX.out Q4.out.1)
          clear s1 s3
          go_upto_region 15 with (first
            | (go_at_call 13; refine Calls.mono (apiBits_any hi _) ?_; rintro e w0 ⟨rfl, hw0⟩; rw [hw0]; clear hw0 w0)
            | (go_at_call 12; refine Calls.mono (HO2.out _) ?_; rintro e W5 ⟨v5, rfl, ⟨z5, hz5, hv5⟩, b5⟩; obtain ⟨n5, o5, t5, p5, x5, hf5⟩ := hz5.form; subst hf5; have N5 : Hid (NumC W5 (.agg #[.bool n5, .slice o5 t5 p5, .int .i64 x5]) E 1024 (fval hi)) := (hv5 HFI.out.2.1) ▸ hz5; clear hz5 hv5))
          have e5 : decide (Fin hi) = true := decide_eq_true HFI.out.2.1
          rw [e5]
          have A5 : Below W5.heap.size W5 (W5.alloc (.cells #[.bool n5, .slice o5 t5 p5, .int .i64 x5] 50)) := (Below.refl _ W5).alloc (Nat.le_refl _) _
          have Q5 : Hid (Below wr.heap.size wr (W5.alloc (.cells #[.bool n5, .slice o5 t5 p5, .int .i64 x5] 50)) ∧ (W5.alloc (.cells #[.bool n5, .slice o5 t5 p5, .int .i64 x5] 50)).heap[B18]? = some (.cells #[.bool n4, .slice o4 t4 p4, .int .i64 x4] 50) ∧ (W5.alloc (.cells #[.bool n5, .slice o5 t5 p5, .int .i64 x5] 50)).heap[W5.heap.size]? = some (.cells #[.bool n5, .slice o5 t5 p5, .int .i64 x5] 50)) := ⟨to_call (to_call Q4.out.1 b5) A5, kept A5 (kept b5 Q4.out.2.1), heap_alloc_new W5 _⟩
          have NL : Hid (NumC (W5.alloc (.cells #[.bool n5, .slice o5 t5 p5, .int .i64 x5] 50)) (.agg #[.bool n4, .slice o4 t4 p4, .int .i64 x4]) E 1024 (fval lo)) := NumC.later (NumC.later Q4.out.2.2 b5) A5
          have NH : Hid (NumC (W5.alloc (.cells #[.bool n5, .slice o5 t5 p5, .int .i64 x5] 50)) (.agg #[.bool n5, .slice o5 t5 p5, .int .i64 x5]) E 1024 (fval hi)) := NumC.later N5.out A5
          obtain ⟨w5, hw5⟩ : ∃ w5, W5.alloc (.cells #[.bool n5, .slice o5 t5 p5, .int .i64 x5] 50) = w5 := ⟨_, rfl⟩
          obtain ⟨B20, hB20⟩ : ∃ B20, W5.heap.size = B20 := ⟨_, rfl⟩
          rw [hw5] at NL NH
          rw [hw5, hB20] at Q5
          rw [hw5, hB20]
          clear hw5 hB20 A5 b5 N5 s2 e5 Q4 HO1 HO2
          have CB : Hid (w5.cell? ⟨gv, k * 3 + 2, none⟩ = some (.bool bd)) := (CA.out w5 (to_call QX.out Q5.out.1)).2.2
          obtain ⟨gp', qp', pn, po, pl, pc, pe, vp, rp, zp⟩ := RowZ.range (HPV.out.later (to_call HQ.out Q5.out.1)) (k := k) (by rw [ptV_len]; exact h1)
          rw [ptV_len] at vp
          rw [ptV_at h1] at zp
          have hgp : gp' = gp := by injection vp with e1; injection e1 with e1; injection e1 with e1; exact e1.symm
          rw [hgp] at rp
          have RP : Hid (w5.rangeAt gp (k * 3) [.bool pn, .slice po pl pc, .int .i64 pe]) := rp
          have ZP : Hid (NumC w5 (.agg #[.bool pn, .slice po pl pc, .int .i64 pe]) (E + E) 1060 (ptK (2 ^ E) z.cs z.rs z.gs es bs k z.gs.length)) := zp
          have HPI : Hid (((ptK (2 ^ E) z.cs z.rs z.gs es bs k z.gs.length - fval (z.cs[k]?.getD 0) * ((2 ^ E : Nat) : Int)).natAbs : Int) ≤ farV z.rs z.gs k * ((2 ^ E : Nat) : Int)) := pt_in (HF.out.pos k) HAB.out.1 (HAB.out.2 k)
          have HQ5 : Hid (Below X7.heap.size X7 w5) := to_call HQ.out Q5.out.1
          clear vp rp zp hgp CA QX HQ
          cases hbd : bd with
          | true =>
            rw [hbd] at CB
            clear hbd
            have bX : Below w5.heap.size w5 w5.drew := (Below.refl _ _).drew
            refine wp_region_noPanic ?_
            refine wp_region_held_drew (S := (fun V => Below w5.heap.size w5 V)) (by kernel_rfl) bX (fun _ => ?_)
            refine takeH 113 (i := 0) (v := ?_) rfl rfl (by kernel_rfl) (by kernel_rfl) (by kernel_rfl) (fun _ _ _ h => h) (Or.inl ⟨by kernel_rfl, ?_⟩) bX ?_
            rotate_left
            · intro w' hSw; have s2 := cell_later CB.out hSw; go_simp; try with_reducible rfl
            try simp only [Act.put, List.setIfInBounds_toArray, List.set_cons_zero, List.set_cons_succ]
            refine takeH 114 (i := 1) (v := ?_) rfl rfl (by kernel_rfl) (by kernel_rfl) (by kernel_rfl) (fun _ _ _ h => h) (Or.inl ⟨by kernel_rfl, ?_⟩) bX ?_
            rotate_left
            · intro w' hSw; have s2 := cell_later CB.out hSw; go_simp; try with_reducible rfl
            try simp only [Act.put, List.setIfInBounds_toArray, List.set_cons_zero, List.set_cons_succ]
            refine takeH 115 (i := 2) (v := ?_) rfl rfl (by kernel_rfl) (by kernel_rfl) (by kernel_rfl) (fun _ _ _ h => h) (Or.inl ⟨by kernel_rfl, ?_⟩) bX ?_
            rotate_left
            · intro w' hSw; have s2 := cell_later CB.out hSw; go_simp; try with_reducible rfl
            try simp only [Act.put, List.setIfInBounds_toArray, List.set_cons_zero, List.set_cons_succ]
            refine takeH 116 (i := 3) (v := ?_) rfl rfl (by kernel_rfl) (by kernel_rfl) (by kernel_rfl) (fun _ _ _ h => h) (Or.inl ⟨by kernel_rfl, ?_⟩) bX ?_
            rotate_left
            · intro w' hSw; have s2 := cell_later CB.out hSw; go_simp; try with_reducible rfl
            try simp only [Act.put, List.setIfInBounds_toArray, List.set_cons_zero, List.set_cons_succ]
            refine takeH 117 (i := 4) (v := ?_) rfl rfl (by kernel_rfl) (by kernel_rfl) (by kernel_rfl) (fun _ _ _ h => h) (Or.inl ⟨by kernel_rfl, ?_⟩) bX ?_
            rotate_left
            · intro w' hSw; have s2 := cell_later CB.out hSw; go_simp; try with_reducible rfl
            try simp only [Act.put, List.setIfInBounds_toArray, List.set_cons_zero, List.set_cons_succ]
            refine takeH 118 (i := 5) (v := ?_) rfl rfl (by kernel_rfl) (by kernel_rfl) (by kernel_rfl) (fun _ _ _ h => h) (Or.inl ⟨by kernel_rfl, ?_⟩) bX ?_
            rotate_left
            · intro w' hSw; have s2 := cell_later CB.out hSw; go_simp; try with_reducible rfl
            try simp only [Act.put, List.setIfInBounds_toArray, List.set_cons_zero, List.set_cons_succ]
            refine takeH 119 (i := 6) (v := ?_) rfl rfl (by kernel_rfl) (by kernel_rfl) (by kernel_rfl) (fun _ _ _ h => h) (Or.inl ⟨by kernel_rfl, ?_⟩) bX ?_
            rotate_left
            · intro w' hSw; have s2 := cell_later CB.out hSw; go_simp; try with_reducible rfl
            try simp only [Act.put, List.setIfInBounds_toArray, List.set_cons_zero, List.set_cons_succ]
            refine takeH 120 (i := 7) (v := undef) rfl rfl (by kernel_rfl) (by kernel_rfl) (by kernel_rfl) (fun _ _ _ h => h) (Or.inr ⟨by kernel_rfl, rfl⟩) bX ?_
            try simp only [Act.put, List.setIfInBounds_toArray, List.set_cons_zero, List.set_cons_succ]
            refine takeH 121 (i := 8) (v := undef) rfl rfl (by kernel_rfl) (by kernel_rfl) (by kernel_rfl) (fun _ _ _ h => h) (Or.inr ⟨by kernel_rfl, rfl⟩) bX ?_
            try simp only [Act.put, List.setIfInBounds_toArray, List.set_cons_zero, List.set_cons_succ]
            refine takeH 122 (i := 9) (v := undef) rfl rfl (by kernel_rfl) (by kernel_rfl) (by kernel_rfl) (fun _ _ _ h => h) (Or.inr ⟨by kernel_rfl, rfl⟩) bX ?_
            try simp only [Act.put, List.setIfInBounds_toArray, List.set_cons_zero, List.set_cons_succ]
            refine takeH 123 (i := 10) (v := undef) rfl rfl (by kernel_rfl) (by kernel_rfl) (by kernel_rfl) (fun _ _ _ h => h) (Or.inr ⟨by kernel_rfl, rfl⟩) bX ?_
            try simp only [Act.put, List.setIfInBounds_toArray, List.set_cons_zero, List.set_cons_succ]
            refine takeH 124 (i := 11) (v := undef) rfl rfl (by kernel_rfl) (by kernel_rfl) (by kernel_rfl) (fun _ _ _ h => h) (Or.inr ⟨by kernel_rfl, rfl⟩) bX ?_
            try simp only [Act.put, List.setIfInBounds_toArray, List.set_cons_zero, List.set_cons_succ]
            refine takeH 125 (i := 12) (v := undef) rfl rfl (by kernel_rfl) (by kernel_rfl) (by kernel_rfl) (fun _ _ _ h => h) (Or.inr ⟨by kernel_rfl, rfl⟩) bX ?_
            try simp only [Act.put, List.setIfInBounds_toArray, List.set_cons_zero, List.set_cons_succ]
            refine takeH 126 (i := 13) (v := undef) rfl rfl (by kernel_rfl) (by kernel_rfl) (by kernel_rfl) (fun _ _ _ h => h) (Or.inr ⟨by kernel_rfl, rfl⟩) bX ?_
            try simp only [Act.put, List.setIfInBounds_toArray, List.set_cons_zero, List.set_cons_succ]
            refine takeH 127 (i := 14) (v := undef) rfl rfl (by kernel_rfl) (by kernel_rfl) (by kernel_rfl) (fun _ _ _ h => h) (Or.inr ⟨by kernel_rfl, rfl⟩) bX ?_
            try simp only [Act.put, List.setIfInBounds_toArray, List.set_cons_zero, List.set_cons_succ]
            refine takeH 128 (i := 15) (v := undef) rfl rfl (by kernel_rfl) (by kernel_rfl) (by kernel_rfl) (fun _ _ _ h => h) (Or.inr ⟨by kernel_rfl, rfl⟩) bX ?_
            try simp only [Act.put, List.setIfInBounds_toArray, List.set_cons_zero, List.set_cons_succ]
            refine takeH 129 (i := 16) (v := undef) rfl rfl (by kernel_rfl) (by kernel_rfl) (by kernel_rfl) (fun _ _ _ h => h) (Or.inr ⟨by kernel_rfl, rfl⟩) bX ?_
            try simp only [Act.put, List.setIfInBounds_toArray, List.set_cons_zero, List.set_cons_succ]
            refine takeH 130 (i := 17) (v := undef) rfl rfl (by kernel_rfl) (by kernel_rfl) (by kernel_rfl) (fun _ _ _ h => h) (Or.inr ⟨by kernel_rfl, rfl⟩) bX ?_
            try simp only [Act.put, List.setIfInBounds_toArray, List.set_cons_zero, List.set_cons_succ]
            refine takeH 131 (i := 18) (v := undef) rfl rfl (by kernel_rfl) (by kernel_rfl) (by kernel_rfl) (fun _ _ _ h => h) (Or.inr ⟨by kernel_rfl, rfl⟩) bX ?_
            try simp only [Act.put, List.setIfInBounds_toArray, List.set_cons_zero, List.set_cons_succ]
            refine takeH 132 (i := 19) (v := undef) rfl rfl (by kernel_rfl) (by kernel_rfl) (by kernel_rfl) (fun _ _ _ h => h) (Or.inr ⟨by kernel_rfl, rfl⟩) bX ?_
            try simp only [Act.put, List.setIfInBounds_toArray, List.set_cons_zero, List.set_cons_succ]
            refine takeH 133 (i := 20) (v := undef) rfl rfl (by kernel_rfl) (by kernel_rfl) (by kernel_rfl) (fun _ _ _ h => h) (Or.inr ⟨by kernel_rfl, rfl⟩) bX ?_
            try simp only [Act.put, List.setIfInBounds_toArray, List.set_cons_zero, List.set_cons_succ]
            refine takeH 134 (i := 21) (v := undef) rfl rfl (by kernel_rfl) (by kernel_rfl) (by kernel_rfl) (fun _ _ _ h => h) (Or.inr ⟨by kernel_rfl, rfl⟩) bX ?_
            try simp only [Act.put, List.setIfInBounds_toArray, List.set_cons_zero, List.set_cons_succ]
            refine takeH 135 (i := 22) (v := undef) rfl rfl (by kernel_rfl) (by kernel_rfl) (by kernel_rfl) (fun _ _ _ h => h) (Or.inr ⟨by kernel_rfl, rfl⟩) bX ?_
            try simp only [Act.put, List.setIfInBounds_toArray, List.set_cons_zero, List.set_cons_succ]
            refine takeH 136 (i := 23) (v := undef) rfl rfl (by kernel_rfl) (by kernel_rfl) (by kernel_rfl) (fun _ _ _ h => h) (Or.inr ⟨by kernel_rfl, rfl⟩) bX ?_
            try simp only [Act.put, List.setIfInBounds_toArray, List.set_cons_zero, List.set_cons_succ]
            refine takeH 137 (i := 24) (v := undef) rfl rfl (by kernel_rfl) (by kernel_rfl) (by kernel_rfl) (fun _ _ _ h => h) (Or.inr ⟨by kernel_rfl, rfl⟩) bX ?_
            try simp only [Act.put, List.setIfInBounds_toArray, List.set_cons_zero, List.set_cons_succ]
            refine takeH 138 (i := 25) (v := undef) rfl rfl (by kernel_rfl) (by kernel_rfl) (by kernel_rfl) (fun _ _ _ h => h) (Or.inr ⟨by kernel_rfl, rfl⟩) bX ?_
            try simp only [Act.put, List.setIfInBounds_toArray, List.set_cons_zero, List.set_cons_succ]
            refine takeH 139 (i := 26) (v := undef) rfl rfl (by kernel_rfl) (by kernel_rfl) (by kernel_rfl) (fun _ _ _ h => h) (Or.inr ⟨by kernel_rfl, rfl⟩) bX ?_
            try simp only [Act.put, List.setIfInBounds_toArray, List.set_cons_zero, List.set_cons_succ]
            refine takeH 140 (i := 27) (v := undef) rfl rfl (by kernel_rfl) (by kernel_rfl) (by kernel_rfl) (fun _ _ _ h => h) (Or.inr ⟨by kernel_rfl, rfl⟩) bX ?_
            try simp only [Act.put, List.setIfInBounds_toArray, List.set_cons_zero, List.set_cons_succ]
            refine takeH 141 (i := 28) (v := undef) rfl rfl (by kernel_rfl) (by kernel_rfl) (by kernel_rfl) (fun _ _ _ h => h) (Or.inr ⟨by kernel_rfl, rfl⟩) bX ?_
            try simp only [Act.put, List.setIfInBounds_toArray, List.set_cons_zero, List.set_cons_succ]
            refine takeH 142 (i := 29) (v := undef) rfl rfl (by kernel_rfl) (by kernel_rfl) (by kernel_rfl) (fun _ _ _ h => h) (Or.inr ⟨by kernel_rfl, rfl⟩) bX ?_
            try simp only [Act.put, List.setIfInBounds_toArray, List.set_cons_zero, List.set_cons_succ]
            refine takeH 143 (i := 30) (v := undef) rfl rfl (by kernel_rfl) (by kernel_rfl) (by kernel_rfl) (fun _ _ _ h => h) (Or.inr ⟨by kernel_rfl, rfl⟩) bX ?_
            try simp only [Act.put, List.setIfInBounds_toArray, List.set_cons_zero, List.set_cons_succ]
            refine takeH 144 (i := 31) (v := ?_) rfl rfl (by kernel_rfl) (by kernel_rfl) (by kernel_rfl) (fun _ _ _ h => h) (Or.inl ⟨by kernel_rfl, ?_⟩) bX ?_
            rotate_left
            · intro w' hSw; have s2 := cell_later CB.out hSw; go_simp; try with_reducible rfl
            try simp only [Act.put, List.setIfInBounds_toArray, List.set_cons_zero, List.set_cons_succ]
            refine wpAnyH_done (by kernel_rfl) ?_ _
            refine NoPanic.normal ?_
            try simp only [Act.put, List.setIfInBounds_toArray, List.set_cons_zero, List.set_cons_succ]
            have HQ9 : Hid (Below X7.heap.size X7 w5.drew) := to_call HQ5.out bX
            clear bX CB RP ZP HPI HQ5 Q5 NL NH HFI
            go_wp2_with fail
            go_roundg q
            case measure => omega
            case rel => exact ⟨k + 1, by go_num, by have := HIG.out; omega, HQ9⟩
          | false =>
            rw [hbd] at CB
            have HCL : Hid (∀ W', Below w5.heap.size w5 W' → Calls Tryz.prog 14 #[.agg #[.bool pn, .slice po pl pc, .int .i64 pe], .agg #[.bool n4, .slice o4 t4 p4, .int .i64 x4]] W' fun e w' => ∃ s0 : Int, e = .returned (.int .i64 s0) ∧ 0 ≤ s0 ∧ Below W'.heap.size W' w') := fun W' hb => by
              refine Calls.mono (cmpZ_any _ _ (E + E) 1060 _ _ W' (NumC.later ZP.out hb).toZ (((NumC.later NL.out hb).moreJ E).mono (by omega)).toZ (by rw [HE.out]; omega) (by omega)) ?_
              rintro e w' ⟨he, hb'⟩
              refine ⟨_, he, sgi_geK ?_, hb'⟩
              have hp := HPI.out
              have hq := Int.mul_le_mul_of_nonneg_right (HFI.out.2.2.2.2 hbd).1 (Int.natCast_nonneg (2 ^ E))
              rw [Int.sub_mul] at hq
              omega
            have HCH : Hid (∀ W', Below w5.heap.size w5 W' → Calls Tryz.prog 14 #[.agg #[.bool pn, .slice po pl pc, .int .i64 pe], .agg #[.bool n5, .slice o5 t5 p5, .int .i64 x5]] W' fun e w' => ∃ s0 : Int, e = .returned (.int .i64 s0) ∧ s0 ≤ 0 ∧ Below W'.heap.size W' w') := fun W' hb => by
              refine Calls.mono (cmpZ_any _ _ (E + E) 1060 _ _ W' (NumC.later ZP.out hb).toZ (((NumC.later NH.out hb).moreJ E).mono (by omega)).toZ (by rw [HE.out]; omega) (by omega)) ?_
              rintro e w' ⟨he, hb'⟩
              refine ⟨_, he, sgi_leK ?_, hb'⟩
              have hp := HPI.out
              have hq := Int.mul_le_mul_of_nonneg_right (HFI.out.2.2.2.2 hbd).2 (Int.natCast_nonneg (2 ^ E))
              rw [Int.add_mul] at hq
              omega
            have HBD : Hid _ := hbd
            clear hbd
            have bX : Below w5.heap.size w5 w5.drew := (Below.refl _ _).drew
            refine wp_region_noPanic ?_
            refine wp_region_held_drew (S := (fun V => Below w5.heap.size w5 V)) (by kernel_rfl) bX (fun _ => ?_)
            refine takeH 113 (i := 0) (v := ?_) rfl rfl (by kernel_rfl) (by kernel_rfl) (by kernel_rfl) (fun _ _ _ h => h) (Or.inl ⟨by kernel_rfl, ?_⟩) bX ?_
            rotate_left
            · intro w' hSw; have s2 := cell_later CB.out hSw; go_simp; try with_reducible rfl
            try simp only [Act.put, List.setIfInBounds_toArray, List.set_cons_zero, List.set_cons_succ]
            refine takeH 114 (i := 1) (v := ?_) rfl rfl (by kernel_rfl) (by kernel_rfl) (by kernel_rfl) (fun _ _ _ h => h) (Or.inl ⟨by kernel_rfl, ?_⟩) bX ?_
            rotate_left
            · intro w' hSw; have s2 := cell_later CB.out hSw; go_simp; try with_reducible rfl
            try simp only [Act.put, List.setIfInBounds_toArray, List.set_cons_zero, List.set_cons_succ]
            refine takeH 115 (i := 2) (v := ?_) rfl rfl (by kernel_rfl) (by kernel_rfl) (by kernel_rfl) (fun _ _ _ h => h) (Or.inl ⟨by kernel_rfl, ?_⟩) bX ?_
            rotate_left
            · intro w' hSw; have s2 := cell_later CB.out hSw; go_simp; try with_reducible rfl
            try simp only [Act.put, List.setIfInBounds_toArray, List.set_cons_zero, List.set_cons_succ]
            refine takeH 116 (i := 3) (v := ?_) rfl rfl (by kernel_rfl) (by kernel_rfl) (by kernel_rfl) (fun _ _ _ h => h) (Or.inl ⟨by kernel_rfl, ?_⟩) bX ?_
            rotate_left
            · intro w' hSw; have s2 := cell_later CB.out hSw; go_simp; try with_reducible rfl
            try simp only [Act.put, List.setIfInBounds_toArray, List.set_cons_zero, List.set_cons_succ]
            refine takeH 117 (i := 4) (v := ?_) rfl rfl (by kernel_rfl) (by kernel_rfl) (by kernel_rfl) (fun _ _ _ h => h) (Or.inl ⟨by kernel_rfl, ?_⟩) bX ?_
            rotate_left
            · intro w' hSw; have s2 := cell_later CB.out hSw; go_simp; try with_reducible rfl
            try simp only [Act.put, List.setIfInBounds_toArray, List.set_cons_zero, List.set_cons_succ]
            refine takeH 118 (i := 5) (v := ?_) rfl rfl (by kernel_rfl) (by kernel_rfl) (by kernel_rfl) (fun _ _ _ h => h) (Or.inl ⟨by kernel_rfl, ?_⟩) bX ?_
            rotate_left
            · intro w' hSw; have s2 := cell_later CB.out hSw; go_simp; try with_reducible rfl
            try simp only [Act.put, List.setIfInBounds_toArray, List.set_cons_zero, List.set_cons_succ]
            refine takeH 119 (i := 6) (v := ?_) rfl rfl (by kernel_rfl) (by kernel_rfl) (by kernel_rfl) (fun _ _ _ h => h) (Or.inl ⟨by kernel_rfl, ?_⟩) bX ?_
            rotate_left
            · intro w' hSw; have s2 := cell_later CB.out hSw; go_simp; try with_reducible rfl
            try simp only [Act.put, List.setIfInBounds_toArray, List.set_cons_zero, List.set_cons_succ]
            refine takeH 120 (i := 7) (v := ?_) rfl rfl (by kernel_rfl) (by kernel_rfl) (by kernel_rfl) (fun _ _ _ h => h) (Or.inl ⟨by kernel_rfl, ?_⟩) bX ?_
            rotate_left
            · intro w' hSw; have s2 := cell_later CB.out hSw; go_simp; try with_reducible rfl
            try simp only [Act.put, List.setIfInBounds_toArray, List.set_cons_zero, List.set_cons_succ]
            refine takeH 121 (i := 8) (v := ?_) rfl rfl (by kernel_rfl) (by kernel_rfl) (by kernel_rfl) (fun _ _ _ h => h) (Or.inl ⟨by kernel_rfl, ?_⟩) bX ?_
            rotate_left
            · intro w' hSw; have s2 := cell_later CB.out hSw; go_simp; try with_reducible rfl
            try simp only [Act.put, List.setIfInBounds_toArray, List.set_cons_zero, List.set_cons_succ]
            refine takeH 122 (i := 9) (v := ?_) rfl rfl (by kernel_rfl) (by kernel_rfl) (by kernel_rfl) (fun _ _ _ h => h) (Or.inl ⟨by kernel_rfl, ?_⟩) bX ?_
            rotate_left
            · intro w' hSw; have s2 := cell_later CB.out hSw; go_simp; try with_reducible rfl
            try simp only [Act.put, List.setIfInBounds_toArray, List.set_cons_zero, List.set_cons_succ]
            refine takeH 123 (i := 10) (v := ?_) rfl rfl (by kernel_rfl) (by kernel_rfl) (by kernel_rfl) (fun _ _ _ h => h) (Or.inl ⟨by kernel_rfl, ?_⟩) bX ?_
            rotate_left
            · intro w' hSw; have s2 := cell_later CB.out hSw; go_simp; try with_reducible rfl
            try simp only [Act.put, List.setIfInBounds_toArray, List.set_cons_zero, List.set_cons_succ]
            refine takeH 124 (i := 11) (v := ?_) rfl rfl (by kernel_rfl) (by kernel_rfl) (by kernel_rfl) (fun _ _ _ h => h) (Or.inl ⟨by kernel_rfl, ?_⟩) bX ?_
            rotate_left
            · intro w' hSw; have s2 := cell_later CB.out hSw; go_simp; try with_reducible rfl
            try simp only [Act.put, List.setIfInBounds_toArray, List.set_cons_zero, List.set_cons_succ]
            refine takeH 125 (i := 12) (v := ?_) rfl rfl (by kernel_rfl) (by kernel_rfl) (by kernel_rfl) (fun _ _ _ h => h) (Or.inl ⟨by kernel_rfl, ?_⟩) bX ?_
            rotate_left
            · intro w' hSw; have s2 := cell_later CB.out hSw; go_simp; try with_reducible rfl
            try simp only [Act.put, List.setIfInBounds_toArray, List.set_cons_zero, List.set_cons_succ]
            refine takeH 126 (i := 13) (v := ?_) rfl rfl (by kernel_rfl) (by kernel_rfl) (by kernel_rfl) (fun _ _ _ h => h) (Or.inl ⟨by kernel_rfl, ?_⟩) bX ?_
            rotate_left
            · intro w' hSw; have s2 := cell_later CB.out hSw; go_simp; try with_reducible rfl
            try simp only [Act.put, List.setIfInBounds_toArray, List.set_cons_zero, List.set_cons_succ]
            refine takeH 127 (i := 14) (v := ?_) rfl rfl (by kernel_rfl) (by kernel_rfl) (by kernel_rfl) (fun _ _ _ h => h) (Or.inl ⟨by kernel_rfl, ?_⟩) bX ?_
            rotate_left
            · intro w' hSw; have s2 := cell_later CB.out hSw; go_simp; try with_reducible rfl
            try simp only [Act.put, List.setIfInBounds_toArray, List.set_cons_zero, List.set_cons_succ]
            refine takeH 128 (i := 15) (v := ?_) rfl rfl (by kernel_rfl) (by kernel_rfl) (by kernel_rfl) (fun _ _ _ h => h) (Or.inl ⟨by kernel_rfl, ?_⟩) bX ?_
            rotate_left
            · intro w' hSw; have s2 := cell_later CB.out hSw; go_simp; try with_reducible rfl
            try simp only [Act.put, List.setIfInBounds_toArray, List.set_cons_zero, List.set_cons_succ]
            refine takeH 129 (i := 16) (v := ?_) rfl rfl (by kernel_rfl) (by kernel_rfl) (by kernel_rfl) (fun _ _ _ h => h) (Or.inl ⟨by kernel_rfl, ?_⟩) bX ?_
            rotate_left
            · intro w' hSw; have s2 := cell_later CB.out hSw; go_simp; try with_reducible rfl
            try simp only [Act.put, List.setIfInBounds_toArray, List.set_cons_zero, List.set_cons_succ]
            refine takeH 130 (i := 17) (v := .agg #[.bool pn, .slice po pl pc, .int .i64 pe]) rfl rfl (by kernel_rfl) (by kernel_rfl) (by kernel_rfl) (fun _ _ _ h => h) (yieldsIf_load_mid (by kernel_rfl) 50 _ rfl gp (k * 3) (by kernel_rfl) #[.bool pn, .slice po pl pc, .int .i64 pe].toList _ (fun V' hS => (range_later RP.out hS : V'.rangeAt gp (k * 3) [.bool pn, .slice po pl pc, .int .i64 pe])) Tryz.underlying50 rfl (by kernel_rfl)) bX ?_
            try simp only [Act.put, List.setIfInBounds_toArray, List.set_cons_zero, List.set_cons_succ]
            refine takeH 131 (i := 18) (v := .agg #[.bool n4, .slice o4 t4 p4, .int .i64 x4]) rfl rfl (by kernel_rfl) (by kernel_rfl) (by kernel_rfl) (fun _ _ _ h => h) (Or.inl ⟨by kernel_rfl, fun w' hSw => ex_loadRN _ 50 _ rfl B18 (by kernel_rfl) w' _ (kept hSw Q5.out.2.1) _ Tryz.underlying50 rfl 3 Tryz.infoN3 rfl⟩) bX ?_
            try simp only [Act.put, List.setIfInBounds_toArray, List.set_cons_zero, List.set_cons_succ]
            refine wpAnyH_ready (rs := [19]) (by kernel_rfl) (by simp) ?_
            refine consH _ rfl (hopCd 132 rfl (by kernel_rfl) rfl (by kernel_rfl) (Calls.mono (HCL.out _ bX) ?_)) AllReadyH.nil
            rintro e V1 ⟨s1, rfl, hs1, b1⟩
            have g1 : decide (s1 < 0) = false := decide_eq_false (by omega)
            have bX : Below w5.heap.size w5 V1 := to_call bX b1
            clear b1 hs1
            refine ⟨_, rfl, bX, ?_⟩
            try simp only [Act.put, List.setIfInBounds_toArray, List.set_cons_zero, List.set_cons_succ]
            refine takeH 133 (i := 20) (v := ?_) rfl rfl (by kernel_rfl) (by kernel_rfl) (by kernel_rfl) (fun _ _ _ h => h) (Or.inl ⟨by kernel_rfl, ?_⟩) bX ?_
            rotate_left
            · intro w' hSw; have s2 := cell_later CB.out hSw; go_simp; try with_reducible rfl
            try simp only [Act.put, List.setIfInBounds_toArray, List.set_cons_zero, List.set_cons_succ]
            refine takeH 134 (i := 21) (v := ?_) rfl rfl (by kernel_rfl) (by kernel_rfl) (by kernel_rfl) (fun _ _ _ h => h) (Or.inl ⟨by kernel_rfl, ?_⟩) bX ?_
            rotate_left
            · intro w' hSw; have s2 := cell_later CB.out hSw; go_simp; try with_reducible rfl
            try simp only [Act.put, List.setIfInBounds_toArray, List.set_cons_zero, List.set_cons_succ]
            refine takeH 135 (i := 22) (v := ?_) rfl rfl (by kernel_rfl) (by kernel_rfl) (by kernel_rfl) (fun _ _ _ h => h) (Or.inl ⟨by kernel_rfl, ?_⟩) bX ?_
            rotate_left
            · intro w' hSw; have s2 := cell_later CB.out hSw; go_simp; try with_reducible rfl
            try simp only [Act.put, List.setIfInBounds_toArray, List.set_cons_zero, List.set_cons_succ]
            refine takeH 136 (i := 23) (v := ?_) rfl rfl (by kernel_rfl) (by kernel_rfl) (by kernel_rfl) (fun _ _ _ h => h) (Or.inl ⟨by kernel_rfl, ?_⟩) bX ?_
            rotate_left
            · intro w' hSw; have s2 := cell_later CB.out hSw; go_simp; try with_reducible rfl
            try simp only [Act.put, List.setIfInBounds_toArray, List.set_cons_zero, List.set_cons_succ]
            refine takeH 137 (i := 24) (v := ?_) rfl rfl (by kernel_rfl) (by kernel_rfl) (by kernel_rfl) (fun _ _ _ h => h) (Or.inl ⟨by kernel_rfl, ?_⟩) bX ?_
            rotate_left
            · intro w' hSw; have s2 := cell_later CB.out hSw; go_simp; try with_reducible rfl
            try simp only [Act.put, List.setIfInBounds_toArray, List.set_cons_zero, List.set_cons_succ]
            refine takeH 138 (i := 25) (v := ?_) rfl rfl (by kernel_rfl) (by kernel_rfl) (by kernel_rfl) (fun _ _ _ h => h) (Or.inl ⟨by kernel_rfl, ?_⟩) bX ?_
            rotate_left
            · intro w' hSw; have s2 := cell_later CB.out hSw; go_simp; try with_reducible rfl
            try simp only [Act.put, List.setIfInBounds_toArray, List.set_cons_zero, List.set_cons_succ]
            refine takeH 139 (i := 26) (v := .agg #[.bool pn, .slice po pl pc, .int .i64 pe]) rfl rfl (by kernel_rfl) (by kernel_rfl) (by kernel_rfl) (fun _ _ _ h => h) (yieldsIf_load_mid (by kernel_rfl) 50 _ rfl gp (k * 3) (by kernel_rfl) #[.bool pn, .slice po pl pc, .int .i64 pe].toList _ (fun V' hS => (range_later RP.out hS : V'.rangeAt gp (k * 3) [.bool pn, .slice po pl pc, .int .i64 pe])) Tryz.underlying50 rfl (by kernel_rfl)) bX ?_
            try simp only [Act.put, List.setIfInBounds_toArray, List.set_cons_zero, List.set_cons_succ]
            refine takeH 140 (i := 27) (v := .agg #[.bool n5, .slice o5 t5 p5, .int .i64 x5]) rfl rfl (by kernel_rfl) (by kernel_rfl) (by kernel_rfl) (fun _ _ _ h => h) (Or.inl ⟨by kernel_rfl, fun w' hSw => ex_loadRN _ 50 _ rfl B20 (by kernel_rfl) w' _ (kept hSw Q5.out.2.2) _ Tryz.underlying50 rfl 3 Tryz.infoN3 rfl⟩) bX ?_
            try simp only [Act.put, List.setIfInBounds_toArray, List.set_cons_zero, List.set_cons_succ]
            refine wpAnyH_ready (rs := [28]) (by kernel_rfl) (by simp) ?_
            refine consH _ rfl (hopCd 141 rfl (by kernel_rfl) rfl (by kernel_rfl) (Calls.mono (HCH.out _ bX) ?_)) AllReadyH.nil
            rintro e V2 ⟨s2', rfl, hs2, b2⟩
            have g2 : decide (0 < s2') = false := decide_eq_false (by omega)
            have bX : Below w5.heap.size w5 V2 := to_call bX b2
            clear b2 hs2
            refine ⟨_, rfl, bX, ?_⟩
            try simp only [Act.put, List.setIfInBounds_toArray, List.set_cons_zero, List.set_cons_succ]
            refine takeH 142 (i := 29) (v := ?_) rfl rfl (by kernel_rfl) (by kernel_rfl) (by kernel_rfl) (fun _ _ _ h => h) (Or.inl ⟨by kernel_rfl, ?_⟩) bX ?_
            rotate_left
            · intro w' hSw; have s2 := cell_later CB.out hSw; go_simp; try with_reducible rfl
            try simp only [Act.put, List.setIfInBounds_toArray, List.set_cons_zero, List.set_cons_succ]
            refine takeH 143 (i := 30) (v := ?_) rfl rfl (by kernel_rfl) (by kernel_rfl) (by kernel_rfl) (fun _ _ _ h => h) (Or.inl ⟨by kernel_rfl, ?_⟩) bX ?_
            rotate_left
            · intro w' hSw; have s2 := cell_later CB.out hSw; go_simp; try with_reducible rfl
            try simp only [Act.put, List.setIfInBounds_toArray, List.set_cons_zero, List.set_cons_succ]
            refine takeH 144 (i := 31) (v := ?_) rfl rfl (by kernel_rfl) (by kernel_rfl) (by kernel_rfl) (fun _ _ _ h => h) (Or.inl ⟨by kernel_rfl, ?_⟩) bX ?_
            rotate_left
            · intro w' hSw; have s2 := cell_later CB.out hSw; go_simp; try with_reducible rfl
            try simp only [Act.put, List.setIfInBounds_toArray, List.set_cons_zero, List.set_cons_succ]
            refine wpAnyH_done (by kernel_rfl) ?_ _
            refine NoPanic.normal ?_
            try simp only [Act.put, List.setIfInBounds_toArray, List.set_cons_zero, List.set_cons_succ]
            have HQ9 : Hid (Below X7.heap.size X7 V2) := to_call HQ5.out bX
            clear bX CB RP ZP HPI HQ5 Q5 NL NH HFI HCL HCH g1 g2 HBD
            go_wp2_with fail
            go_roundg q
            case measure => omega
            case rel => exact ⟨k + 1, by go_num, by have := HIG.out; omega, HQ9⟩
        · have hd1 : decide ((k : Int) < (z.rn : Int)) = false := decide_eq_false (by omega)
          cases nd with
          | false =>
            have hok : ok = false := by
              rcases SR.out.is with ⟨h, _⟩ | ⟨_, _, h⟩
              · rw [HNN.out] at h; cases h
              · exact h
            subst hok
            clear SR DIR HNN
            go_wp2_with (go_at_call 9; refine Calls.mono (started_any _) ?_; rintro e w9 ⟨rfl, b9⟩)
            go_ret
            exact ⟨rfl, to_call (to_call Q6.out.1 QX.out) b9⟩
          | true =>
            have hdr := DIR.out rfl
            obtain ⟨hdl1, hdf⟩ := numN_fin HNN.out
            have hdl2 : ds.length = z.rn := by rw [HF.out.N] at hdl1; omega
            have HDL : Hid (ds.length = z.rn) := hdl2
            have HDF : Hid (∀ u ∈ ds, Fin u) := hdf
            obtain ⟨gd0, qd, dn0, do0, dl0, dc0, de0, hvd, -, -⟩ := RowN.range hdr (k := 0) (by rw [hdl2]; exact HF.out.n1)
            rw [hdl2] at hvd
            subst hvd
            have DR : Hid (∀ W', Below X6.heap.size X6 W' → RowN W' w4.heap.size (.slice (some ⟨gd0, 0, none⟩) z.rn qd) E ds) := fun W' hb => hdr.later hb
            have HW1 : Hid (∀ W', _) := fun W' => wholeI_any 1 (by decide) W'
            have HWM : Hid (∀ W', _) := fun W' => wholeI_any (-1) (by decide) W'
            have HQ0 : Hid (Below X7.heap.size X7 wr) := HQ.out
            clear hdr hdl1 hdf hdl2 DIR QX HQ
            go_wp2_with fail
            clear hd1 k1 h1 hk
            go_loopg [22, 24] z.gs.length (fun q v22 v24 wx => ∃ (k : Nat), v24 = .int .i64 k ∧ k + q = z.gs.length ∧ Hid (RowZ wx X7.heap.size v22 E 1024 (endL (2 ^ E) (fun j => dotV ds (z.gs[j]?.getD []) z.rn) k)) ∧ Hid (Below X7.heap.size X7 wx))
            case atStart => exact ⟨0, rfl, by omega, RowZ.nil _ _ _ _, HQ0⟩
            case round =>
              obtain ⟨k, rfl, hk, HO, HQ⟩ := hrel
              clear HQ0
              have QX : Hid (Below X6.heap.size X6 wr) := to_call HBC.out HQ.out
              have k3 : wr.cell? ⟨B3, 3, none⟩ = some (.slice a3 z.gs.length c3) := cellAtJ (kept QX.out Q6.out.2.2.1) 3 _ rfl
              by_cases h1 : k < z.gs.length
              · have hd1 : decide ((k : Int) < (z.gs.length : Int)) = true := decide_eq_true (by omega)
                obtain ⟨q, rfl⟩ : ∃ q, gk = q + 1 := ⟨gk - 1, by omega⟩
                have HIG : Hid _ := hk
                clear hk
                have hk0 : (k : Int) < (z.gs.length : Int) := by omega
                go_upto_region 23 with fail
                obtain ⟨gg, uc, hg3', hc1', hcol'⟩ := RlS.colAt (Q6.out.2.2.2.1.later QX.out) h1
                obtain ⟨gb, gcap, hub⟩ := hcol'.form
                rw [HF.out.gl k (by have h2 := HGL.out; omega)] at hub
                subst hub
                have hg3 : Hid _ := hg3'
                have hc1 : Hid _ := hc1'
                have hcol : Hid (RowN wr w1.heap.size (.slice gb z.rn gcap) E (z.gs[k]?.getD [])) := hcol'
                clear hg3' hc1' hcol' k3 hd1
                obtain ⟨dv, hdv⟩ : ∃ dv, dotV ds (z.gs[k]?.getD []) z.rn = dv := ⟨_, rfl⟩
                have HDV : Hid (dotV ds (z.gs[k]?.getD []) z.rn = dv) := hdv
                clear hdv
                go_upto_region 24 with (go_at_call 15; refine Calls.mono (HW1.out _) ?_; rintro e V1 ⟨v1, rfl, hz1, b1⟩; have hz2 := endC HE.out (.inl rfl) hz1; obtain ⟨n1, o1, l1', c1', e1', hv1⟩ := NumC.form hz2; subst hv1; have N1 : Hid (NumC V1 (.agg #[.bool n1, .slice o1 l1' c1', .int .i64 e1']) E 1024 (1 * ((2 ^ E : Nat) : Int))) := hz2; clear hz1 hz2)
                have A1 : Below V1.heap.size V1 (V1.alloc (.cells #[.bool n1, .slice o1 l1' c1', .int .i64 e1'] 50)) := (Below.refl _ V1).alloc (Nat.le_refl _) _
                have Q1 : Hid (Below wr.heap.size wr (V1.alloc (.cells #[.bool n1, .slice o1 l1' c1', .int .i64 e1'] 50)) ∧ BxN (V1.alloc (.cells #[.bool n1, .slice o1 l1' c1', .int .i64 e1'] 50)) V1.heap.size E 1024 (1 * ((2 ^ E : Nat) : Int)) n1 o1 l1' c1' e1' ∧ wr.heap.size ≤ V1.heap.size) := ⟨to_call b1 A1, ⟨heap_alloc_new V1 _, NumC.later N1.out A1⟩, b1.size⟩
                obtain ⟨Y1, hY1⟩ : ∃ Y1, V1.alloc (.cells #[.bool n1, .slice o1 l1' c1', .int .i64 e1'] 50) = Y1 := ⟨_, rfl⟩
                obtain ⟨D, hD⟩ : ∃ D, V1.heap.size = D := ⟨_, rfl⟩
                rw [hY1, hD] at Q1
                rw [hY1, hD]
                clear hY1 hD A1 b1 N1
                have k4 : Y1.cell? ⟨B3, 3, none⟩ = some (.slice (some ⟨gg, 0, none⟩) z.gs.length c3) := by rw [← hg3.out]; exact cellAtJ (kept (to_call QX.out Q1.out.1) Q6.out.2.2.1) 3 _ rfl
                have k5 := cell_later hc1.out Q1.out.1
                have HPD : Hid (∀ W', Below wr.heap.size wr W' → Calls Tryz.prog 17 #[.slice (some ⟨gd0, 0, none⟩) z.rn qd, .slice gb z.rn gcap] W' fun e w' => ∃ v, e = .returned v ∧ NumC w' v (E + E) (1024 + 1024 + 256) dv ∧ Below W'.heap.size W' w') := fun W' hb => by
                  refine Calls.mono (product_any _ _ (ds.map fval) ((z.gs[k]?.getD []).map fval) _ _ E E 1024 1024 W' (RowN.toZ (DR.out W' (to_call QX.out hb))) (RowN.toZ (hcol.out.later hb)) (by rw [List.length_map, List.length_map, HDL.out, HF.out.gl k (by have h2 := HGL.out; omega)]) (by rw [List.length_map, HDL.out]; exact hn2) (by rw [HE.out]; omega)) ?_
                  rintro e w' ⟨v, he, hz, hb'⟩
                  rw [List.length_map, HDL.out, prodV_dot, HDV.out] at hz
                  exact ⟨v, he, hz.mono (by have := hn2; omega), hb'⟩
                by_cases hneg : dv < 0
                · have dc : decide (sgi dv < 0) = true := by rw [sgi_ltK]; exact decide_eq_true hneg
                  go_upto_region 26 with (first
                    | (go_at_call 17; refine Calls.mono (HPD.out _ Q1.out.1) ?_; rintro e V0 ⟨v8, rfl, hz8, b8⟩; have Z8 : Hid (NumC V0 v8 (E + E) (1024 + 1024 + 256) dv) := hz8; have B8 : Hid (Below Y1.heap.size Y1 V0) := b8; clear hz8 b8)
                    | (go_at_call 16; refine Calls.mono (signZ_any _ _ _ _ _ (NumC.toZ Z8.out)) ?_; rintro e V2 ⟨rfl, b8⟩; have PB : Hid (Below Y1.heap.size Y1 V2) := to_call B8.out b8; clear b8 Z8 B8)
                    | (go_at_call 15; refine Calls.mono (HWM.out _) ?_; rintro e V3 ⟨v1, rfl, hz1, b1⟩; have hz2 := endC HE.out (.inr rfl) hz1; obtain ⟨n1, o1, l1', c1', e1', hv1⟩ := NumC.form hz2; subst hv1; have N2 : Hid (NumC V3 (.agg #[.bool n1, .slice o1 l1' c1', .int .i64 e1']) E 1024 (-1 * ((2 ^ E : Nat) : Int))) := hz2; clear hz1 hz2)
                    | (refine wpList_store_row (by rfl) 50 _ _ (by rfl) wr wr.heap.size D #[.bool n1, .slice o1 l1' c1', .int .i64 e1'] _ (by rfl) (by rfl) (kept b1 (kept PB.out Q1.out.2.1.row)) (to_call (to_call Q1.out.1 PB.out) b1) Q1.out.2.2 3 Tryz.infoN3 (by rfl) (by rfl) (oneN _ _ _ _ _) ?_; intro W9 e9 b9 s9 o9))
                  have QW : Hid (Below wr.heap.size wr W9 ∧ BxN W9 D E 1024 (endV (2 ^ E) ((fun j => dotV ds (z.gs[j]?.getD []) z.rn) k)) n1 o1 l1' c1' e1') := ⟨b9, ⟨e9, by
                    have h := (show NumC _ _ _ _ _ from N2.out).cl (num_cl (kept b1 (kept PB.out Q1.out.2.1.row))) (fun b hb _ => o9 b hb)
                    rw [Int.neg_mul, Int.one_mul] at h
                    show NumC _ _ _ _ (endV _ _)
                    dsimp only
                    rw [HDV.out]
                    unfold endV
                    rw [if_pos (by omega)]
                    exact h⟩⟩
                  clear b9 e9 o9 s9 N2 b1 PB dc k4 k5 HPD
                  obtain ⟨xs, hxo, hxj⟩ := (HO.out.later QW.out.1).own
                  have HXJ : Hid _ := hxj
                  rw [endL_len] at hxo
                  have HX2 : Hid _ := hxo
                  have HC2 : Hid (∀ g, u22.ownBlock = some g → Cl noU (W9.alloc (.cells #[.bool n1, .slice o1 l1' c1', .int .i64 e1'] 50)) g) := fun g hg => ((HO.out.cl g hg).later QW.out.1).later ((Below.refl _ W9).alloc (Nat.le_refl _) _)
                  have hws : X7.heap.size ≤ W9.heap.size := (to_call HQ.out QW.out.1).size
                  clear hxo hxj
                  go_wp2_with (first
                    | (refine wpList_load_row (by rfl) 50 _ (by rfl) D _ (by rfl) QW.out.2.row _ Tryz.underlying50 rfl 3 Tryz.infoN3 (by rfl) ?_)
                    | (at_builtin; refine append_clJ noU Tryz.underlying27 Tryz.infoNumJ rfl (by decide) (by decide) zero_noU _ (by rfl) _ _ (by rfl) X7.heap.size _ k xs (by rfl) (World.ownsRow.alloc HX2.out _) HC2.out ⟨W9.heap.size, 0, none⟩ 1 1 [.bool n1, .slice o1 l1' c1', .int .i64 e1'] (by rfl) (by decide) rfl (news_threeJ (heap_alloc_new W9 _)) (three_one n1 o1 l1' c1' e1') (three_noU n1 o1 l1' c1' e1') (by omega) (by simp only [alloc_size]; omega) ?_; intro v5 w5 o5 g5 cl5))
                  have A2 : Below W9.heap.size W9 (W9.alloc (.cells #[.bool n1, .slice o1 l1' c1', .int .i64 e1'] 50)) := (Below.refl _ W9).alloc (Nat.le_refl _) _
                  have R5 : Hid (RowZ w5 X7.heap.size v5 E 1024 (endL (2 ^ E) (fun j => dotV ds (z.gs[j]?.getD []) z.rn) (k + 1))) := by
                    unfold Hid
                    rw [endL_snoc]
                    refine RowZ.push (xs := xs) (by rw [endL_len]; exact World.ownsRow.alloc HX2.out _) (fun j hj => ?_) HC2.out (NumC.later (show NumC _ _ _ _ _ from QW.out.2.num) A2) (by rw [endL_len]; exact o5) g5 cl5
                    obtain ⟨n2, o2, l2, c2, e2, a1, a2, a3, a4⟩ := HXJ.out j hj
                    exact ⟨n2, o2, l2, c2, e2, a1, a2, a3, a4.later A2⟩
                  have B5 : Hid (Below X7.heap.size X7 w5) := (to_call (to_call HQ.out QW.out.1) A2).trans (g5.below (fun k hk => (World.ownsRow.lt HX2.out k hk).1) (by simp only [alloc_size]; omega))
                  clear o5 g5 cl5 A2 HC2 HX2 HXJ QW
                  go_wp2_with fail
                  go_roundg q
                  case measure => omega
                  case rel => exact ⟨k + 1, by go_num, by have := HIG.out; omega, R5, B5⟩
                · have dc : decide (sgi dv < 0) = false := by rw [sgi_ltK]; exact decide_eq_false hneg
                  go_upto_region 26 with (first
                    | (go_at_call 17; refine Calls.mono (HPD.out _ Q1.out.1) ?_; rintro e V0 ⟨v8, rfl, hz8, b8⟩; have Z8 : Hid (NumC V0 v8 (E + E) (1024 + 1024 + 256) dv) := hz8; have B8 : Hid (Below Y1.heap.size Y1 V0) := b8; clear hz8 b8)
                    | (go_at_call 16; refine Calls.mono (signZ_any _ _ _ _ _ (NumC.toZ Z8.out)) ?_; rintro e V2 ⟨rfl, b8⟩; have PB : Hid (Below Y1.heap.size Y1 V2) := to_call B8.out b8; clear b8 Z8 B8))
                  have QW : Hid (Below wr.heap.size wr V2 ∧ BxN V2 D E 1024 (endV (2 ^ E) ((fun j => dotV ds (z.gs[j]?.getD []) z.rn) k)) n1 o1 l1' c1' e1') := ⟨to_call Q1.out.1 PB.out, ⟨kept PB.out Q1.out.2.1.row, by
                    have h := NumC.later Q1.out.2.1.num PB.out
                    rw [Int.one_mul] at h
                    show NumC _ _ _ _ (endV _ _)
                    dsimp only
                    rw [HDV.out]
                    unfold endV
                    rw [if_neg (by omega)]
                    exact h⟩⟩
                  clear PB dc k4 k5 HPD
                  obtain ⟨xs, hxo, hxj⟩ := (HO.out.later QW.out.1).own
                  have HXJ : Hid _ := hxj
                  rw [endL_len] at hxo
                  have HX2 : Hid _ := hxo
                  have HC2 : Hid (∀ g, u22.ownBlock = some g → Cl noU (V2.alloc (.cells #[.bool n1, .slice o1 l1' c1', .int .i64 e1'] 50)) g) := fun g hg => ((HO.out.cl g hg).later QW.out.1).later ((Below.refl _ V2).alloc (Nat.le_refl _) _)
                  have hws : X7.heap.size ≤ V2.heap.size := (to_call HQ.out QW.out.1).size
                  clear hxo hxj
                  go_wp2_with (first
                    | (refine wpList_load_row (by rfl) 50 _ (by rfl) D _ (by rfl) QW.out.2.row _ Tryz.underlying50 rfl 3 Tryz.infoN3 (by rfl) ?_)
                    | (at_builtin; refine append_clJ noU Tryz.underlying27 Tryz.infoNumJ rfl (by decide) (by decide) zero_noU _ (by rfl) _ _ (by rfl) X7.heap.size _ k xs (by rfl) (World.ownsRow.alloc HX2.out _) HC2.out ⟨V2.heap.size, 0, none⟩ 1 1 [.bool n1, .slice o1 l1' c1', .int .i64 e1'] (by rfl) (by decide) rfl (news_threeJ (heap_alloc_new V2 _)) (three_one n1 o1 l1' c1' e1') (three_noU n1 o1 l1' c1' e1') (by omega) (by simp only [alloc_size]; omega) ?_; intro v5 w5 o5 g5 cl5))
                  have A2 : Below V2.heap.size V2 (V2.alloc (.cells #[.bool n1, .slice o1 l1' c1', .int .i64 e1'] 50)) := (Below.refl _ V2).alloc (Nat.le_refl _) _
                  have R5 : Hid (RowZ w5 X7.heap.size v5 E 1024 (endL (2 ^ E) (fun j => dotV ds (z.gs[j]?.getD []) z.rn) (k + 1))) := by
                    unfold Hid
                    rw [endL_snoc]
                    refine RowZ.push (xs := xs) (by rw [endL_len]; exact World.ownsRow.alloc HX2.out _) (fun j hj => ?_) HC2.out (NumC.later (show NumC _ _ _ _ _ from QW.out.2.num) A2) (by rw [endL_len]; exact o5) g5 cl5
                    obtain ⟨n2, o2, l2, c2, e2, a1, a2, a3, a4⟩ := HXJ.out j hj
                    exact ⟨n2, o2, l2, c2, e2, a1, a2, a3, a4.later A2⟩
                  have B5 : Hid (Below X7.heap.size X7 w5) := (to_call (to_call HQ.out QW.out.1) A2).trans (g5.below (fun k hk => (World.ownsRow.lt HX2.out k hk).1) (by simp only [alloc_size]; omega))
                  clear o5 g5 cl5 A2 HC2 HX2 HXJ QW
                  go_wp2_with fail
                  go_roundg q
                  case measure => omega
                  case rel => exact ⟨k + 1, by go_num, by have := HIG.out; omega, R5, B5⟩
              · have hd1 : decide ((k : Int) < (z.gs.length : Int)) = false := decide_eq_false (by omega)
                have hkg : k = z.gs.length := by omega
                rw [hkg] at HO
                clear hkg
                obtain ⟨W2, hW2⟩ : ∃ W2, wr = W2 := ⟨_, rfl⟩
                rw [hW2] at HO HQ QX ⊢
                have HE2 : Hid (RowZ W2 X7.heap.size u22 E 1024 (endL (2 ^ E) (fun j => dotV ds (z.gs[j]?.getD []) z.rn) z.gs.length)) := HO.out
                have QW2 : Hid (Below X7.heap.size X7 W2) := HQ.out
                have k3 : W2.cell? ⟨B3, 3, none⟩ = some (.slice a3 z.gs.length c3) := cellAtJ (kept QX.out Q6.out.2.2.1) 3 _ rfl
                have QXW : Hid (Below X6.heap.size X6 W2) := QX.out
                clear hW2 HO HQ QX
                go_wp2_with fail
                clear hd1 k3 h1 hk
                go_loopg [23, 26] z.rn (fun q v23 v26 wx => ∃ (k : Nat), v26 = .int .i64 k ∧ k + q = z.rn ∧ Hid (RowZ wx W2.heap.size v23 E 1024 (endL (2 ^ E) (fun j => fval (ds[j]?.getD 0)) k)) ∧ Hid (Below W2.heap.size W2 wx))
                case atStart => exact ⟨0, rfl, by omega, RowZ.nil _ _ _ _, Below.refl _ _⟩
                case round =>
                  obtain ⟨k, rfl, hk, HO, HQ⟩ := hrel
                  have QX : Hid (Below X6.heap.size X6 wr) := to_call QXW.out HQ.out
                  have k3 : wr.cell? ⟨B3, 0, none⟩ = some (.int .i64 (z.rn : Int)) := cellAtJ (kept QX.out Q6.out.2.2.1) 0 _ rfl
                  by_cases h1 : k < z.rn
                  · have hd1 : decide ((k : Int) < (z.rn : Int)) = true := decide_eq_true (by omega)
                    obtain ⟨q, rfl⟩ : ∃ q, gk = q + 1 := ⟨gk - 1, by omega⟩
                    have HIG : Hid _ := hk
                    clear hk
                    have hk0 : (k : Int) < (z.rn : Int) := by omega
                    go_upto_region 30 with fail
                    obtain ⟨gd', qd', n9, o9', t9, p9, x9, hv9, hr9, hz9⟩ := RowN.range (DR.out wr QX.out) (k := k) (by rw [HDL.out]; exact h1)
                    have hgd : gd' = gd0 := by injection hv9 with e1; injection e1 with e1; injection e1 with e1; exact e1.symm
                    rw [hgd] at hr9
                    obtain ⟨dv, hdv⟩ : ∃ dv, fval (ds[k]?.getD 0) = dv := ⟨_, rfl⟩
                    have HDV : Hid (fval (ds[k]?.getD 0) = dv) := hdv
                    rw [hdv] at hz9
                    have R9 : Hid (wr.rangeAt gd0 (k * 3) [.bool n9, .slice o9' t9 p9, .int .i64 x9]) := hr9
                    have Z9 : Hid (NumC wr (.agg #[.bool n9, .slice o9' t9 p9, .int .i64 x9]) E 1024 dv) := hz9
                    clear hv9 hr9 hz9 hgd hdv k3 hd1
                    go_upto_region 31 with (go_at_call 15; refine Calls.mono (HW1.out _) ?_; rintro e V1 ⟨v1, rfl, hz1, b1⟩; have hz2 := endC HE.out (.inl rfl) hz1; obtain ⟨n1, o1, l1', c1', e1', hv1⟩ := NumC.form hz2; subst hv1; have N1 : Hid (NumC V1 (.agg #[.bool n1, .slice o1 l1' c1', .int .i64 e1']) E 1024 (1 * ((2 ^ E : Nat) : Int))) := hz2; clear hz1 hz2)
                    have A1 : Below V1.heap.size V1 (V1.alloc (.cells #[.bool n1, .slice o1 l1' c1', .int .i64 e1'] 50)) := (Below.refl _ V1).alloc (Nat.le_refl _) _
                    have Q1 : Hid (Below wr.heap.size wr (V1.alloc (.cells #[.bool n1, .slice o1 l1' c1', .int .i64 e1'] 50)) ∧ BxN (V1.alloc (.cells #[.bool n1, .slice o1 l1' c1', .int .i64 e1'] 50)) V1.heap.size E 1024 (1 * ((2 ^ E : Nat) : Int)) n1 o1 l1' c1' e1' ∧ wr.heap.size ≤ V1.heap.size) := ⟨to_call b1 A1, ⟨heap_alloc_new V1 _, NumC.later N1.out A1⟩, b1.size⟩
                    obtain ⟨Y1, hY1⟩ : ∃ Y1, V1.alloc (.cells #[.bool n1, .slice o1 l1' c1', .int .i64 e1'] 50) = Y1 := ⟨_, rfl⟩
                    obtain ⟨D, hD⟩ : ∃ D, V1.heap.size = D := ⟨_, rfl⟩
                    rw [hY1, hD] at Q1
                    rw [hY1, hD]
                    clear hY1 hD A1 b1 N1
                    by_cases hneg : dv < 0
                    · have dc : decide (sgi dv < 0) = true := by rw [sgi_ltK]; exact decide_eq_true hneg
                      go_upto_region 33 with (first
                        | (refine wpList_load_mid (by rfl) 50 _ (by rfl) gd0 (k * 3) (by rfl) #[.bool n9, .slice o9' t9 p9, .int .i64 x9].toList _ (range_later R9.out Q1.out.1) Tryz.underlying50 rfl (by kernel_rfl) ?_)
                        | (go_at_call 16; refine Calls.mono (signZ_any _ _ _ _ _ (NumC.toZ (NumC.later Z9.out Q1.out.1))) ?_; rintro e V2 ⟨rfl, b8⟩; have PB : Hid (Below Y1.heap.size Y1 V2) := b8; clear b8)
                        | (go_at_call 15; refine Calls.mono (HWM.out _) ?_; rintro e V3 ⟨v1, rfl, hz1, b1⟩; have hz2 := endC HE.out (.inr rfl) hz1; obtain ⟨n1, o1, l1', c1', e1', hv1⟩ := NumC.form hz2; subst hv1; have N2 : Hid (NumC V3 (.agg #[.bool n1, .slice o1 l1' c1', .int .i64 e1']) E 1024 (-1 * ((2 ^ E : Nat) : Int))) := hz2; clear hz1 hz2)
                        | (refine wpList_store_row (by rfl) 50 _ _ (by rfl) wr wr.heap.size D #[.bool n1, .slice o1 l1' c1', .int .i64 e1'] _ (by rfl) (by rfl) (kept b1 (kept PB.out Q1.out.2.1.row)) (to_call (to_call Q1.out.1 PB.out) b1) Q1.out.2.2 3 Tryz.infoN3 (by rfl) (by rfl) (oneN _ _ _ _ _) ?_; intro W9 e9 b9 s9 o9))
                      have QW : Hid (Below wr.heap.size wr W9 ∧ BxN W9 D E 1024 (endV (2 ^ E) ((fun j => fval (ds[j]?.getD 0)) k)) n1 o1 l1' c1' e1') := ⟨b9, ⟨e9, by
                        have h := (show NumC _ _ _ _ _ from N2.out).cl (num_cl (kept b1 (kept PB.out Q1.out.2.1.row))) (fun b hb _ => o9 b hb)
                        rw [Int.neg_mul, Int.one_mul] at h
                        show NumC _ _ _ _ (endV _ _)
                        dsimp only
                        rw [HDV.out]
                        unfold endV
                        rw [if_pos (by omega)]
                        exact h⟩⟩
                      clear b9 e9 o9 s9 N2 b1 PB dc R9 Z9
                      obtain ⟨xs, hxo, hxj⟩ := (HO.out.later QW.out.1).own
                      have HXJ : Hid _ := hxj
                      rw [endL_len] at hxo
                      have HX2 : Hid _ := hxo
                      have HC2 : Hid (∀ g, u23.ownBlock = some g → Cl noU (W9.alloc (.cells #[.bool n1, .slice o1 l1' c1', .int .i64 e1'] 50)) g) := fun g hg => ((HO.out.cl g hg).later QW.out.1).later ((Below.refl _ W9).alloc (Nat.le_refl _) _)
                      have hws : W2.heap.size ≤ W9.heap.size := (to_call HQ.out QW.out.1).size
                      clear hxo hxj
                      go_wp2_with (first
                        | (refine wpList_load_row (by rfl) 50 _ (by rfl) D _ (by rfl) QW.out.2.row _ Tryz.underlying50 rfl 3 Tryz.infoN3 (by rfl) ?_)
                        | (at_builtin; refine append_clJ noU Tryz.underlying27 Tryz.infoNumJ rfl (by decide) (by decide) zero_noU _ (by rfl) _ _ (by rfl) W2.heap.size _ k xs (by rfl) (World.ownsRow.alloc HX2.out _) HC2.out ⟨W9.heap.size, 0, none⟩ 1 1 [.bool n1, .slice o1 l1' c1', .int .i64 e1'] (by rfl) (by decide) rfl (news_threeJ (heap_alloc_new W9 _)) (three_one n1 o1 l1' c1' e1') (three_noU n1 o1 l1' c1' e1') (by omega) (by simp only [alloc_size]; omega) ?_; intro v5 w5 o5 g5 cl5))
                      have A2 : Below W9.heap.size W9 (W9.alloc (.cells #[.bool n1, .slice o1 l1' c1', .int .i64 e1'] 50)) := (Below.refl _ W9).alloc (Nat.le_refl _) _
                      have R5 : Hid (RowZ w5 W2.heap.size v5 E 1024 (endL (2 ^ E) (fun j => fval (ds[j]?.getD 0)) (k + 1))) := by
                        unfold Hid
                        rw [endL_snoc]
                        refine RowZ.push (xs := xs) (by rw [endL_len]; exact World.ownsRow.alloc HX2.out _) (fun j hj => ?_) HC2.out (NumC.later (show NumC _ _ _ _ _ from QW.out.2.num) A2) (by rw [endL_len]; exact o5) g5 cl5
                        obtain ⟨n2, o2, l2, c2, e2, a1, a2, a3, a4⟩ := HXJ.out j hj
                        exact ⟨n2, o2, l2, c2, e2, a1, a2, a3, a4.later A2⟩
                      have B5 : Hid (Below W2.heap.size W2 w5) := (to_call (to_call HQ.out QW.out.1) A2).trans (g5.below (fun k hk => (World.ownsRow.lt HX2.out k hk).1) (by simp only [alloc_size]; omega))
                      clear o5 g5 cl5 A2 HC2 HX2 HXJ QW
                      go_wp2_with fail
                      go_roundg q
                      case measure => omega
                      case rel => exact ⟨k + 1, by go_num, by have := HIG.out; omega, R5, B5⟩
                    · have dc : decide (sgi dv < 0) = false := by rw [sgi_ltK]; exact decide_eq_false hneg
                      go_upto_region 33 with (first
                        | (refine wpList_load_mid (by rfl) 50 _ (by rfl) gd0 (k * 3) (by rfl) #[.bool n9, .slice o9' t9 p9, .int .i64 x9].toList _ (range_later R9.out Q1.out.1) Tryz.underlying50 rfl (by kernel_rfl) ?_)
                        | (go_at_call 16; refine Calls.mono (signZ_any _ _ _ _ _ (NumC.toZ (NumC.later Z9.out Q1.out.1))) ?_; rintro e V2 ⟨rfl, b8⟩; have PB : Hid (Below Y1.heap.size Y1 V2) := b8; clear b8))
                      have QW : Hid (Below wr.heap.size wr V2 ∧ BxN V2 D E 1024 (endV (2 ^ E) ((fun j => fval (ds[j]?.getD 0)) k)) n1 o1 l1' c1' e1') := ⟨to_call Q1.out.1 PB.out, ⟨kept PB.out Q1.out.2.1.row, by
                        have h := NumC.later Q1.out.2.1.num PB.out
                        rw [Int.one_mul] at h
                        show NumC _ _ _ _ (endV _ _)
                        dsimp only
                        rw [HDV.out]
                        unfold endV
                        rw [if_neg (by omega)]
                        exact h⟩⟩
                      clear PB dc R9 Z9
                      obtain ⟨xs, hxo, hxj⟩ := (HO.out.later QW.out.1).own
                      have HXJ : Hid _ := hxj
                      rw [endL_len] at hxo
                      have HX2 : Hid _ := hxo
                      have HC2 : Hid (∀ g, u23.ownBlock = some g → Cl noU (V2.alloc (.cells #[.bool n1, .slice o1 l1' c1', .int .i64 e1'] 50)) g) := fun g hg => ((HO.out.cl g hg).later QW.out.1).later ((Below.refl _ V2).alloc (Nat.le_refl _) _)
                      have hws : W2.heap.size ≤ V2.heap.size := (to_call HQ.out QW.out.1).size
                      clear hxo hxj
                      go_wp2_with (first
                        | (refine wpList_load_row (by rfl) 50 _ (by rfl) D _ (by rfl) QW.out.2.row _ Tryz.underlying50 rfl 3 Tryz.infoN3 (by rfl) ?_)
                        | (at_builtin; refine append_clJ noU Tryz.underlying27 Tryz.infoNumJ rfl (by decide) (by decide) zero_noU _ (by rfl) _ _ (by rfl) W2.heap.size _ k xs (by rfl) (World.ownsRow.alloc HX2.out _) HC2.out ⟨V2.heap.size, 0, none⟩ 1 1 [.bool n1, .slice o1 l1' c1', .int .i64 e1'] (by rfl) (by decide) rfl (news_threeJ (heap_alloc_new V2 _)) (three_one n1 o1 l1' c1' e1') (three_noU n1 o1 l1' c1' e1') (by omega) (by simp only [alloc_size]; omega) ?_; intro v5 w5 o5 g5 cl5))
                      have A2 : Below V2.heap.size V2 (V2.alloc (.cells #[.bool n1, .slice o1 l1' c1', .int .i64 e1'] 50)) := (Below.refl _ V2).alloc (Nat.le_refl _) _
                      have R5 : Hid (RowZ w5 W2.heap.size v5 E 1024 (endL (2 ^ E) (fun j => fval (ds[j]?.getD 0)) (k + 1))) := by
                        unfold Hid
                        rw [endL_snoc]
                        refine RowZ.push (xs := xs) (by rw [endL_len]; exact World.ownsRow.alloc HX2.out _) (fun j hj => ?_) HC2.out (NumC.later (show NumC _ _ _ _ _ from QW.out.2.num) A2) (by rw [endL_len]; exact o5) g5 cl5
                        obtain ⟨n2, o2, l2, c2, e2, a1, a2, a3, a4⟩ := HXJ.out j hj
                        exact ⟨n2, o2, l2, c2, e2, a1, a2, a3, a4.later A2⟩
                      have B5 : Hid (Below W2.heap.size W2 w5) := (to_call (to_call HQ.out QW.out.1) A2).trans (g5.below (fun k hk => (World.ownsRow.lt HX2.out k hk).1) (by simp only [alloc_size]; omega))
                      clear o5 g5 cl5 A2 HC2 HX2 HXJ QW
                      go_wp2_with fail
                      go_roundg q
                      case measure => omega
                      case rel => exact ⟨k + 1, by go_num, by have := HIG.out; omega, R5, B5⟩
                  · have hd1 : decide ((k : Int) < (z.rn : Int)) = false := decide_eq_false (by omega)
                    have hkg : k = z.rn := by omega
                    rw [hkg] at HO
                    clear hkg
                    have HPQ : Hid (∀ W', Below wr.heap.size wr W' → _) := fun W' hb => HPO.out W' u22 u23 (endL (2 ^ E) (fun j => dotV ds (z.gs[j]?.getD []) z.rn) z.gs.length) (endL (2 ^ E) (fun j => fval (ds[j]?.getD 0)) z.rn) X7.heap.size W2.heap.size (to_call QX.out hb) (HE2.out.later (to_call HQ.out hb)) (HO.out.later hb) (endL_len _ _ _) (endL_len _ _ _) endL_abs endL_abs
                    have HPD : Hid (∀ W' (v : Value) (B : Nat), Below wr.heap.size wr W' → RowZ W' B v (E + E) 1060 (ptV (2 ^ E) z.cs z.rs z.gs (endL (2 ^ E) (fun j => dotV ds (z.gs[j]?.getD []) z.rn) z.gs.length) (endL (2 ^ E) (fun j => fval (ds[j]?.getD 0)) z.rn) z.rn) → Calls Tryz.prog 17 #[.slice (some ⟨gd0, 0, none⟩) z.rn qd, v] W' fun e w' => ∃ v', e = .returned v' ∧ NumC w' v' (E + (E + E)) (1024 + 1060 + 256) (((2 ^ E : Nat) : Int) * supV ds z.cs z.rs z.gs z.rn) ∧ Below W'.heap.size W' w') := fun W' v B hb hv => by
                      refine Calls.mono (product_any _ _ (ds.map fval) _ _ _ E (E + E) 1024 1060 W' (RowN.toZ (DR.out W' (to_call QX.out hb))) hv (by rw [List.length_map, HDL.out, ptV_len]) (by rw [List.length_map, HDL.out]; exact hn2) (by rw [HE.out]; omega)) ?_
                      rintro e w' ⟨v', he, hz, hb'⟩
                      rw [List.length_map, HDL.out, prod_ends (fun k hk => endL_at hk) (fun k hk => endL_at hk) HF.out.pos] at hz
                      exact ⟨v', he, hz.mono (by have := hn2; omega), hb'⟩
                    go_upto_region 35 with (first
                      | (refine wpList_load_row (by rfl) 30 _ (by rfl) B3 _ (by rfl) (kept QX.out Q6.out.2.2.1) _ Tryz.underlying30 rfl 5 Tryz.infoR5 (by rfl) ?_)
                      | (go_at_call 10; refine Calls.mono (HPQ.out _ (Below.refl _ _)) ?_; rintro e V1 ⟨vq, rfl, hpq, b1⟩; have PQ : Hid (RowZ V1 wr.heap.size vq (E + E) 1060 (ptV (2 ^ E) z.cs z.rs z.gs (endL (2 ^ E) (fun j => dotV ds (z.gs[j]?.getD []) z.rn) z.gs.length) (endL (2 ^ E) (fun j => fval (ds[j]?.getD 0)) z.rn) z.rn)) := hpq; have B1 : Hid (Below wr.heap.size wr V1) := b1; clear hpq b1)
                      | (go_at_call 17; refine Calls.mono (HPD.out _ _ _ B1.out PQ.out) ?_; rintro e V2 ⟨v2, rfl, hz2, b2⟩; obtain ⟨n2, o2, t2, p2, x2, hv2⟩ := hz2.form; subst hv2; have N2 : Hid (NumC V2 (.agg #[.bool n2, .slice o2 t2 p2, .int .i64 x2]) (E + (E + E)) (1024 + 1060 + 256) (((2 ^ E : Nat) : Int) * supV ds z.cs z.rs z.gs z.rn)) := hz2; have B2 : Hid (Below wr.heap.size wr V2) := to_call B1.out b2; clear hz2 b2 PQ B1))
                    have A2 : Below V2.heap.size V2 (V2.alloc (.cells #[.bool n2, .slice o2 t2 p2, .int .i64 x2] 50)) := (Below.refl _ V2).alloc (Nat.le_refl _) _
                    have Q2 : Hid (Below wr.heap.size wr (V2.alloc (.cells #[.bool n2, .slice o2 t2 p2, .int .i64 x2] 50)) ∧ (V2.alloc (.cells #[.bool n2, .slice o2 t2 p2, .int .i64 x2] 50)).heap[V2.heap.size]? = some (.cells #[.bool n2, .slice o2 t2 p2, .int .i64 x2] 50) ∧ NumC (V2.alloc (.cells #[.bool n2, .slice o2 t2 p2, .int .i64 x2] 50)) (.agg #[.bool n2, .slice o2 t2 p2, .int .i64 x2]) (E + (E + E)) (1024 + 1060 + 256) (((2 ^ E : Nat) : Int) * supV ds z.cs z.rs z.gs z.rn)) := ⟨to_call B2.out A2, heap_alloc_new V2 _, NumC.later N2.out A2⟩
                    obtain ⟨Y2, hY2⟩ : ∃ Y2, V2.alloc (.cells #[.bool n2, .slice o2 t2 p2, .int .i64 x2] 50) = Y2 := ⟨_, rfl⟩
                    obtain ⟨B28, hB28⟩ : ∃ B28, V2.heap.size = B28 := ⟨_, rfl⟩
                    rw [hY2, hB28] at Q2
                    rw [hY2, hB28]
                    clear hY2 hB28 A2 B2 N2 HPQ HPD k3 hd1 h1 hk
                    go_upto_region 36 with (first
                      | (refine wpList_load_row (by rfl) 50 _ (by rfl) B28 _ (by rfl) Q2.out.2.1 _ Tryz.underlying50 rfl 3 Tryz.infoN3 (by rfl) ?_)
                      | (go_at_call 18; refine Calls.mono (roundZ_any 1 _ (E + (E + E)) (E + E) (1024 + 1060 + 256) _ _ (NumC.toZ Q2.out.2.2) E HE.out rfl (by rw [HE.out]; omega) (by omega) (by omega) (by omega)) ?_; rintro e V3 ⟨tt, bb, rfl, hr3, b3⟩))
                    have hex : RndZ 1 (supV ds z.cs z.rs z.gs z.rn) (2 ^ E) (s, ok) := SR.out.exact HNN.out HF.out HGL.out HE.out
                    have hst := RndZ.uniq (RndZ.of_ratio (D' := 2 ^ E) (V' := supV ds z.cs z.rs z.gs z.rn) hr3 (Nat.two_pow_pos E) (by rw [Nat.pow_add, Int.natCast_mul, Int.mul_comm ((2 ^ E : Nat) : Int) (supV ds z.cs z.rs z.gs z.rn), Int.mul_assoc])) hex
                    simp only [Prod.mk.injEq] at hst
                    obtain ⟨hst1, hst2⟩ := hst
                    subst hst1 hst2
                    have HEX : Hid (RndZ 1 (supV ds z.cs z.rs z.gs z.rn) (2 ^ E) (tt, bb)) := hex
                    have hsn : ((tt : Int) != (tt : Int)) = false := by simp
                    have hbn : (bb != bb) = false := by simp
                    have Q3 : Hid (Below X6.heap.size X6 V3) := to_call QX.out (to_call Q2.out.1 b3)
                    have Q3w : Hid (Below W2.heap.size W2 V3) := to_call HQ.out (to_call Q2.out.1 b3)
                    clear hex hr3 b3 Q2 SR HO HQ QX
                    cases bb with
                    | false =>
                      go_wp2_with (first
                        | (go_at_call 13; refine Calls.mono (apiBits_any tt _) ?_; rintro e w0 ⟨rfl, hw0⟩; rw [hw0]; clear hw0 w0)
                        | (go_at_call 9; refine Calls.mono (started_any _) ?_; rintro e w9 ⟨rfl, b9⟩))
                      go_ret
                      exact ⟨rfl, to_call (to_call Q6.out.1 Q3.out) b9⟩
                    | true =>
                      have hfin := rz_canon HEX.out
                      have HO9 : Hid (∀ W', _) := fun W' => ofC_any tt hfin.2.1 W' E HE.out
                      have HFT : Hid (Fin tt) := hfin.1
                      clear hfin
                      go_upto_region 40 with (first
                        | (go_at_call 13; refine Calls.mono (apiBits_any tt _) ?_; rintro e w0 ⟨rfl, hw0⟩; rw [hw0]; clear hw0 w0)
                        | (go_at_call 12; refine Calls.mono (HO9.out _) ?_; rintro e V4 ⟨v7, rfl, ⟨z7, hz7, hv7⟩, b7⟩; obtain ⟨n7, o7, t7, p7, x7, hf7⟩ := hz7.form; subst hf7; have N7 : Hid (NumC V4 (.agg #[.bool n7, .slice o7 t7 p7, .int .i64 x7]) E 1024 (fval tt)) := (hv7 HFT.out) ▸ hz7; clear hz7 hv7))
                      have A7 : Below V4.heap.size V4 (V4.alloc (.cells #[.bool n7, .slice o7 t7 p7, .int .i64 x7] 50)) := (Below.refl _ V4).alloc (Nat.le_refl _) _
                      have Q7 : Hid (Below V3.heap.size V3 (V4.alloc (.cells #[.bool n7, .slice o7 t7 p7, .int .i64 x7] 50)) ∧ (V4.alloc (.cells #[.bool n7, .slice o7 t7 p7, .int .i64 x7] 50)).heap[V4.heap.size]? = some (.cells #[.bool n7, .slice o7 t7 p7, .int .i64 x7] 50)) := ⟨to_call b7 A7, heap_alloc_new V4 _⟩
                      have N8 : Hid (NumC (V4.alloc (.cells #[.bool n7, .slice o7 t7 p7, .int .i64 x7] 50)) (.agg #[.bool n7, .slice o7 t7 p7, .int .i64 x7]) E 1024 (fval tt)) := NumC.later N7.out A7
                      obtain ⟨w7, hw7⟩ : ∃ w7, V4.alloc (.cells #[.bool n7, .slice o7 t7 p7, .int .i64 x7] 50) = w7 := ⟨_, rfl⟩
                      obtain ⟨B31, hB31⟩ : ∃ B31, V4.heap.size = B31 := ⟨_, rfl⟩
                      rw [hw7] at N8
                      rw [hw7, hB31] at Q7
                      rw [hw7, hB31]
                      clear hw7 hB31 A7 b7 N7 HO9
                      have HPR : Hid (∀ W', Below w7.heap.size w7 W' → Calls Tryz.prog 17 #[.slice (some ⟨gd0, 0, none⟩) z.rn qd, .slice (some ⟨gp, 0, none⟩) z.rn qp] W' fun e w' => ∃ v', e = .returned v' ∧ NumC w' v' (E + (E + E)) (1024 + 1060 + 256) (prodV (ds.map fval) (ptV (2 ^ E) z.cs z.rs z.gs es bs z.rn) z.rn) ∧ Below W'.heap.size W' w') := fun W' hb => by
                        refine Calls.mono (product_any _ _ (ds.map fval) _ _ _ E (E + E) 1024 1060 W' (RowN.toZ (DR.out W' (to_call Q3.out (to_call Q7.out.1 hb)))) (HPV.out.later (to_call QW2.out (to_call Q3w.out (to_call Q7.out.1 hb)))) (by rw [List.length_map, HDL.out, ptV_len]) (by rw [List.length_map, HDL.out]; exact hn2) (by rw [HE.out]; omega)) ?_
                        rintro e w' ⟨v', he, hz, hb'⟩
                        rw [List.length_map, HDL.out] at hz
                        exact ⟨v', he, hz.mono (by have := hn2; omega), hb'⟩
                      have HCT : Hid (∀ (W' : World) (v : Value), Below w7.heap.size w7 W' → NumC W' v (E + (E + E)) (1024 + 1060 + 256) (prodV (ds.map fval) (ptV (2 ^ E) z.cs z.rs z.gs es bs z.rn) z.rn) → Calls Tryz.prog 14 #[v, .agg #[.bool n7, .slice o7 t7 p7, .int .i64 x7]] W' fun e w' => ∃ s0 : Int, e = .returned (.int .i64 s0) ∧ s0 ≤ 0 ∧ Below W'.heap.size W' w') := fun W' v hb hv => by
                        refine Calls.mono (cmpZ_any _ _ (E + (E + E)) (1024 + 1060 + 256) _ _ W' hv.toZ (((NumC.later N8.out hb).moreJ (E + E)).mono (by omega)).toZ (by rw [HE.out]; omega) (by omega)) ?_
                        rintro e w' ⟨he, hb'⟩
                        refine ⟨_, he, sgi_leK ?_, hb'⟩
                        have hp := prod_le (ds := ds) (cs := z.cs) (n := z.rn) HAB.out.1 HAB.out.2 HF.out.pos (gs := z.gs)
                        have hu := Int.mul_le_mul_of_nonneg_left (up_leK (Nat.two_pow_pos E) HEX.out) (Int.natCast_nonneg (2 ^ E))
                        rw [Int.mul_left_comm, ← Int.natCast_mul, ← Nat.pow_add] at hu
                        omega
                      have bX : Below w7.heap.size w7 w7.drew := (Below.refl _ _).drew
                      refine wp_region_noPanic ?_
                      refine wp_region_held_drew (S := (fun V => Below w7.heap.size w7 V)) (by kernel_rfl) bX (fun _ => ?_)
                      refine takeH 221 (i := 0) (v := ?_) rfl rfl (by kernel_rfl) (by kernel_rfl) (by kernel_rfl) (fun _ _ _ h => h) (Or.inl ⟨by kernel_rfl, ?_⟩) bX ?_
                      rotate_left
                      · intro w' hSw; skip; go_simp; try with_reducible rfl
                      try simp only [Act.put, List.setIfInBounds_toArray, List.set_cons_zero, List.set_cons_succ]
                      refine takeH 222 (i := 1) (v := ?_) rfl rfl (by kernel_rfl) (by kernel_rfl) (by kernel_rfl) (fun _ _ _ h => h) (Or.inl ⟨by kernel_rfl, ?_⟩) bX ?_
                      rotate_left
                      · intro w' hSw; skip; go_simp; try with_reducible rfl
                      try simp only [Act.put, List.setIfInBounds_toArray, List.set_cons_zero, List.set_cons_succ]
                      refine takeH 224 (i := 3) (v := .agg #[.bool n7, .slice o7 t7 p7, .int .i64 x7]) rfl rfl (by kernel_rfl) (by kernel_rfl) (by kernel_rfl) (fun _ _ _ h => h) (Or.inl ⟨by kernel_rfl, fun w' hSw => ex_loadRN _ 50 _ rfl B31 (by kernel_rfl) w' _ (kept hSw Q7.out.2) _ Tryz.underlying50 rfl 3 Tryz.infoN3 rfl⟩) bX ?_
                      try simp only [Act.put, List.setIfInBounds_toArray, List.set_cons_zero, List.set_cons_succ]
                      refine wpAnyH_ready (rs := [2]) (by kernel_rfl) (by simp) ?_
                      refine consH _ rfl (hopCd 223 rfl (by kernel_rfl) rfl (by kernel_rfl) (Calls.mono (HPR.out _ bX) ?_)) AllReadyH.nil
                      rintro e V1 ⟨v1, rfl, hz1, b1⟩
                      obtain ⟨n8, o8, t8, p8, x8, hv1⟩ := hz1.form
                      subst hv1
                      have bX : Below w7.heap.size w7 V1 := to_call bX b1
                      clear b1
                      refine ⟨_, rfl, bX, ?_⟩
                      try simp only [Act.put, List.setIfInBounds_toArray, List.set_cons_zero, List.set_cons_succ]
                      refine wpAnyH_ready (rs := [4]) (by kernel_rfl) (by simp) ?_
                      refine consH _ rfl (hopCd 225 rfl (by kernel_rfl) rfl (by kernel_rfl) (Calls.mono (HCT.out _ _ bX hz1) ?_)) AllReadyH.nil
                      rintro e V2 ⟨s9, rfl, hs9, b2⟩
                      have g9 : decide (0 < s9) = false := decide_eq_false (by omega)
                      have bX : Below w7.heap.size w7 V2 := to_call bX b2
                      clear b2 hs9 hz1
                      refine ⟨_, rfl, bX, ?_⟩
                      try simp only [Act.put, List.setIfInBounds_toArray, List.set_cons_zero, List.set_cons_succ]
                      refine takeH 226 (i := 5) (v := ?_) rfl rfl (by kernel_rfl) (by kernel_rfl) (by kernel_rfl) (fun _ _ _ h => h) (Or.inl ⟨by kernel_rfl, ?_⟩) bX ?_
                      rotate_left
                      · intro w' hSw; skip; go_simp; try with_reducible rfl
                      try simp only [Act.put, List.setIfInBounds_toArray, List.set_cons_zero, List.set_cons_succ]
                      refine wpAnyH_done (by kernel_rfl) ?_ _
                      refine NoPanic.normal ?_
                      try simp only [Act.put, List.setIfInBounds_toArray, List.set_cons_zero, List.set_cons_succ]
                      have HQ9 : Hid (Below V3.heap.size V3 V2) := to_call Q7.out.1 bX
                      clear bX g9 HPR HCT Q7 N8
                      go_wp2_with (go_at_call 9; refine Calls.mono (started_any _) ?_; rintro e w9 ⟨rfl, b9⟩)
                      go_ret
                      exact ⟨rfl, to_call (to_call (to_call Q6.out.1 Q3.out) HQ9.out) b9⟩
end Go.Proofs.YtfepcpkfbnpbjaaGreat
