import Derived.Test.YtoehhnildocihaaSCb1
import Ieee.Arith
import Derived.Test.YtoehhnildocihaaChecked
import Derived.WalkKit
import Derived.WalkSmall
import Derived.WalkLawsBesides
import Derived.Lib.EndianBits
import Derived.Laws.Bits128
import Derived.Laws.BitsAll
import Derived.BigQuiet
import Derived.RangeFuncNested
import Derived.RangeFuncBound
import Derived.RangeFuncCalls
import Derived.RangeFuncLeaves
import Derived.RangeFuncFrom
import Derived.RangeFuncWrites
import Derived.Shelf.Abstract
import Derived.Shelf.RegionOpen
import Derived.OwnWalkIn
import Derived.TacticsInMore
import Derived.LoopNIn
import Derived.LoopIn
import Derived.Deep.WholeRow
import Derived.Deep.MidRow
import Derived.Laws.CopyOwn
import Derived.Deep.RegionHeld3
import Derived.Laws.OwnMore
import Derived.OneCell
import Derived.Deep.RegionWith
import Derived.Deep.DeepCutAuto
import Derived.Deep.QuietTactic
import Derived.Laws.Externs
import Derived.Deep.DeepMust
import Derived.BigRegion
import Derived.ArgAppend
import Derived.OwnWalk
import Derived.Orders
import Derived.RegionTactic
import Derived.Below
import Derived.Deep.CutRange
import Derived.Laws.AppendOwnNone
import Derived.Test.YtoehhnildocihaaRows
import Derived.Deep.Slices
import Derived.OpenShut
import Derived.Lib.SmallJoins
import Derived.ChangeSame
namespace Go.Proofs.Ytoehhnildocihaa
open Go.RowKit
set_option linter.unusedVariables false
theorem wrap_shl (a n : Nat) : IntKind.u64.wrap ((a : Int) * 2 ^ n) = ((a * 2 ^ n % 18446744073709551616 : Nat) : Int) := by
  rw [IntKind.wrap_u64]; simp
theorem div_cast (a n : Nat) : (a : Int) / 2 ^ n = ((a / 2 ^ n : Nat) : Int) := by simp
/-- One word more of a sum. -/
theorem put_step {f f1 g h : Nat → Nat} {i c c' c0 v x y : Nat} (hi : wv h i + c * 2 ^ (64 * i) = wv f i + wv g i + c0) (hfx : f i = x) (hgy : g i = y) (hv : v + 18446744073709551616 * c' = x + y + c) (hf1 : upd h i v = f1) :
    wv f1 (i + 1) + c' * 2 ^ (64 * (i + 1)) = wv f (i + 1) + wv g (i + 1) + c0 := by
  subst hf1 hfx hgy
  exact add_step hi hv
set_option maxRecDepth 100000 in
set_option maxHeartbeats 1000000 in
theorem put_any (B : Nat) (f : Nat → Nat) (z : Int) (high low k n : Nat) (power : Int) (neg : Bool) (hk : k + 3 ≤ 76) (hn : n < 64) (hp : power + 2240 = 64 * k + n) (hl : low < 18446744073709551616) (hh : high < 18446744073709551616) (w : World) (hf : Wds w B f) (hz : Tc f z)
    (h1 : -((2 ^ 4863 : Nat) : Int) ≤ z + sv neg ((high * 18446744073709551616 + low) * 2 ^ (64 * k + n))) (h2 : z + sv neg ((high * 18446744073709551616 + low) * 2 ^ (64 * k + n)) < ((2 ^ 4863 : Nat) : Int)) :
    Calls Try.prog 70 #[.pointer (some ⟨B, 0, none⟩), .int .u64 (high : Int), .int .u64 (low : Int), .int .i64 power, .bool neg] w fun e w' => e = .returned (.tuple #[]) ∧ ∃ h, Wds w' B h ∧ Mut B w w' ∧ Tc h (z + sv neg ((high * 18446744073709551616 + low) * 2 ^ (64 * k + n))) := by
  have HF : Hid _ := hf
  have HZ : Hid _ := hz
  have HB : Hid _ := And.intro h1 h2
  clear hf hz h1 h2
  obtain ⟨place, hpl⟩ : ∃ place : Nat, place = 64 * k + n := ⟨_, rfl⟩
  have e0 : power - -2240 = (place : Int) := by omega
  have e1 : (place : Int) / 64 = (k : Int) := by omega
  have e2 : (place : Int) % 64 = (n : Int) := by omega
  have hpb : place < 5000 := by omega
  clear hp hpl
  go_enter Try.func70, Try.ntmps70
  go_wp2_with fail
  simp only [e2]
  refine (turning_any neg _).mono ?_
  rintro e w1 ⟨F, c0, rfl, htr, rfl⟩
  have HT : Hid (Trn neg F c0) := htr
  have hc0 : c0 ≤ 1 := by rcases htr with ⟨_, _, rfl⟩ | ⟨_, _, rfl⟩ <;> omega
  clear htr
  have g0 := HF.out.cells k (by omega)
  have g1 := HF.out.frozen k (by omega)
  obtain ⟨x, hxx⟩ : ∃ x, f k = x := ⟨_, rfl⟩
  rw [hxx] at g0
  have i1 : (k : Int) < 76 := by omega
  obtain ⟨p0, hp0⟩ : ∃ p0, pw0 low n = p0 := ⟨_, rfl⟩
  have s0 := wrap_shl low n
  have hp0l : p0 < 18446744073709551616 := by rw [← hp0]; exact Nat.mod_lt _ (by omega)
  rw [show low * 2 ^ n % 18446744073709551616 = p0 from hp0] at s0
  have x0 := HT.out.xor hp0l
  have y0l := flp_lt (neg := neg) hp0l
  obtain ⟨y0, hy0⟩ : ∃ y0, flp neg p0 = y0 := ⟨_, rfl⟩
  rw [hy0] at x0 y0l
  have a0 := call_add64 x y0 c0 hc0
  have HE0 : Hid _ := And.intro hxx (And.intro hp0 hy0)
  have hxl : x < 18446744073709551616 := by rw [← hxx]; exact HF.out.lt k (by omega)
  clear hxx hp0 hy0
  generalize hs : (x + y0 + c0) % 18446744073709551616 = r0 at a0
  generalize hq : (x + y0 + c0) / 18446744073709551616 = c1 at a0
  have HS0 : Hid (r0 < 18446744073709551616 ∧ r0 + 18446744073709551616 * c1 = x + y0 + c0) := by unfold Hid; omega
  have hc1 : c1 ≤ 1 := by omega
  clear hs hq
  have W1 : Hid _ := (HF.out.set k r0 HS0.out.1 (by omega)).drew
  have M1 : Hid _ := ((Mut.refl B w1).set k (by omega) (.int .u64 (r0 : Int))).drew
  go_wp2_with fail
  go_region
  go_wp2_with fail
  generalize (w1.setCell ⟨B, k, none⟩ (.int .u64 (r0 : Int))).drew = w2 at W1 M1 ⊢
  obtain ⟨f1, hf1⟩ : ∃ f1, upd f k r0 = f1 := ⟨_, rfl⟩
  rw [hf1] at W1
  have HF1 : Hid _ := hf1
  clear hf1 g0 g1 a0 s0 x0 hxl
  have g0 := W1.out.cells (k + 1) (by omega)
  have g1 := W1.out.frozen (k + 1) (by omega)
  obtain ⟨x1, hxx⟩ : ∃ x1, f1 (k + 1) = x1 := ⟨_, rfl⟩
  rw [hxx] at g0
  have i2 : (k : Int) + 1 < 76 := by omega
  have i2w : IntKind.u64.wrap ((k : Int) + 1) = (k : Int) + 1 := by rw [IntKind.wrap_u64]; omega
  have s0 := wrap_shl high n
  have s1 := div_cast low (64 - n)
  obtain ⟨b1, b2⟩ := (shift3 (high := high) (low := low) hn hl hh).2
  generalize hu : high * 2 ^ n % 18446744073709551616 = u1 at s0
  generalize hd : low / 2 ^ (64 - n) = d1 at s1
  have hul : u1 < 18446744073709551616 := by rw [← hu]; exact Nat.mod_lt _ (by omega)
  have hdl : d1 < 18446744073709551616 := by rw [← hd]; exact Nat.lt_of_le_of_lt (Nat.div_le_self _ _) hl
  have s2 := u64_or_nat u1 d1 hul hdl
  obtain ⟨p1, hp1⟩ : ∃ p1, u1 ||| d1 = p1 := ⟨_, rfl⟩
  rw [hp1] at s2
  have HP1 : Hid (pw1 high low n = p1) := by unfold Hid pw1; rw [hu, hd, hp1]
  have hp1l : p1 < 18446744073709551616 := by rw [← HP1.out]; exact b1
  clear hu hd hp1 hul hdl
  have x0 := HT.out.xor hp1l
  have y1l := flp_lt (neg := neg) hp1l
  obtain ⟨y1, hy1⟩ : ∃ y1, flp neg p1 = y1 := ⟨_, rfl⟩
  rw [hy1] at x0 y1l
  have a0 := call_add64 x1 y1 c1 hc1
  have HE1 : Hid _ := And.intro hxx hy1
  have hxl : x1 < 18446744073709551616 := by rw [← hxx]; exact W1.out.lt (k + 1) (by omega)
  clear hxx hy1
  generalize hs : (x1 + y1 + c1) % 18446744073709551616 = r1 at a0
  generalize hq : (x1 + y1 + c1) / 18446744073709551616 = c2 at a0
  have HS1 : Hid (r1 < 18446744073709551616 ∧ r1 + 18446744073709551616 * c2 = x1 + y1 + c1) := by unfold Hid; omega
  have hc2 : c2 ≤ 1 := by omega
  clear hs hq
  have W2 : Hid _ := (W1.out.set (k + 1) r1 HS1.out.1 (by omega)).drew
  have M2 : Hid _ := (M1.out.set (k + 1) (by omega) (.int .u64 (r1 : Int))).drew
  go_wp2_with fail
  go_region
  go_wp2_with fail
  generalize (w2.setCell ⟨B, k + 1, none⟩ (.int .u64 (r1 : Int))).drew = w3 at W2 M2 ⊢
  obtain ⟨f2, hf2⟩ : ∃ f2, upd f1 (k + 1) r1 = f2 := ⟨_, rfl⟩
  rw [hf2] at W2
  have HF2 : Hid _ := hf2
  clear hf2 g0 g1 a0 s0 s1 s2 x0 hxl W1 M1
  have g0 := W2.out.cells (k + 2) (by omega)
  have g1 := W2.out.frozen (k + 2) (by omega)
  obtain ⟨x2, hxx⟩ : ∃ x2, f2 (k + 2) = x2 := ⟨_, rfl⟩
  rw [hxx] at g0
  have i3 : (k : Int) + 2 < 76 := by omega
  have i3w : IntKind.u64.wrap ((k : Int) + 2) = (k : Int) + 2 := by rw [IntKind.wrap_u64]; omega
  have s1 := div_cast high (64 - n)
  generalize hd : high / 2 ^ (64 - n) = p2 at s1
  have HP2 : Hid (pw2 high n = p2) := hd
  have hp2l : p2 < 18446744073709551616 := by rw [← HP2.out]; exact b2
  clear hd b1 b2
  have x0 := HT.out.xor hp2l
  have y2l := flp_lt (neg := neg) hp2l
  obtain ⟨y2, hy2⟩ : ∃ y2, flp neg p2 = y2 := ⟨_, rfl⟩
  rw [hy2] at x0 y2l
  have a0 := call_add64 x2 y2 c2 hc2
  have HE2 : Hid _ := And.intro hxx hy2
  have hxl : x2 < 18446744073709551616 := by rw [← hxx]; exact W2.out.lt (k + 2) (by omega)
  clear hxx hy2
  generalize hs : (x2 + y2 + c2) % 18446744073709551616 = r2 at a0
  generalize hq : (x2 + y2 + c2) / 18446744073709551616 = c3 at a0
  have HS2 : Hid (r2 < 18446744073709551616 ∧ r2 + 18446744073709551616 * c3 = x2 + y2 + c2) := by unfold Hid; omega
  have hc3 : c3 ≤ 1 := by omega
  clear hs hq
  have W3 : Hid _ := (W2.out.set (k + 2) r2 HS2.out.1 (by omega)).drew
  have M3 : Hid _ := (M2.out.set (k + 2) (by omega) (.int .u64 (r2 : Int))).drew
  go_wp2_with fail
  go_region
  generalize (w3.setCell ⟨B, k + 2, none⟩ (.int .u64 (r2 : Int))).drew = w4 at W3 M3 ⊢
  obtain ⟨f3, hf3⟩ : ∃ f3, upd f2 (k + 2) r2 = f3 := ⟨_, rfl⟩
  rw [hf3] at W3
  have HF3 : Hid _ := hf3
  clear hf3 g0 g1 a0 s1 x0 hxl W2 M2
  obtain ⟨g, hg⟩ : ∃ g, ptw k y0 y1 y2 F = g := ⟨_, rfl⟩
  have HG : Hid _ := hg
  obtain ⟨gk, gk1, gk2, gk3⟩ := ptw_at k y0 y1 y2 F
  rw [hg] at gk gk1 gk2 gk3
  have hlow : wv g k = 0 := by rw [← hg]; exact ptw_low ..
  have st0 : wv f k + c0 * 2 ^ (64 * k) = wv f k + wv g k + c0 * 2 ^ (64 * k) := by rw [hlow]; omega
  have st1 := put_step st0 HE0.out.1 gk HS0.out.2 HF1.out
  have st2 := put_step st1 (show f (k + 1) = x1 by rw [← HE1.out.1, ← HF1.out, upd_other (by omega)]) gk1 HS1.out.2 HF2.out
  have st3 := put_step st2 (show f (k + 2) = x2 by rw [← HE2.out.1, ← HF2.out, upd_other (by omega), ← HF1.out, upd_other (by omega)]) gk2 HS2.out.2 HF3.out
  have HST : Hid _ := st3
  have HG3 : Hid _ := gk3
  have HU : Hid (∀ j, k + 3 ≤ j → f3 j = f j) := fun j hj => by rw [← HF3.out, upd_other (by omega), ← HF2.out, upd_other (by omega), ← HF1.out, upd_other (by omega)]
  have HY : Hid (g = ptw k (flp neg (pw0 low n)) (flp neg (pw1 high low n)) (flp neg (pw2 high n)) F) := by unfold Hid; rw [HE0.out.2.1, HP1.out, HP2.out, HE0.out.2.2, HE1.out.2, HE2.out.2, hg]
  clear st0 st1 st2 st3 gk gk1 gk2 gk3 hlow hg
  go_wp2_with fail
  obtain ⟨t, ht⟩ : ∃ t, t = F % 2 := ⟨_, rfl⟩
  have hFl : F < 18446744073709551616 := by rcases HT.out with ⟨_, h, _⟩ | ⟨_, h, _⟩ <;> omega
  have ha : bits .and .u64 (F : Int) 1 = (t : Int) := by
    have := u64_and_nat F 1 hFl (by omega)
    rw [Nat.and_one_is_mod, ← ht] at this
    exact this
  have HT2 : Hid (∀ c, c ≤ 1 → c = t → (F = 0 ∧ c = 0) ∨ (F = 18446744073709551615 ∧ c = 1)) := by
    intro c h1 h2
    rcases HT.out with ⟨_, h, _⟩ | ⟨_, h, _⟩
    · left; subst h; omega
    · right; subst h; omega
  clear ht
  have HFIN : Hid (∀ h c, (∀ j, j < 76 → h j < 18446744073709551616) → wv h 76 + c * 2 ^ (64 * 76) = wv f 76 + wv g 76 + c0 * 2 ^ (64 * k) → Tc h (z + sv neg ((high * 18446744073709551616 + low) * 2 ^ (64 * k + n)))) := by
    intro h c hlt hs
    rw [HY.out] at hs
    exact put_tc HZ.out hk hn hl hh HT.out hlt hs HB.out.1 HB.out.2
  clear e0 e1 e2 hpb i1 i2 i2w i3 i3w hl hh y0l y1l y2l hp0l hp1l hp2l
  go_loopw [14, 15] (fun cv iv wr => ∃ (i c : Nat) (h : Nat → Nat), k + 3 ≤ i ∧ i ≤ 76 ∧ iv = .int .u64 i ∧ cv = .int .u64 c ∧ c ≤ 1 ∧ Hid (Wds wr B h) ∧ Hid (∀ j, i ≤ j → j < 76 → h j = f j) ∧ Hid (Mut B w1 wr) ∧ Hid (wv h i + c * 2 ^ (64 * i) = wv f i + wv g i + c0 * 2 ^ (64 * k))) (fun _ iv _ => 76 - (intOf iv).toNat)
  case atStart => exact ⟨k + 3, c3, f3, by omega, by omega, by go_num, rfl, hc3, W3, fun j h1 h2 => HU.out j h1, M3, HST⟩
  case round =>
    obtain ⟨i, c, h, hi0, hi1, rfl, rfl, hc, H1, H2, H3, H4⟩ := hrel
    by_cases hlt : i < 76
    · by_cases hct : c = t
      · have hd : decide ((i : Int) ≤ 75) = true := decide_eq_true (by omega)
        have HX : Hid (wv h 76 + c * 2 ^ (64 * 76) = wv f 76 + wv g 76 + c0 * 2 ^ (64 * k)) := add_rest' 76 H4.out (HT2.out c hc hct) hi1 (fun j h1 _ => HG3.out j (by omega)) (fun j h1 h2 => H2.out j h1 h2)
        have hne : ((c : Int) != (t : Int)) = false := by rw [hct]; simp
        clear hct
        go_wp2_with fail
        go_end0
        exact ⟨rfl, h, H1.out, H3.out, HFIN.out h c H1.out.lt HX.out⟩
      · have hd : decide ((i : Int) ≤ 75) = true := decide_eq_true (by omega)
        have hne : ((c : Int) != (t : Int)) = true := by simp; omega
        have g0 := H1.out.cells i hlt
        have g1 := H1.out.frozen i hlt
        obtain ⟨x, hxx⟩ : ∃ x, h i = x := ⟨_, rfl⟩
        rw [hxx] at g0
        have a0 := call_add64 x F c hc
        have hxl : x < 18446744073709551616 := by rw [← hxx]; exact H1.out.lt i hlt
        generalize hs : (x + F + c) % 18446744073709551616 = r at a0
        generalize hq : (x + F + c) / 18446744073709551616 = c' at a0
        have HS : Hid (r < 18446744073709551616 ∧ r + 18446744073709551616 * c' = x + F + c) := by unfold Hid; omega
        have hc' : c' ≤ 1 := by omega
        have H1' : Hid _ := (H1.out.set i r HS.out.1 hlt).drew
        have H3' : Hid _ := (H3.out.set i hlt (.int .u64 (r : Int))).drew
        have H2' : Hid (∀ j, i + 1 ≤ j → j < 76 → upd h i r j = f j) := fun j h1 h2 => by rw [upd_other (by omega)]; exact H2.out j (by omega) h2
        have H4' : Hid (wv (upd h i r) (i + 1) + c' * 2 ^ (64 * (i + 1)) = wv f (i + 1) + wv g (i + 1) + c0 * 2 ^ (64 * k)) := put_step H4.out (show f i = x by rw [← hxx]; exact (H2.out i (Nat.le_refl _) hlt).symm) (HG3.out i (by omega)) HS.out.2 rfl
        clear hs hq hxx hct
        go_wp2_with fail
        go_region
        go_wp2_with fail
        go_roundw
        case rel => exact ⟨i + 1, c', upd h i r, by omega, by omega, by go_num, rfl, hc', H1', H2', H3', H4'⟩
        case measure => simp [intOf]; omega
    · have hk76 : i = 76 := by omega
      subst hk76
      go_wp2_with fail
      go_end0
      exact ⟨rfl, h, H1.out, H3.out, HFIN.out h c H1.out.lt H4.out⟩
end Go.Proofs.Ytoehhnildocihaa

namespace Go.Proofs.Ytoehhnildocihaa
open Go.RowKit
set_option linter.unusedVariables false
/-- The words as a value. -/
def wda (f : Nat → Nat) : List Value := (List.range 76).map (fun j => .int .u64 (f j : Nat))
theorem wda_len (f : Nat → Nat) : (wda f).length = 76 := by unfold wda; simp
theorem wda_at {f : Nat → Nat} {j : Nat} {v : Value} (h : (wda f)[j]? = some v) : j < 76 ∧ v = .int .u64 (f j : Nat) := by
  unfold wda at h
  rw [List.getElem?_map, Option.map_eq_some_iff] at h
  obtain ⟨a, h1, h2⟩ := h
  rw [List.getElem?_eq_some_iff] at h1
  obtain ⟨h1, h3⟩ := h1
  rw [List.getElem_range] at h3
  subst h3
  exact ⟨by simpa using h1, h2.symm⟩
theorem wda_get (f : Nat → Nat) {j : Nat} (h : j < 76) : (wda f)[j]? = some (.int .u64 (f j : Nat)) := by
  unfold wda; simp [h]
theorem wda_one (f : Nat → Nat) : ∀ v ∈ wda f, v.oneCell' = true := by
  intro v hv
  unfold wda at hv
  obtain ⟨j, _, rfl⟩ := List.mem_map.1 hv
  rfl
theorem Wds.range {w : World} {B : Nat} {f : Nat → Nat} (h : Wds w B f) : w.rangeAt B 0 (wda f) := fun j v hv => by
  obtain ⟨h1, rfl⟩ := wda_at hv
  rw [Nat.zero_add]; exact h.cells j h1
theorem Wds.there {w : World} {B : Nat} {f : Nat → Nat} (h : Wds w B f) : w.there B 0 76 := fun j hj => by
  rw [Nat.zero_add, h.cells j hj]; exact ⟨rfl, h.frozen j hj⟩
theorem Wds.of_range {w : World} {B : Nat} {f : Nat → Nat} (h : w.rangeAt B 0 (wda f)) (hfr : ∀ j, j < 76 → w.frozen? ⟨B, j, none⟩ = false) (hlt : ∀ j, j < 76 → f j < 18446744073709551616) : Wds w B f :=
  ⟨fun j hj => by have := h j _ (wda_get f hj); rwa [Nat.zero_add] at this, hfr, hlt⟩
theorem zero_wda : Try.zeroCells106 = (wda (fun _ => 0)).toArray := by rfl
theorem Wds.new (w : World) : Wds (w.alloc (.cells Try.zeroCells106 106)) w.heap.size (fun _ => 0) := by
  refine ⟨fun j hj => ?_, fun j hj => World.frozen?_alloc_new _ _ _ _, fun j hj => by omega⟩
  rw [cell_of_row _ _ _ _ _ _ (heap_alloc_new w _), zero_wda, List.getElem?_toArray]
  exact wda_get _ hj
theorem Wds.below {w w' : World} {B N : Nat} {f : Nat → Nat} (h : Wds w B f) (hb : Below N w w') (hB : B < N) : Wds w' B f :=
  ⟨fun j hj => by rw [hb.cell (p := ⟨B, j, none⟩) hB]; exact h.cells j hj, fun j hj => by rw [hb.frozen (p := ⟨B, j, none⟩) hB]; exact h.frozen j hj, h.lt⟩
theorem Wds.block {w : World} {B : Nat} {f : Nat → Nat} (h : Wds w B f) : B < w.heap.size := World.block_lt_of_cell? w _ (h.cells 0 (by omega))
theorem Wds.alloc {w : World} {B : Nat} {f : Nat → Nat} (h : Wds w B f) (o : Obj) : Wds (w.alloc o) B f := h.below ((Below.refl _ w).alloc (Nat.le_refl _) o) h.block
theorem heap_setCells_other (b : Nat) : ∀ (vs : List Value) (o : Nat) (w : World) (k : Nat), k ≠ b → (w.setCells b o vs).heap[k]? = w.heap[k]?
  | [], _, _, _, _ => rfl
  | v :: r, o, w, k, h => by rw [World.setCells, heap_setCells_other b r (o + 1) _ k h, heap_setCell_other _ _ _ _ h]
theorem Below.setCells {N : Nat} {a : World} {b : Nat} (hb : N ≤ b) : ∀ (vs : List Value) (o : Nat) (w : World), Below N a w → Below N a (w.setCells b o vs)
  | [], _, _, h => h
  | v :: r, o, w, h => by rw [World.setCells]; exact Below.setCells hb r (o + 1) _ (h.setCell (p := ⟨b, o, none⟩) hb v)
theorem Wds.stored {w : World} {B : Nat} {f g : Nat → Nat} (h : Wds w B f) (hg : ∀ j, j < 76 → g j < 18446744073709551616) : Wds (w.setCells B 0 (wda g)) B g :=
  Wds.of_range (World.rangeAt_setCells_same _ _ _ _ (by rw [wda_len]; exact h.there)) (fun j hj => by rw [World.frozen?_setCells]; exact h.frozen j hj) hg
theorem size_words : (Try.prog.info? 106).map (·.size) = some 76 := by kernel_rfl
theorem size_wda (f : Nat → Nat) : (Try.prog.info? 106).map (·.size) = some (wda f).length := by rw [wda_len]; exact size_words
theorem store_words {w : World} {B : Nat} {f : Nat → Nat} (h : Wds w B f) (g : Nat → Nat) : (storeCells ⟨B, 0, none⟩ (wda g)).run Try.prog w = .ok () (w.setCells B 0 (wda g)) := by
  have := run_storeCells_cells (P := Try.prog) B 0 (wda g) 0 w (fun j hj => by have := h.there j (by rw [wda_len] at hj; exact hj); simpa using this.1) (fun j hj => by have := h.there j (by rw [wda_len] at hj; exact hj); simpa using this.2) (wda_one g)
  simpa using this
/-- Join, by what the words stand for. -/
theorem join_tc (B C : Nat) (f g : Nat → Nat) (x y : Int) (neg : Bool) (w : World) (hf : Wds w B f) (hg : Wds w C g) (tf : Tc f x) (tg : Tc g y) (r : Int) (hr : r = x + (if neg then -y else y)) (h1 : -((2 ^ 4863 : Nat) : Int) ≤ r) (h2 : r < ((2 ^ 4863 : Nat) : Int)) :
    Calls Try.prog 85 #[.pointer (some ⟨B, 0, none⟩), .pointer (some ⟨C, 0, none⟩), .bool neg] w fun e w' => e = .returned (.tuple #[]) ∧ ∃ h, Wds w' B h ∧ Mut B w w' ∧ Tc h r := by
  refine (join_any B C f g neg w hf hg).mono ?_
  rintro e w' ⟨rfl, h, c, k1, k2, k3⟩
  refine ⟨rfl, h, k1, k2, ?_⟩
  rw [show 64 * 76 = 4864 by omega] at k3
  refine Tc.sum (y := if neg then -y else y) tf ?_ k1.lt k3 hr h1 h2
  have e := tg.eq
  cases neg
  · simp only [flp, Bool.false_eq_true, if_false, Bool.toNat_false]
    have : (fun j => g j) = g := rfl
    rw [this]
    omega
  · simp only [flp, if_true, Bool.toNat_true]
    have hfl := wv_flip hg.lt
    rw [show 64 * 76 = 4864 by omega] at hfl
    have hlo := tg.lo
    have hhi := tg.hi
    have hl := wv_lt hg.lt
    rw [show 64 * 76 = 4864 by omega] at hl
    generalize wv (fun j => 18446744073709551615 - g j) 76 = G' at *
    generalize wv g 76 = G at *
    rw [pow_half] at *
    generalize 2 ^ 4863 = L at *
    omega
theorem load_words {w : World} {B : Nat} {f : Nat → Nat} (h : Wds w B f) : (loadVar 106 ⟨B, 0, none⟩).run Try.prog w = .ok (.agg (wda f).toArray) w := run_loadVar_mid w B 0 _ _ _ h.range Try.underlying106 rfl (size_wda f)
theorem res_words (f : Func) (i : Nat) (hf : f.results = #[ResultVar.cell i 106]) (tmps : Array Value) (W : World) (B : Nat) (g : Nat → Nat) (hp : tmps[i]? = some (.pointer (some ⟨B, 0, none⟩))) (h : Wds W B g) :
    (results f tmps).run Try.prog W = .ok (.agg (wda g).toArray) W := by
  have hl := load_words h
  simp [results, hf, hp, hl, asAddr]
set_option maxRecDepth 100000 in
set_option maxHeartbeats 1000000 in
theorem turnedW_any (B : Nat) (f : Nat → Nat) (z : Int) (w : World) (hf : Wds w B f) (hz : Tc f z) (hlo : -((2 ^ 4863 : Nat) : Int) < z) :
    Calls Try.prog 73 #[.pointer (some ⟨B, 0, none⟩)] w fun e w' => ∃ h, e = .returned (.agg (wda h).toArray) ∧ Tc h (-z) ∧ Below w.heap.size w w' := by
  have HF : Hid _ := hf
  have HZ : Hid _ := hz
  have tz : Tc (fun _ => 0) 0 := ⟨fun _ _ => by omega, by omega, by have := Nat.two_pow_pos 4863; omega, .inl (by rw [wv_const_zero]; rfl)⟩
  have HT : Hid _ := tz
  have HB : Hid (-((2 ^ 4863 : Nat) : Int) ≤ -z ∧ -z < ((2 ^ 4863 : Nat) : Int)) := by unfold Hid; have := hz.hi; omega
  clear hf hz tz hlo
  go_enter Try.func73, Try.ntmps73
  go_wp2_with fail
  have HW0 : Hid _ := (HF.out.alloc (.cells Try.zeroCells106 106)).alloc (.cells Try.zeroCells106 106)
  have HR : Hid _ := (Wds.new w).alloc (.cells Try.zeroCells106 106)
  have HV := Wds.new (w.alloc (.cells Try.zeroCells106 106))
  rw [show (w.alloc (.cells Try.zeroCells106 106)).heap.size = w.heap.size + 1 by simp] at HV
  refine (join_tc (w.heap.size + 1) B _ f 0 z true _ HV HW0.out HT.out HZ.out (-z) (by simp) HB.out.1 HB.out.2).mono ?_
  rintro e w1 ⟨rfl, h, k1, k2, k3⟩
  have K1 : Hid _ := k1
  have HR1 : Hid (Wds w1 w.heap.size (fun _ => 0)) := HR.out.below k2.below (by omega)
  have HBL : Hid (Below w.heap.size w w1) := (((Below.refl _ w).alloc (Nat.le_refl _) _).alloc (by simp) _).trans (k2.below.mono (by omega))
  have K3 : Hid _ := k3
  clear k1 k2 k3 HV HR HW0
  have hst := store_words HR1.out h
  have W2 : Hid _ := HR1.out.stored (g := h) K1.out.lt
  have B2 : Hid _ := Below.setCells (Nat.le_refl _) (wda h) 0 _ HBL.out
  go_wp2_with (first | (refine wpList_load_mid (by rfl) _ _ (by rfl) (w.heap.size + 1) 0 (by rfl) (wda h) _ K1.out.range Try.underlying106 rfl (size_wda h) ?_))
  refine bodyPost_ret (v := .agg (wda h).toArray) (res_words _ 2 (by kernel_rfl) _ _ w.heap.size h (by rfl) W2.out) rfl ⟨h, rfl, K3.out, B2.out⟩
end Go.Proofs.Ytoehhnildocihaa

namespace Go.Proofs.Ytoehhnildocihaa
open Go.RowKit
set_option linter.unusedVariables false
def holdZ (z : Int) : Option Int := if -((2 ^ 4800 : Nat) : Int) < z ∧ z < ((2 ^ 4800 : Nat) : Int) then some z else none
/-- An Acc in block B: its real (times 2^2240), or bad. -/
structure AccO (w : World) (B : Nat) (o : Option Int) : Prop where
  ex : ∃ f, Wds w B f ∧ ∀ z, o = some z → Tc f z ∧ -((2 ^ 4800 : Nat) : Int) < z ∧ z < ((2 ^ 4800 : Nat) : Int)
  cell : w.cell? ⟨B, 76, none⟩ = some (.bool o.isNone)
  froz : w.frozen? ⟨B, 76, none⟩ = false
  top : ∀ j, 77 ≤ j → w.cell? ⟨B, j, none⟩ = none
/-- Of old memory only block B has changed. -/
structure Chg (B : Nat) (w w' : World) : Prop where
  below : Below B w w'
  other : ∀ b, b < w.heap.size → b ≠ B → w'.heap[b]? = w.heap[b]?
theorem Mut.chg {B : Nat} {w w' : World} (h : Mut B w w') : Chg B w w' := ⟨h.below, h.other⟩
theorem Chg.refl (B : Nat) (w : World) : Chg B w w := ⟨Below.refl _ _, fun _ _ _ => rfl⟩
theorem Chg.trans {B : Nat} {a b c : World} (h : Chg B a b) (k : Chg B b c) : Chg B a c :=
  ⟨h.below.trans k.below, fun i hi hne => (k.other i (Nat.lt_of_lt_of_le hi h.below.size) hne).trans (h.other i hi hne)⟩
theorem Chg.of_below {B : Nat} {a b : World} (h : Below a.heap.size a b) (hB : B ≤ a.heap.size) : Chg B a b := ⟨h.mono hB, fun i hi _ => h.block i hi⟩
theorem Chg.drew {B : Nat} {a b : World} (h : Chg B a b) : Chg B a b.drew := ⟨h.below.drew, h.other⟩
theorem cell_of_heap {w w' : World} {B : Nat} (h : w'.heap[B]? = w.heap[B]?) (j : Nat) : w'.cell? ⟨B, j, none⟩ = w.cell? ⟨B, j, none⟩ ∧ w'.frozen? ⟨B, j, none⟩ = w.frozen? ⟨B, j, none⟩ := by
  constructor
  · unfold World.cell?; simp only [h]
  · unfold World.frozen?; simp only [h]
theorem Wds.heap {w w' : World} {B : Nat} {f : Nat → Nat} (hw : Wds w B f) (h : w'.heap[B]? = w.heap[B]?) : Wds w' B f :=
  ⟨fun j hj => (cell_of_heap h j).1.trans (hw.cells j hj), fun j hj => (cell_of_heap h j).2.trans (hw.frozen j hj), hw.lt⟩
theorem AccO.heap {w w' : World} {B : Nat} {o : Option Int} (ha : AccO w B o) (h : w'.heap[B]? = w.heap[B]?) : AccO w' B o := by
  obtain ⟨f, h1, h2⟩ := ha.ex
  exact ⟨⟨f, h1.heap h, h2⟩, (cell_of_heap h 76).1.trans ha.cell, (cell_of_heap h 76).2.trans ha.froz, fun j hj => (cell_of_heap h j).1.trans (ha.top j hj)⟩
theorem AccO.block {w : World} {B : Nat} {o : Option Int} (h : AccO w B o) : B < w.heap.size := World.block_lt_of_cell? w _ h.cell
theorem AccO.below {w w' : World} {B N : Nat} {o : Option Int} (ha : AccO w B o) (hb : Below N w w') (hB : B < N) : AccO w' B o := ha.heap (hb.block B hB)
theorem AccO.chg {w w' : World} {B C : Nat} {o : Option Int} (ha : AccO w C o) (hb : Chg B w w') (hB : C ≠ B) : AccO w' C o := ha.heap (hb.other C ha.block hB)
theorem AccO.drew {w : World} {B : Nat} {o : Option Int} (ha : AccO w B o) : AccO w.drew B o := ha.heap rfl
/-- The 77 cells of a bad Acc, of a new one. -/
theorem Chg.setCells {B : Nat} {a b : World} (h : Chg B a b) (vs : List Value) (o : Nat) : Chg B a (b.setCells B o vs) :=
  ⟨Below.setCells (Nat.le_refl _) vs o _ h.below, fun i hi hne => (heap_setCells_other B vs o b i hne).trans (h.other i hi hne)⟩
def acv (f : Nat → Nat) (b : Bool) : List Value := wda f ++ [.bool b]
theorem acv_len (f : Nat → Nat) (b : Bool) : (acv f b).length = 77 := by unfold acv; simp [wda_len]
theorem acv_one (f : Nat → Nat) (b : Bool) : ∀ v ∈ acv f b, v.oneCell' = true := by
  intro v hv
  unfold acv at hv
  rcases List.mem_append.1 hv with h | h
  · exact wda_one f v h
  · simp at h; subst h; rfl
theorem acv_get (f : Nat → Nat) (b : Bool) {j : Nat} (hj : j < 76) : (acv f b)[j]? = some (.int .u64 (f j : Nat)) := by
  unfold acv; rw [List.getElem?_append_left (by rw [wda_len]; exact hj)]; exact wda_get f hj
theorem acv_top (f : Nat → Nat) (b : Bool) : (acv f b)[76]? = some (.bool b) := by
  unfold acv; rw [List.getElem?_append_right (by rw [wda_len]; omega), wda_len]; rfl
theorem AccO.of_range {w : World} {B : Nat} {f : Nat → Nat} {o : Option Int} (h : w.rangeAt B 0 (acv f o.isNone)) (hfr : ∀ j, j < 77 → w.frozen? ⟨B, j, none⟩ = false) (hlt : ∀ j, j < 76 → f j < 18446744073709551616)
    (hz : ∀ z, o = some z → Tc f z ∧ -((2 ^ 4800 : Nat) : Int) < z ∧ z < ((2 ^ 4800 : Nat) : Int)) (htop : ∀ j, 77 ≤ j → w.cell? ⟨B, j, none⟩ = none) : AccO w B o :=
  ⟨⟨f, ⟨fun j hj => by have := h j _ (acv_get f o.isNone hj); rwa [Nat.zero_add] at this, fun j hj => hfr j (by omega), hlt⟩, hz⟩, by have := h 76 _ (acv_top f o.isNone); rwa [Nat.zero_add] at this, hfr 76 (by omega), htop⟩
theorem Tc.zero : Tc (fun _ => 0) 0 := ⟨fun _ _ => by omega, by omega, by have := Nat.two_pow_pos 4863; omega, .inl (by rw [wv_const_zero]; rfl)⟩
theorem pow4800 : (0 : Int) < ((2 ^ 4800 : Nat) : Int) := by have := Nat.two_pow_pos 4800; omega
theorem spoil_cells : Try.zeroCells108.toList.set 76 (.bool true) = acv (fun _ => 0) true := by rfl
theorem store_acv {w : World} {B : Nat} {f : Nat → Nat} {b : Bool} (h : Wds w B f) (hc : w.cell? ⟨B, 76, none⟩ = some (.bool b)) (hf : w.frozen? ⟨B, 76, none⟩ = false) (g : Nat → Nat) (b' : Bool) :
    (storeCells ⟨B, 0, none⟩ (acv g b')).run Try.prog w = .ok () (w.setCells B 0 (acv g b')) := by
  have h1 : ∀ j, j < 77 → (w.cell? ⟨B, j, none⟩).isSome = true ∧ w.frozen? ⟨B, j, none⟩ = false := fun j hj => by
    by_cases e : j < 76
    · rw [h.cells j e]; exact ⟨rfl, h.frozen j e⟩
    · obtain rfl : j = 76 := by omega
      rw [hc]; exact ⟨rfl, hf⟩
  have := run_storeCells_cells (P := Try.prog) B 0 (acv g b') 0 w (fun j hj => by have := (h1 j (by rw [acv_len] at hj; exact hj)).1; simpa using this) (fun j hj => by have := (h1 j (by rw [acv_len] at hj; exact hj)).2; simpa using this) (acv_one g b')
  simpa using this
theorem AccO.stored {w : World} {B : Nat} {f g : Nat → Nat} {b : Bool} {o : Option Int} (h : Wds w B f) (hc : w.cell? ⟨B, 76, none⟩ = some (.bool b)) (hf : w.frozen? ⟨B, 76, none⟩ = false) (hlt : ∀ j, j < 76 → g j < 18446744073709551616)
    (hz : ∀ z, o = some z → Tc g z ∧ -((2 ^ 4800 : Nat) : Int) < z ∧ z < ((2 ^ 4800 : Nat) : Int)) (htop : ∀ j, 77 ≤ j → w.cell? ⟨B, j, none⟩ = none) : AccO (w.setCells B 0 (acv g o.isNone)) B o := by
  have h1 : ∀ j, j < 77 → (w.cell? ⟨B, j, none⟩).isSome = true ∧ w.frozen? ⟨B, j, none⟩ = false := fun j hj => by
    by_cases e : j < 76
    · rw [h.cells j e]; exact ⟨rfl, h.frozen j e⟩
    · obtain rfl : j = 76 := by omega
      rw [hc]; exact ⟨rfl, hf⟩
  exact AccO.of_range (World.rangeAt_setCells_same _ _ _ _ (by rw [acv_len]; intro j hj; rw [Nat.zero_add]; exact h1 j hj)) (fun j hj => by rw [World.frozen?_setCells]; exact (h1 j hj).2) hlt hz (fun j hj => by rw [World.cell?_setCells_out _ _ _ _ _ (fun _ _ => .inr (by rw [acv_len]; show 0 + 77 ≤ j; omega))]; exact htop j hj)
/-- A new block with such cells. -/
theorem acc_new {w : World} {f : Nat → Nat} {o : Option Int} (hlt : ∀ j, j < 76 → f j < 18446744073709551616) (hz : ∀ z, o = some z → Tc f z ∧ -((2 ^ 4800 : Nat) : Int) < z ∧ z < ((2 ^ 4800 : Nat) : Int)) (C : Array Value) (hC : C = (acv f o.isNone).toArray) (t : TypeId) : AccO (w.alloc (.cells C t)) w.heap.size o := by
  subst hC
  refine AccO.of_range (fun j v hv => ?_) (fun j hj => World.frozen?_alloc_new _ _ _ _) hlt hz (fun j hj => by rw [cell_of_row _ _ _ _ _ _ (heap_alloc_new w _), List.getElem?_toArray, List.getElem?_eq_none (by rw [acv_len]; omega)])
  rw [Nat.zero_add, cell_of_row _ _ _ _ _ _ (heap_alloc_new w _), List.getElem?_toArray]
  exact hv
theorem AccO.fresh (w : World) (C : Array Value) (t : TypeId) (hC : C = (acv (fun _ => 0) false).toArray) : AccO (w.alloc (.cells C t)) w.heap.size (some 0) :=
  acc_new (f := fun _ => 0) (o := some 0) (fun _ _ => by omega) (fun z hz => by cases hz; exact ⟨Tc.zero, by have := pow4800; omega, pow4800⟩) C hC t
set_option maxRecDepth 100000 in
theorem new_any (w : World) : Calls Try.prog 48 #[] w fun e w' => e = .returned (.pointer (some ⟨w.heap.size, 0, none⟩)) ∧ AccO w' w.heap.size (some 0) ∧ Below w.heap.size w w' ∧ w'.heap.size = w.heap.size + 1 := by
  go_enter Try.func48, Try.ntmps48
  go_wp2_with fail
  go_ret
  exact ⟨rfl, AccO.fresh w _ _ rfl, (Below.refl _ w).alloc (Nat.le_refl _) _, by simp⟩
set_option maxRecDepth 100000 in
theorem bad_any (B : Nat) (o : Option Int) (w : World) (h : AccO w B o) : Calls Try.prog 32 #[.pointer (some ⟨B, 0, none⟩)] w fun e w' => e = .returned (.bool o.isNone) ∧ w' = w := by
  have g0 := h.cell
  clear h
  cases o
  all_goals
    go_enter Try.func32, Try.ntmps32
    go_wp2_with fail
    go_ret
    exact ⟨rfl, rfl⟩
set_option maxRecDepth 100000 in
theorem spoil_any (B : Nat) (f : Nat → Nat) (b : Bool) (w : World) (h : Wds w B f) (hc : w.cell? ⟨B, 76, none⟩ = some (.bool b)) (hf : w.frozen? ⟨B, 76, none⟩ = false) (ht : ∀ j, 77 ≤ j → w.cell? ⟨B, j, none⟩ = none) : Calls Try.prog 68 #[.pointer (some ⟨B, 0, none⟩)] w fun e w' => e = .returned (.tuple #[]) ∧ AccO w' B none ∧ Chg B w w' := by
  have HW : Hid _ := h
  have HC : Hid _ := And.intro hc hf
  have HTP : Hid (∀ j, 77 ≤ j → w.cell? ⟨B, j, none⟩ = none) := ht
  clear h hc hf ht
  go_enter Try.func68, Try.ntmps68
  have hst := store_acv HW.out HC.out.1 HC.out.2 (fun _ => 0) true
  rw [← spoil_cells] at hst
  have HS : Hid (AccO (w.setCells B 0 (Try.zeroCells108.toList.set 76 (.bool true))) B none ∧ Chg B w (w.setCells B 0 (Try.zeroCells108.toList.set 76 (.bool true)))) := by
    rw [spoil_cells]
    exact ⟨AccO.stored (o := none) HW.out HC.out.1 HC.out.2 (fun _ _ => by omega) (fun z hz => by cases hz) HTP.out, (Chg.refl B w).setCells _ 0⟩
  generalize w.setCells B 0 (Try.zeroCells108.toList.set 76 (.bool true)) = w2 at hst HS
  go_wp2_with fail
  go_end0
  exact ⟨rfl, HS.out.1, HS.out.2⟩
theorem AccO.words {w : World} {B : Nat} {o : Option Int} (h : AccO w B o) : ∃ f b, Wds w B f ∧ w.cell? ⟨B, 76, none⟩ = some (.bool b) ∧ w.frozen? ⟨B, 76, none⟩ = false ∧ ∀ j, 77 ≤ j → w.cell? ⟨B, j, none⟩ = none := by
  obtain ⟨f, h1, h2⟩ := h.ex
  exact ⟨f, _, h1, h.cell, h.froz, h.top⟩
set_option maxRecDepth 100000 in
/-- Settle: what is too great is bad. -/
theorem settle_any (B : Nat) (f : Nat → Nat) (z : Int) (w : World) (h : Wds w B f) (hz : Tc f z) (hc : w.cell? ⟨B, 76, none⟩ = some (.bool false)) (hf : w.frozen? ⟨B, 76, none⟩ = false) (ht : ∀ j, 77 ≤ j → w.cell? ⟨B, j, none⟩ = none) : Calls Try.prog 72 #[.pointer (some ⟨B, 0, none⟩)] w fun e w' => e = .returned (.tuple #[]) ∧ AccO w' B (holdZ z) ∧ Chg B w w' := by
  have HW : Hid _ := h
  have HC : Hid _ := And.intro hc hf
  have HZ : Hid _ := hz
  have HTP : Hid (∀ j, 77 ≤ j → w.cell? ⟨B, j, none⟩ = none) := ht
  clear h hc hf hz ht
  by_cases hh : -((2 ^ 4800 : Nat) : Int) < z ∧ z < ((2 ^ 4800 : Nat) : Int)
  · have HH : Hid (holdZ z = some z) := if_pos hh
    have HA : Hid (AccO w B (some z)) := ⟨⟨f, HW.out, fun y hy => by cases hy; exact ⟨HZ.out, hh⟩⟩, HC.out.1, HC.out.2, HTP.out⟩
    have HX : Hid _ := hh
    clear hh
    go_enter Try.func72, Try.ntmps72
    go_wp2_with fail
    refine (held_any B f z _ HW.out HZ.out true ⟨fun _ => HX.out, fun _ => rfl⟩).mono ?_
    rintro e w1 ⟨rfl, rfl⟩
    go_wp2_with fail
    go_end0
    exact ⟨rfl, by rw [HH.out]; exact HA.out, Chg.refl _ _⟩
  · have HH : Hid (holdZ z = none) := if_neg hh
    have HX : Hid _ := hh
    clear hh
    go_enter Try.func72, Try.ntmps72
    go_wp2_with fail
    refine (held_any B f z _ HW.out HZ.out false ⟨fun c => by simp at c, fun c => absurd c HX.out⟩).mono ?_
    rintro e w1 ⟨rfl, rfl⟩
    go_wp2_with fail
    refine (spoil_any B f false _ HW.out HC.out.1 HC.out.2 HTP.out).mono ?_
    rintro e w2 ⟨rfl, h1, h2⟩
    have H1 : Hid _ := And.intro h1 h2
    clear h1 h2
    go_wp2_with fail
    go_end0
    exact ⟨rfl, by rw [HH.out]; exact H1.out.1, H1.out.2⟩
end Go.Proofs.Ytoehhnildocihaa

namespace Go.Proofs.Ytoehhnildocihaa
open Go.RowKit
set_option linter.unusedVariables false
theorem Mut.top {B : Nat} {w w' : World} (h : Mut B w w') : w'.cell? ⟨B, 76, none⟩ = w.cell? ⟨B, 76, none⟩ ∧ w'.frozen? ⟨B, 76, none⟩ = w.frozen? ⟨B, 76, none⟩ := ⟨h.high 76 (by omega), h.froz 76⟩
theorem pow_4800_4863 : ((2 ^ 4800 : Nat) : Int) * 4 ≤ ((2 ^ 4863 : Nat) : Int) := by
  have := pow_top
  have h2 := Nat.two_pow_pos 4800
  rw [this]
  generalize 2 ^ 4800 = L at *
  omega
def signO (o : Option Int) : Int := match o with | none => 0 | some z => sgi z
set_option maxRecDepth 100000 in
theorem accSign_any (B : Nat) (o : Option Int) (w : World) (hB : AccO w B o) :
    Calls Try.prog 53 #[.pointer (some ⟨B, 0, none⟩)] w fun e w' => e = .returned (.int .i64 (signO o)) ∧ w' = w := by
  have HB : Hid _ := hB
  clear hB
  cases o with
  | none =>
    go_enter Try.func53, Try.ntmps53
    go_wp2_with fail
    refine (bad_any B none _ HB.out).mono ?_
    rintro e w1 ⟨rfl, rfl⟩
    go_wp2_with fail
    go_ret
    exact ⟨rfl, rfl⟩
  | some x =>
    obtain ⟨f, k1, k2⟩ := HB.out.ex
    obtain ⟨t1, t2, t3⟩ := k2 x rfl
    have HK : Hid _ := And.intro k1 t1
    clear k1 k2 t1 t2 t3
    go_enter Try.func53, Try.ntmps53
    go_wp2_with fail
    refine (bad_any B (some x) _ HB.out).mono ?_
    rintro e w1 ⟨rfl, rfl⟩
    go_wp2_with fail
    refine (signW_any B f x _ HK.out.1 HK.out.2).mono ?_
    rintro e w1 ⟨rfl, rfl⟩
    go_wp2_with fail
    go_ret
    exact ⟨rfl, rfl⟩
/-- A store of words over an Acc's leaves its last cell. -/
theorem AccO.words_stored {w : World} {B : Nat} {f g : Nat → Nat} {z : Int} (h : Wds w B f) (hc : w.cell? ⟨B, 76, none⟩ = some (.bool false)) (hf : w.frozen? ⟨B, 76, none⟩ = false) (hg : Tc g z) (h1 : -((2 ^ 4800 : Nat) : Int) < z) (h2 : z < ((2 ^ 4800 : Nat) : Int)) (ht : ∀ j, 77 ≤ j → w.cell? ⟨B, j, none⟩ = none) : AccO (w.setCells B 0 (wda g)) B (some z) :=
  ⟨⟨g, h.stored hg.lt, fun y hy => by cases hy; exact ⟨hg, h1, h2⟩⟩, by rw [World.cell?_setCells_out _ _ _ _ _ (fun _ _ => .inr (by rw [wda_len]; show 0 + 76 ≤ 76; omega))]; exact hc, by rw [World.frozen?_setCells]; exact hf, fun j hj => by rw [World.cell?_setCells_out _ _ _ _ _ (fun _ _ => .inr (by rw [wda_len]; show 0 + 76 ≤ j; omega))]; exact ht j hj⟩
def absO (o : Option Int) : Option Int := o.map fun z => (z.natAbs : Int)
set_option maxRecDepth 100000 in
set_option maxHeartbeats 1000000 in
theorem accAbs_any (B : Nat) (o : Option Int) (w : World) (hB : AccO w B o) :
    Calls Try.prog 51 #[.pointer (some ⟨B, 0, none⟩)] w fun e w' => e = .returned (.tuple #[]) ∧ AccO w' B (absO o) ∧ Chg B w w' := by
  have HB : Hid _ := hB
  clear hB
  by_cases hs : signO o < 0
  · cases o with
    | none => simp [signO] at hs
    | some z =>
      have hz : z < 0 := by unfold signO sgi at hs; simp only at hs; split at hs <;> (try split at hs) <;> omega
      have hs1 : signO (some z) = -1 := by show sgi z = -1; unfold sgi; rw [if_pos hz]
      obtain ⟨f, k1, k2⟩ := HB.out.ex
      obtain ⟨t1, t2, t3⟩ := k2 z rfl
      have HK : Hid _ := And.intro k1 (And.intro t1 (And.intro t2 t3))
      have HLO : Hid (-((2 ^ 4863 : Nat) : Int) < z) := by unfold Hid; have := pow_4800_4863; have := pow4800; generalize ((2 ^ 4800 : Nat) : Int) = L at *; generalize ((2 ^ 4863 : Nat) : Int) = M at *; omega
      have HA : Hid (absO (some z) = some (-z)) := by unfold Hid absO; simp; omega
      have HC0 : Hid _ := And.intro HB.out.cell HB.out.froz
      clear k1 k2 t1 t2 t3 hs hz
      go_enter Try.func51, Try.ntmps51
      go_wp2_with fail
      refine (accSign_any B (some z) _ HB.out).mono ?_
      rintro e w1 ⟨rfl, rfl⟩
      go_wp2_with fail
      refine (turnedW_any B f z _ HK.out.1 HK.out.2.1 HLO.out).mono ?_
      rintro e w2 ⟨h, rfl, ht, hb⟩
      have hlt := HK.out.1.block
      have HW2 : Hid (Wds w2 B f) := HK.out.1.below hb hlt
      have HC2 : Hid (w2.cell? ⟨B, 76, none⟩ = some (.bool false) ∧ w2.frozen? ⟨B, 76, none⟩ = false) := ⟨(cell_of_heap (hb.block B hlt) 76).1.trans HC0.out.1, (cell_of_heap (hb.block B hlt) 76).2.trans HC0.out.2⟩
      have HR : Hid (AccO (w2.setCells B 0 (wda h)) B (some (-z)) ∧ Chg B w1 (w2.setCells B 0 (wda h))) := ⟨AccO.words_stored HW2.out HC2.out.1 HC2.out.2 ht (by have := HK.out.2.2.2; omega) (by have := HK.out.2.2.1; omega) (fun j hj => (cell_of_heap (hb.block B hlt) j).1.trans (HB.out.top j hj)), (Chg.of_below hb (by omega)).setCells _ 0⟩
      have hst := store_words HW2.out h
      generalize w2.setCells B 0 (wda h) = w3 at hst HR
      clear ht hb hlt
      go_wp2_with fail
      go_end0
      exact ⟨rfl, by rw [HA.out]; exact HR.out.1, HR.out.2⟩
  · have hd : decide (signO o < 0) = false := decide_eq_false hs
    have HA : Hid (absO o = o) := by
      unfold Hid absO
      cases o with
      | none => rfl
      | some z =>
        have : 0 ≤ z := by unfold signO sgi at hs; simp only at hs; split at hs <;> (try split at hs) <;> omega
        simp; omega
    clear hs
    go_enter Try.func51, Try.ntmps51
    go_wp2_with fail
    refine (accSign_any B o _ HB.out).mono ?_
    rintro e w1 ⟨rfl, rfl⟩
    go_wp2_with fail
    go_end0
    exact ⟨rfl, by rw [HA.out]; exact HB.out, Chg.refl _ _⟩
end Go.Proofs.Ytoehhnildocihaa

namespace Go.Proofs.Ytoehhnildocihaa
open Go.RowKit
set_option linter.unusedVariables false
set_option maxRecDepth 100000 in
set_option maxHeartbeats 1000000 in
theorem accCmp_any (B C : Nat) (x y : Int) (w : World) (hB : AccO w B (some x)) (hC : AccO w C (some y)) :
    Calls Try.prog 103 #[.pointer (some ⟨B, 0, none⟩), .pointer (some ⟨C, 0, none⟩)] w fun e w' => e = .returned (.tuple #[.int .i64 (sgi (x - y)), .bool true]) ∧ Below w.heap.size w w' := by
  have HB : Hid _ := hB
  have HC : Hid _ := hC
  clear hB hC
  obtain ⟨f, k1, k2⟩ := HB.out.ex
  obtain ⟨g, k3, k4⟩ := HC.out.ex
  obtain ⟨t1, t2, t3⟩ := k2 x rfl
  obtain ⟨t4, t5, t6⟩ := k4 y rfl
  have hb : -((2 ^ 4863 : Nat) : Int) ≤ x - y ∧ x - y < ((2 ^ 4863 : Nat) : Int) := by
    have := pow_4800_4863
    generalize ((2 ^ 4800 : Nat) : Int) = L at *
    generalize ((2 ^ 4863 : Nat) : Int) = M at *
    omega
  have HF : Hid _ := And.intro k1 (And.intro k3 (And.intro t1 t4))
  have HR : Hid _ := hb
  clear k1 k2 k3 k4 t1 t2 t3 t4 t5 t6 hb
  have HN : Hid _ := Wds.new w
  have HBL : Hid (Below w.heap.size w (w.alloc (.cells Try.zeroCells106 106))) := (Below.refl _ w).alloc (Nat.le_refl _) _
  have HG : Hid _ := HF.out.2.1.below HBL.out HF.out.2.1.block
  have hst := store_words HN.out f
  have HS : Hid (Wds ((w.alloc (.cells Try.zeroCells106 106)).setCells w.heap.size 0 (wda f)) w.heap.size f ∧ Wds ((w.alloc (.cells Try.zeroCells106 106)).setCells w.heap.size 0 (wda f)) C g ∧ Below w.heap.size w ((w.alloc (.cells Try.zeroCells106 106)).setCells w.heap.size 0 (wda f))) :=
    ⟨HN.out.stored HF.out.1.lt, HG.out.heap (heap_setCells_other _ _ _ _ _ (by have := HF.out.2.1.block; omega)), Below.setCells (Nat.le_refl _) _ _ _ HBL.out⟩
  generalize (w.alloc (.cells Try.zeroCells106 106)).setCells w.heap.size 0 (wda f) = w2 at hst HS
  go_enter Try.func103, Try.ntmps103
  go_wp2_with fail
  refine (bad_any B (some x) _ HB.out).mono ?_
  rintro e w1 ⟨rfl, rfl⟩
  go_wp2_with fail
  refine (bad_any C (some y) _ HC.out).mono ?_
  rintro e w1 ⟨rfl, rfl⟩
  go_wp2_with (first | (refine wpList_load_mid (by rfl) _ _ (by rfl) B 0 (by rfl) (wda f) _ HF.out.1.range Try.underlying106 rfl (size_wda f) ?_))
  refine (join_tc w1.heap.size C f g x y true _ HS.out.1 HS.out.2.1 HF.out.2.2.1 HF.out.2.2.2 (x - y) (by simp; omega) HR.out.1 HR.out.2).mono ?_
  rintro e w3 ⟨rfl, h, j1, j2, j3⟩
  have HJ : Hid _ := And.intro j1 j3
  have HB3 : Hid (Below w1.heap.size w1 w3) := HS.out.2.2.trans j2.below
  clear j1 j2 j3
  go_wp2_with fail
  refine (signW_any w1.heap.size h (x - y) _ HJ.out.1 HJ.out.2).mono ?_
  rintro e w4 ⟨rfl, rfl⟩
  go_wp2_with fail
  go_ret2
  exact ⟨rfl, HB3.out⟩
end Go.Proofs.Ytoehhnildocihaa

namespace Go.Proofs.Ytoehhnildocihaa
open Go.RowKit
set_option linter.unusedVariables false
theorem rd4_none (w : World) : Rd4 w none 0 0 [] := Rd4.none w
theorem alloc2_other (w : World) (o o' c : Obj) (b : Nat) (hb : b ≠ w.heap.size) : ((w.alloc o).alloc c).heap[b]? = ((w.alloc o').alloc c).heap[b]? := by
  rcases Nat.lt_or_ge b w.heap.size with h | h
  · rw [Below.heap_alloc _ _ _ (by simp; omega), Below.heap_alloc _ _ _ h, Below.heap_alloc _ _ _ (by simp; omega), Below.heap_alloc _ _ _ h]
  · by_cases h1 : b = w.heap.size + 1
    · subst h1
      have e1 := heap_alloc_new (w.alloc o) c
      have e2 := heap_alloc_new (w.alloc o') c
      rw [show (w.alloc o).heap.size = w.heap.size + 1 by simp] at e1
      rw [show (w.alloc o').heap.size = w.heap.size + 1 by simp] at e2
      rw [e1, e2]
    · rw [Array.getElem?_eq_none (by simp; omega), Array.getElem?_eq_none (by simp; omega)]
theorem alloc2_first (w : World) (o c : Obj) : ((w.alloc o).alloc c).heap[w.heap.size]? = some o := by
  rw [Below.heap_alloc _ _ _ (by simp)]; exact heap_alloc_new w o
def ofM (u : Nat) : Nat := if frung u < 4503599627370496 then frung u else 4503599627370496 + frung u % 4503599627370496
def ofE (u : Nat) : Int := if frung u < 4503599627370496 then -1074 else (frung u / 4503599627370496 : Nat) - 1075
theorem words2 {m : Nat} (hm : m < 18446744073709551616) : dig [m % 4294967296, m / 4294967296] = m ∧ U4 [m % 4294967296, m / 4294967296] := by
  refine ⟨?_, ?_⟩
  · simp only [dig]; omega
  · intro x hx
    simp only [List.mem_cons, List.mem_nil_iff, or_false] at hx
    rcases hx with rfl | rfl <;> omega
theorem rd4_fresh2 (w : World) (a b : Nat) (hu : U4 [a, b]) : Rd4 (w.alloc (.cells #[.int .u32 (a : Int), .int .u32 (b : Int)] 134)) (some ⟨w.heap.size, 0, none⟩) 2 2 [a, b] := by
  refine ⟨rfl, Nat.le_refl _, by decide, hu, (fun h => by cases h), .inr ⟨_, _, rfl, fun j hj => ?_⟩⟩
  rw [Nat.zero_add, cell_of_row _ w.heap.size j _ _ _ (heap_alloc_new w _)]
  match j, hj with
  | 0, _ => rfl
  | 1, _ => rfl
theorem ofM_val {u : Nat} (hf : Fin u) : ofM u * 2 ^ (ofE u + 1074).toNat = rmag (frung u) ∧ -1074 ≤ ofE u ∧ ofE u ≤ 971 ∧ bl (ofM u) ≤ 53 ∧ (ofM u = 0 ↔ frung u = 0) := by
  unfold Fin infK at hf
  have hbl : ∀ m : Nat, m < 9007199254740992 → bl m ≤ 53 := by
    intro m hm
    rcases Nat.eq_zero_or_pos m with h0 | h0
    · rw [h0, bl_zero]; omega
    · have h3 := bl_spec (m := m) (by omega)
      rcases Nat.lt_or_ge 53 (bl m) with h4 | h4
      · have : 2 ^ 53 ≤ 2 ^ (bl m - 1) := Nat.pow_le_pow_right (by omega) (by omega)
        have h53 : (2 : Nat) ^ 53 = 9007199254740992 := by decide
        omega
      · exact h4
  unfold ofM ofE
  by_cases h : frung u < 4503599627370496
  · rw [if_pos h, if_pos h]
    refine ⟨?_, by omega, by omega, hbl _ (by omega), Iff.rfl⟩
    unfold rmag; rw [if_pos h, show ((-1074 : Int) + 1074).toNat = 0 from rfl, Nat.pow_zero, Nat.mul_one]
  · rw [if_neg h, if_neg h]
    refine ⟨?_, by omega, by omega, hbl _ (by omega), by omega⟩
    unfold rmag; rw [if_neg h]; congr 2; omega
end Go.Proofs.Ytoehhnildocihaa

namespace Go.Proofs.Ytoehhnildocihaa
open Go.RowKit
set_option linter.unusedVariables false
/-- What parts tells. -/
def PartsR (u : Nat) (m : Nat) (x : Int) (b : Bool) : Prop := (b = true ↔ Fin u) ∧ (b = true → m < 9007199254740992 ∧ -1074 ≤ x ∧ x ≤ 971 ∧ m * 2 ^ (x + 1074).toNat = rmag (frung u)) ∧ (b = false → m = 0 ∧ x = 0)
set_option maxRecDepth 100000 in
set_option maxHeartbeats 1000000 in
theorem parts_any (u : Nat) (hu : u < 18446744073709551616) (w : World) :
    Calls Try.prog 67 #[.float .f64 u] w fun e w' => ∃ (m : Nat) (x : Int) (b : Bool), e = .returned (.tuple #[.int .u64 (m : Int), .int .i64 x, .bool b]) ∧ PartsR u m x b ∧ w' = w := by
  obtain ⟨E, hE⟩ : ∃ E : Nat, u / 4503599627370496 % 2048 = E := ⟨_, rfl⟩
  obtain ⟨m, hm⟩ : ∃ m : Nat, u % 4503599627370496 = m := ⟨_, rfl⟩
  have fE : bits .and .u64 ((u : Int) / 4503599627370496) 2047 = (E : Int) := by
    have k := u64_and_nat (u / 4503599627370496) 2047 (by omega) (by decide)
    rw [show ((2047 : Nat) : Int) = 2047 from rfl] at k
    rw [show (u : Int) / 4503599627370496 = ((u / 4503599627370496 : Nat) : Int) by omega, k, and_2047, hE]
  have fm : bits .and .u64 (u : Int) 4503599627370495 = (m : Int) := by
    have k := u64_and_nat u 4503599627370495 hu (by decide)
    rw [show ((4503599627370495 : Nat) : Int) = 4503599627370495 from rfl] at k
    rw [k, show (4503599627370495 : Nat) = 2 ^ 52 - 1 by decide, Nat.and_two_pow_sub_one_eq_mod, show (2 : Nat) ^ 52 = 4503599627370496 by decide, hm]
  have hr : frung u = E * 4503599627370496 + m := by unfold frung; omega
  have hEb : E < 2048 := by omega
  have hmb : m < 4503599627370496 := by omega
  have hFin : Fin u ↔ E < 2047 := by unfold Fin infK; rw [hr]; omega
  have fo : bits .or .u64 (m : Int) 4503599627370496 = ((4503599627370496 + m : Nat) : Int) := by
    have k := u64_or_nat m 4503599627370496 (by omega) (by decide)
    rw [show ((4503599627370496 : Nat) : Int) = 4503599627370496 from rfl] at k
    rw [k, Nat.or_comm]
    have := Nat.two_pow_add_eq_or_of_lt (i := 52) (b := m) (by simpa using hmb) 1
    rw [show (2 : Nat) ^ 52 * 1 = 4503599627370496 by decide] at this
    rw [← this]
  generalize hM : 4503599627370496 + m = M at fo
  clear hE hm
  by_cases h2047 : E = 2047
  · subst h2047
    have HR : Hid (PartsR u 0 0 false) := ⟨by rw [hFin]; simp, fun h => (by cases h), fun _ => ⟨rfl, rfl⟩⟩
    have hz : ((2047 : Nat) : Int) = 2047 := rfl
    rw [hz] at fE
    clear hr hFin hM
    go_enter Try.func67, Try.ntmps67
    go_wp2_with (first | (go_at_call 18; refine (bits_any _ _).mono ?_; rintro e w' ⟨rfl, rfl⟩))
    go_ret3
    exact ⟨0, 0, false, rfl, HR.out, rfl⟩
  · by_cases h0 : E = 0
    · subst h0
      have HR : Hid (PartsR u m (-1074) true) := ⟨by rw [hFin]; simp, fun _ => ⟨by omega, by omega, by omega, by
        rw [hr]
        have := rmag_form 0 m (.inl rfl) (by omega)
        rw [this]; simp⟩, by simp⟩
      have hz : ((0 : Nat) : Int) = 0 := rfl
      rw [hz] at fE
      clear hr hFin hM
      go_enter Try.func67, Try.ntmps67
      go_wp2_with (first | (go_at_call 18; refine (bits_any _ _).mono ?_; rintro e w' ⟨rfl, rfl⟩))
      go_ret3
      exact ⟨m, -1074, true, rfl, HR.out, rfl⟩
    · have HR : Hid (PartsR u M (-1074 + (E : Int) - 1) true) := ⟨by rw [hFin]; simp; omega, fun _ => ⟨by omega, by omega, by omega, by
        obtain ⟨F, rfl⟩ : ∃ F, E = F + 1 := ⟨E - 1, by omega⟩
        have := rmag_form F M (.inr (by omega)) (by omega)
        rw [hr, show (F + 1) * 4503599627370496 + m = F * 4503599627370496 + M by omega, this, show (-1074 + ((F + 1 : Nat) : Int) - 1 + 1074).toNat = F by omega]⟩, by simp⟩
      have n0 : ((E : Int) == 0) = false := by simp; omega
      have n1 : ((E : Int) == 2047) = false := by simp; omega
      have hEw : wrap64 (E : Int) = (E : Int) := by unfold wrap64; omega
      have HEW : Hid _ := hEw
      clear hr hFin hM hEw
      go_enter Try.func67, Try.ntmps67
      go_wp2_with (first | (go_at_call 18; refine (bits_any _ _).mono ?_; rintro e w' ⟨rfl, rfl⟩))
      go_ret3
      exact ⟨M, -1074 + (E : Int) - 1, true, rfl, HR.out, rfl⟩
set_option maxRecDepth 100000 in
theorem signbit_any (u : Nat) (hu : u < 18446744073709551616) (w : World) : Calls Try.prog 71 #[.float .f64 u] w fun e w' => e = .returned (.bool (fneg u)) ∧ w' = w := by
  have hcb := call_bits
  have HN : Hid (decide (wrap64 (u : Int) < 0) = fneg u) := by
    unfold Hid fneg
    unfold wrap64
    by_cases h : 9223372036854775808 ≤ u
    · rw [decide_eq_true (by omega), show u / 9223372036854775808 % 2 = 1 by omega]; rfl
    · rw [decide_eq_false (by omega), show u / 9223372036854775808 % 2 = 0 by omega]; rfl
  go_enter Try.func71, Try.ntmps71
  go_wp2_with fail
  go_ret
  exact ⟨congrArg (fun b => Ending.returned (.bool b)) HN.out, rfl⟩
/-- A product's part of the real. -/
def prodZ (a b : Nat) (n : Int) : Int := fval a * fval b * ((2 ^ (n + 92).toNat : Nat) : Int)
def prodO (o : Option Int) (a b : Nat) (n : Int) : Option Int := o.bind fun z => if Fin a ∧ Fin b ∧ -64 ≤ n ∧ n ≤ 64 then holdZ (z + prodZ a b n) else none
theorem prod_parts {a b am bm place : Nat} {ax bx n : Int} (ha : am * 2 ^ (ax + 1074).toNat = rmag (frung a)) (hb : bm * 2 ^ (bx + 1074).toNat = rmag (frung b)) (ha0 : -1074 ≤ ax) (hb0 : -1074 ≤ bx) (hn : -64 ≤ n) (hp : (place : Int) = ax + bx + n + 2240) :
    prodZ a b n = sv (fneg a != fneg b) (am * bm * 2 ^ place) := by
  have e1 : am * bm * 2 ^ place = rmag (frung a) * rmag (frung b) * 2 ^ (n + 92).toNat := by
    rw [← ha, ← hb]
    have : (2 : Nat) ^ place = 2 ^ (ax + 1074).toNat * 2 ^ (bx + 1074).toNat * 2 ^ (n + 92).toNat := by
      rw [← Nat.pow_add, ← Nat.pow_add]; congr 1; omega
    rw [this]; ac_rfl
  rw [e1]
  unfold prodZ fval sv
  cases fneg a <;> cases fneg b <;> simp [Int.neg_mul, Int.mul_neg]
theorem prod_small {am bm place : Nat} {P Q : Nat} (ha : am < 9007199254740992) (hb : bm < 9007199254740992) (hp : place ≤ 4300) (hQ : Q = 4800) : am * bm * 2 ^ place < 2 ^ Q := by
  have h1 : am * bm ≤ 9007199254740992 * 9007199254740992 := Nat.mul_le_mul (by omega) (by omega)
  have h2 : (2 : Nat) ^ Q = 2 ^ (Q - place) * 2 ^ place := by rw [← Nat.pow_add]; congr 1; omega
  have h3 : (2 : Nat) ^ 107 ≤ 2 ^ (Q - place) := Nat.pow_le_pow_right (by omega) (by omega)
  have h4 : (9007199254740992 * 9007199254740992 : Nat) < 2 ^ 107 := by decide
  rw [h2]
  exact Nat.mul_lt_mul_of_pos_right (by omega) (Nat.two_pow_pos _)
set_option maxRecDepth 100000 in
set_option maxHeartbeats 1000000 in
theorem prod_spoils (B : Nat) (o : Option Int) (a b : Nat) (n : Int) (ha : a < 18446744073709551616) (hb : b < 18446744073709551616) (w : World) (hB : AccO w B o) (hno : ¬ (o ≠ none ∧ Fin a ∧ Fin b ∧ -64 ≤ n ∧ n ≤ 64)) :
    Calls Try.prog 50 #[.pointer (some ⟨B, 0, none⟩), .float .f64 a, .float .f64 b, .int .i64 n] w fun e w' => e = .returned (.tuple #[]) ∧ AccO w' B none ∧ Chg B w w' := by
  have HB : Hid _ := hB
  clear hB
  obtain ⟨f0, b0, hw0⟩ := HB.out.words
  have HW0 : Hid _ := hw0
  clear hw0
  go_enter Try.func50, Try.ntmps50
  go_wp2_with fail
  refine (parts_any a ha _).mono ?_
  rintro e w1 ⟨am, ax, ab, rfl, hpa, rfl⟩
  go_wp2_with fail
  refine (parts_any b hb _).mono ?_
  rintro e w1 ⟨bm, bx, bb, rfl, hpb, rfl⟩
  have HH : Hid (¬ (o.isNone = false ∧ ab = true ∧ bb = true ∧ -64 ≤ n ∧ n ≤ 64)) := by
    rintro ⟨h1, h2, h3, h4, h5⟩
    exact hno ⟨by cases o <;> simp_all, hpa.1.1 h2, hpb.1.1 h3, h4, h5⟩
  clear hpa hpb hno
  go_wp2_with fail
  refine (bad_any B o _ HB.out).mono ?_
  rintro e w1 ⟨rfl, rfl⟩
  by_cases c0 : o.isNone = false
  · by_cases c1 : ab = true
    · by_cases c2 : bb = true
      · by_cases c3 : -64 ≤ n
        · have c4 : ¬ n ≤ 64 := fun c => HH.out ⟨c0, c1, c2, c3, c⟩
          subst c1 c2
          have d1 : decide (n < -64) = false := decide_eq_false (by omega)
          have d2 : decide (64 < n) = true := decide_eq_true (by omega)
          clear HH
          go_wp2_with (first | (go_at_call 68; refine (spoil_any B f0 b0 _ HW0.out.1 HW0.out.2.1 HW0.out.2.2.1 HW0.out.2.2.2).mono ?_; rintro e w' ⟨rfl, hs1, hs2⟩))
          (try simp only [Exit.inBlock, Exit.then]); refine bodyPost_ret (results_none rfl _ _ _) rfl ?_
          exact ⟨rfl, hs1, hs2⟩
        · subst c1 c2
          have d1 : decide (n < -64) = true := decide_eq_true (by omega)
          clear HH
          go_wp2_with (first | (go_at_call 68; refine (spoil_any B f0 b0 _ HW0.out.1 HW0.out.2.1 HW0.out.2.2.1 HW0.out.2.2.2).mono ?_; rintro e w' ⟨rfl, hs1, hs2⟩))
          (try simp only [Exit.inBlock, Exit.then]); refine bodyPost_ret (results_none rfl _ _ _) rfl ?_
          exact ⟨rfl, hs1, hs2⟩
      · obtain rfl : bb = false := by simpa using c2
        subst c1
        clear HH
        go_wp2_with (first | (go_at_call 68; refine (spoil_any B f0 b0 _ HW0.out.1 HW0.out.2.1 HW0.out.2.2.1 HW0.out.2.2.2).mono ?_; rintro e w' ⟨rfl, hs1, hs2⟩))
        (try simp only [Exit.inBlock, Exit.then]); refine bodyPost_ret (results_none rfl _ _ _) rfl ?_
        exact ⟨rfl, hs1, hs2⟩
    · obtain rfl : ab = false := by simpa using c1
      clear HH
      go_wp2_with (first | (go_at_call 68; refine (spoil_any B f0 b0 _ HW0.out.1 HW0.out.2.1 HW0.out.2.2.1 HW0.out.2.2.2).mono ?_; rintro e w' ⟨rfl, hs1, hs2⟩))
      (try simp only [Exit.inBlock, Exit.then]); refine bodyPost_ret (results_none rfl _ _ _) rfl ?_
      exact ⟨rfl, hs1, hs2⟩
  · have c0' : o.isNone = true := by simpa using c0
    clear HH c0
    go_wp2_with (first | (go_at_call 68; refine (spoil_any B f0 b0 _ HW0.out.1 HW0.out.2.1 HW0.out.2.2.1 HW0.out.2.2.2).mono ?_; rintro e w' ⟨rfl, hs1, hs2⟩))
    (try simp only [Exit.inBlock, Exit.then]); refine bodyPost_ret (results_none rfl _ _ _) rfl ?_
    exact ⟨rfl, hs1, hs2⟩
set_option maxRecDepth 100000 in
set_option maxHeartbeats 1000000 in
theorem prod_adds (B : Nat) (z : Int) (a b : Nat) (n : Int) (ha : a < 18446744073709551616) (hb : b < 18446744073709551616) (w : World) (hB : AccO w B (some z)) (fa : Fin a) (fb : Fin b) (hn0 : -64 ≤ n) (hn1 : n ≤ 64) :
    Calls Try.prog 50 #[.pointer (some ⟨B, 0, none⟩), .float .f64 a, .float .f64 b, .int .i64 n] w fun e w' => e = .returned (.tuple #[]) ∧ AccO w' B (holdZ (z + prodZ a b n)) ∧ Chg B w w' := by
  have HB : Hid _ := hB
  clear hB
  obtain ⟨f, k1, k2⟩ := HB.out.ex
  obtain ⟨t1, t2, t3⟩ := k2 z rfl
  have HK : Hid _ := And.intro k1 (And.intro t1 (And.intro t2 t3))
  have HC0 : Hid _ := And.intro HB.out.cell HB.out.froz
  clear k1 k2 t1 t2 t3
  go_enter Try.func50, Try.ntmps50
  go_wp2_with fail
  refine (parts_any a ha _).mono ?_
  rintro e w1 ⟨am, ax, ab, rfl, hpa, rfl⟩
  go_wp2_with fail
  refine (parts_any b hb _).mono ?_
  rintro e w1 ⟨bm, bx, bb, rfl, hpb, rfl⟩
  obtain rfl : ab = true := hpa.1.2 fa
  obtain rfl : bb = true := hpb.1.2 fb
  obtain ⟨a1, a2, a3, a4⟩ := hpa.2.1 rfl
  obtain ⟨b1, b2, b3, b4⟩ := hpb.2.1 rfl
  obtain ⟨place, hpl⟩ : ∃ place : Nat, (place : Int) = ax + bx + n + 2240 := ⟨(ax + bx + n + 2240).toNat, by omega⟩
  have HPZ : Hid (prodZ a b n = sv (fneg a != fneg b) (am * bm * 2 ^ place)) := prod_parts a4 b4 a2 b2 hn0 hpl
  obtain ⟨k, hk⟩ : ∃ k, place / 64 = k := ⟨_, rfl⟩
  obtain ⟨nn, hnn⟩ : ∃ nn, place % 64 = nn := ⟨_, rfl⟩
  obtain ⟨high, hhi⟩ : ∃ high, am * bm / 18446744073709551616 = high := ⟨_, rfl⟩
  obtain ⟨low, hlo⟩ : ∃ low, am * bm % 18446744073709551616 = low := ⟨_, rfl⟩
  have hll : low < 18446744073709551616 := by rw [← hlo]; exact Nat.mod_lt _ (by omega)
  have hhl : high < 18446744073709551616 := by
    rw [← hhi, Nat.div_lt_iff_lt_mul (by omega)]
    have : am * bm ≤ 9007199254740992 * 9007199254740992 := Nat.mul_le_mul (by omega) (by omega)
    omega
  have hmb : high * 18446744073709551616 + low = am * bm := by have := Nat.div_add_mod (am * bm) 18446744073709551616; omega
  have hpk : place = 64 * k + nn := by omega
  obtain ⟨ng, hng⟩ : ∃ ng, (fneg a != fneg b) = ng := ⟨_, rfl⟩
  have HE : Hid (z + prodZ a b n = z + sv ng ((high * 18446744073709551616 + low) * 2 ^ (64 * k + nn))) := by unfold Hid; rw [HPZ.out, hng, hmb, hpk]
  have HBD : Hid (-((2 ^ 4863 : Nat) : Int) ≤ z + sv ng ((high * 18446744073709551616 + low) * 2 ^ (64 * k + nn)) ∧ z + sv ng ((high * 18446744073709551616 + low) * 2 ^ (64 * k + nn)) < ((2 ^ 4863 : Nat) : Int)) := by
    obtain ⟨Q, hQ⟩ : ∃ Q : Nat, Q = 4800 := ⟨_, rfl⟩
    have hs := prod_small (P := 0) a1 b1 (show place ≤ 4300 by omega) hQ
    rw [hmb, ← hpk]
    have h2 := HK.out.2.2
    have h3 := pow_4800_4863
    rw [hQ] at hs
    have hs' : ((am * bm * 2 ^ place : Nat) : Int) < ((2 ^ 4800 : Nat) : Int) := by exact_mod_cast hs
    unfold Hid sv
    generalize am * bm * 2 ^ place = X at *
    generalize ((2 ^ 4800 : Nat) : Int) = L at *
    generalize ((2 ^ 4863 : Nat) : Int) = M at *
    split <;> omega
  have hpw : ax + bx + n + 2240 = 64 * (k : Int) + nn := by omega
  have hnn64 : nn < 64 := by omega
  have hk76 : k + 3 ≤ 76 := by omega
  have hml := Try.bits_Mul64 am bm (by omega) (by omega) w1
  rw [hhi, hlo] at hml
  have HML : Hid _ := hml
  have hab : -5000 ≤ ax + bx ∧ ax + bx ≤ 5000 ∧ -5000 ≤ ax + bx + n ∧ ax + bx + n ≤ 5000 := by omega
  have HPW : Hid _ := hpw
  have HM : Hid (Calls Try.prog 69 #[.int .u64 (am : Int), .int .u64 (bm : Int)] w1 fun e w' => e = .returned (.tuple #[.int .u64 (high : Int), .int .u64 (low : Int)]) ∧ w' = w1) := hml
  have HNG : Hid _ := hng
  have d1 : decide (n < -64) = false := decide_eq_false (by omega)
  have d2 : decide (64 < n) = false := decide_eq_false (by omega)
  clear HML hml hpw hmb hpk hhi hlo hk hnn hpl hpa hpb a1 a2 a3 a4 b1 b2 b3 b4 HPZ hng fa fb
  go_wp2_with fail
  refine (bad_any B (some z) _ HB.out).mono ?_
  rintro e w2 ⟨rfl, rfl⟩
  go_wp2_with fail
  refine Calls.mono HM.out ?_
  rintro e w2 ⟨rfl, rfl⟩
  go_wp2_with fail
  obtain ⟨sa, hsa⟩ : ∃ sa, fneg a = sa := ⟨_, rfl⟩
  obtain ⟨sb, hsb⟩ : ∃ sb, fneg b = sb := ⟨_, rfl⟩
  have hng := HNG.out
  rw [hsa, hsb] at hng
  have HSA : Hid (∀ w : World, Calls Try.prog 71 #[.float .f64 a] w fun e w' => e = .returned (.bool sa) ∧ w' = w) := fun w => by rw [← hsa]; exact signbit_any a ha w
  have HSB : Hid (∀ w : World, Calls Try.prog 71 #[.float .f64 b] w fun e w' => e = .returned (.bool sb) ∧ w' = w) := fun w => by rw [← hsb]; exact signbit_any b hb w
  have hng2 : (!sa == sb) = ng := hng
  have v1 : IntKind.i64.wrap (ax + bx) = ax + bx := by rw [IntKind.wrap_i64]; omega
  have v2 : IntKind.i64.wrap (ax + bx + n) = ax + bx + n := by rw [IntKind.wrap_i64]; omega
  clear hsa hsb HNG
  have HPUT : Hid (Calls Try.prog 70 #[.pointer (some ⟨B, 0, none⟩), .int .u64 (high : Int), .int .u64 (low : Int), .int .i64 (ax + bx + n), .bool ng] w2.drew fun e w' => e = .returned (.tuple #[]) ∧ ∃ h, Wds w' B h ∧ Mut B w2.drew w' ∧ Tc h (z + sv ng ((high * 18446744073709551616 + low) * 2 ^ (64 * k + nn)))) :=
    put_any B f z high low k nn (ax + bx + n) ng hk76 hnn64 HPW.out hll hhl _ HK.out.1.drew HK.out.2.1 HBD.out.1 HBD.out.2
  clear HBD HPW
  go_region_held3 (fun w' => True) (trivial) ((first | (go_at_call_of 71 (Value.float FloatKind.f64 a); refine Calls.mono (HSA.out _) ?_; rintro e w' ⟨rfl, rfl⟩) | (go_at_call_of 71 (Value.float FloatKind.f64 b); refine Calls.mono (HSB.out _) ?_; rintro e w' ⟨rfl, rfl⟩) | (go_at_call 70; refine Calls.mono HPUT.out ?_; rintro e w3 ⟨rfl, h, j1, j2, j3⟩)))
  have HJ : Hid _ := And.intro j1 j3
  have HT : Hid (w3.cell? ⟨B, 76, none⟩ = some (.bool false) ∧ w3.frozen? ⟨B, 76, none⟩ = false) := ⟨j2.top.1.trans HC0.out.1, j2.top.2.trans HC0.out.2⟩
  have HM : Hid (Chg B w2 w3) := (Chg.refl B w2).drew.trans j2.chg
  have HTP : Hid (∀ j, 77 ≤ j → w3.cell? ⟨B, j, none⟩ = none) := fun j hj => (j2.high j (by omega)).trans (HB.out.top j hj)
  clear j1 j2 j3
  go_wp2_with fail
  refine (settle_any B h _ _ HJ.out.1 HJ.out.2 HT.out.1 HT.out.2 HTP.out).mono ?_
  rintro e w4 ⟨rfl, s1, s2⟩
  have HS : Hid _ := And.intro s1 s2
  clear s1 s2
  go_wp2_with fail
  go_end0
  exact ⟨rfl, by rw [HE.out]; exact HS.out.1, HM.out.trans HS.out.2⟩
theorem accProd_any (B : Nat) (o : Option Int) (a b : Nat) (n : Int) (ha : a < 18446744073709551616) (hb : b < 18446744073709551616) (w : World) (hB : AccO w B o) :
    Calls Try.prog 50 #[.pointer (some ⟨B, 0, none⟩), .float .f64 a, .float .f64 b, .int .i64 n] w fun e w' => e = .returned (.tuple #[]) ∧ AccO w' B (prodO o a b n) ∧ Chg B w w' := by
  by_cases h : o ≠ none ∧ Fin a ∧ Fin b ∧ -64 ≤ n ∧ n ≤ 64
  · obtain ⟨h0, h1, h2, h3, h4⟩ := h
    cases o with
    | none => exact absurd rfl h0
    | some z =>
      have : prodO (some z) a b n = holdZ (z + prodZ a b n) := if_pos ⟨h1, h2, h3, h4⟩
      rw [this]
      exact prod_adds B z a b n ha hb w hB h1 h2 h3 h4
  · have : prodO o a b n = none := by
      cases o with
      | none => rfl
      | some z => exact if_neg (fun c => h ⟨by simp, c⟩)
    rw [this]
    exact prod_spoils B o a b n ha hb w hB h
set_option maxRecDepth 100000 in
theorem accAdd_any (B : Nat) (o : Option Int) (a : Nat) (ha : a < 18446744073709551616) (w : World) (hB : AccO w B o) :
    Calls Try.prog 49 #[.pointer (some ⟨B, 0, none⟩), .float .f64 a] w fun e w' => e = .returned (.tuple #[]) ∧ AccO w' B (prodO o a 4607182418800017408 0) ∧ Chg B w w' := by
  have HB : Hid _ := hB
  clear hB
  go_enter Try.func49, Try.ntmps49
  go_wp2_with fail
  refine (accProd_any B o a 4607182418800017408 0 ha (by omega) _ HB.out).mono ?_
  rintro e w1 ⟨rfl, h1, h2⟩
  have HS : Hid _ := And.intro h1 h2
  clear h1 h2
  go_wp2_with fail
  go_end0
  exact ⟨rfl, HS.out.1, HS.out.2⟩
end Go.Proofs.Ytoehhnildocihaa

namespace Go.Proofs.Ytoehhnildocihaa
open Go.RowKit
set_option linter.unusedVariables false
theorem dig_take_set {zs : List Nat} {k v : Nat} (hk : k < zs.length) : dig ((zs.set k v).take (k + 1)) = dig (zs.take k) + wd k * v := by
  rw [dig_take_succ (by rw [List.length_set]; exact hk), List.take_set_of_le (by omega), List.getElem?_set, if_pos rfl, if_pos hk]
  rfl
theorem dig_take_more {ys : List Nat} {k : Nat} : dig (ys.take (k + 1)) = dig (ys.take k) + wd k * ys[k]?.getD 0 := by
  by_cases h : k < ys.length
  · exact dig_take_succ h
  · rw [List.take_of_length_le (by omega), List.take_of_length_le (by omega), List.getElem?_eq_none (by omega)]; simp
set_option maxRecDepth 100000 in
set_option maxHeartbeats 2000000 in
theorem plus_core (ao : Option Addr) (len cap : Nat) (xs : List Nat) (bo : Option Addr) (blen bcap : Nat) (ys : List Nat) (w : World) (hx : Rd4 w ao len cap xs) (hy : Rd4 w bo blen bcap ys) (hl : len ≤ 10000) (hll : blen ≤ len) :
    Calls Try.prog 61 #[.slice ao len cap, .slice bo blen bcap] w fun e w' => ∃ ao' k cap' zs, e = .returned (.slice ao' k cap') ∧ Rd4 w' ao' k cap' zs ∧ Nm zs ∧ dig zs = dig xs + dig ys ∧ Below w.heap.size w w' ∧ k ≤ len + 1 := by
  have hdl : decide (len < blen) = false := decide_eq_false (by omega)
  have h1 := hx.le
  have h2 := hx.max
  have h3 := hy.le
  have h4 := hy.max
  obtain ⟨w1, hmk, hO, hB1⟩ := make4 w (len + 1) (by omega)
  have hmk' := hmk ((len : Int) + 1) (by omega)
  have HX : Hid _ := hx
  have HY : Hid _ := hy
  have HO : Hid _ := hO
  have HB1 : Hid _ := hB1
  clear hmk hx hy hO hB1
  go_enter Try.func61, Try.ntmps61
  go_wp2_with fail
  go_loopg [6, 7] len (fun gg c i wx => ∃ (k cc : Nat) (zs : List Nat), k ≤ len ∧ i = .int .i64 k ∧ c = .int .u64 cc ∧ cc ≤ 1 ∧ Hid (Own4 wx w.heap.size w.heap.size (len + 1) zs) ∧ Hid (Below w.heap.size w wx) ∧ Hid (U4 zs) ∧ Hid (dig (zs.take k) + wd k * cc = dig (xs.take k) + dig (ys.take k)) ∧ len ≤ k + gg)
  case atStart =>
    refine ⟨0, 0, List.replicate (len + 1) 0, by omega, rfl, rfl, by omega, HO, HB1, ?_, ?_, by omega⟩
    · intro x hx; rw [List.eq_of_mem_replicate hx]; decide
    · unfold Hid; simp [dig]
  case round =>
    obtain ⟨k, cc, zs, hk, rfl, rfl, hcc, HOz, HBz, HUz, HDz, hfu⟩ := hrel
    by_cases hlt : k < len
    · obtain ⟨fu, rfl⟩ : ∃ g, gk = g + 1 := ⟨gk - 1, by omega⟩
      rcases HX.out.cells with hh | ⟨b, off, rfl, hc⟩
      · omega
      have g := (HBz.out.cell (World.block_lt_of_cell? w _ (hc k hlt))).trans (hc k hlt)
      have hxb := HX.out.lt.at k
      have gz := HOz.out.cell k (by omega)
      have gf := HOz.out.frozen k
      have HSET : Hid _ := HOz.out.set k
      have HTX : Hid _ := dig_take_more (ys := xs) (k := k)
      have HTY : Hid _ := dig_take_more (ys := ys) (k := k)
      clear hc
      generalize xs[k]?.getD 0 = x at *
      by_cases hkb : k < blen
      · rcases HY.out.cells with hh | ⟨b2, off2, rfl, hc2⟩
        · omega
        have g2 := (HBz.out.cell (World.block_lt_of_cell? w _ (hc2 k hkb))).trans (hc2 k hkb)
        have hyb := HY.out.lt.at k
        clear hc2
        generalize ys[k]?.getD 0 = y at *
        obtain ⟨S, hS⟩ : ∃ S : Nat, cc + x + y = S := ⟨_, rfl⟩
        have hSi : (cc : Int) + x + y = (S : Int) := by omega
        have hSb : S < 8589934592 := by omega
        · have HS0 : Hid _ := hS
          clear hS
          have hS := HS0.out
          go_wp2_with fail
          go_roundg fu
          case rel =>
            refine ⟨k + 1, S / 4294967296, zs.set k (S % 4294967296), by omega, by go_num, by go_num, by omega, HSET.out _, below_set HBz.out (Nat.le_refl _), HUz.out.set k _ (Nat.mod_lt _ (by decide)), ?_, by omega⟩
            unfold Hid
            rw [dig_take_set (by rw [HOz.out.1]; omega), HTX.out, HTY.out, wd_succ]
            have hk0 := HDz.out
            have e1 := Nat.div_add_mod S 4294967296
            have e2 : wd k * S = wd k * cc + wd k * x + wd k * y := by rw [← hS, Nat.mul_add, Nat.mul_add]
            have e3 : wd k * S = 4294967296 * wd k * (S / 4294967296) + wd k * (S % 4294967296) := by
              rw [Nat.mul_comm 4294967296, Nat.mul_assoc, ← Nat.mul_add, e1]
            omega
          case measure => omega
      · have hy0 : ys[k]?.getD 0 = 0 := by rw [List.getElem?_eq_none (by rw [HY.out.length]; omega)]; rfl
        rw [hy0] at HTY
        obtain ⟨y, hy⟩ : ∃ y : Nat, y = 0 := ⟨_, rfl⟩
        rw [← hy] at HTY
        obtain ⟨S, hS⟩ : ∃ S : Nat, cc + x + y = S := ⟨_, rfl⟩
        have hSi : (cc : Int) + x = (S : Int) := by omega
        have hSb : S < 8589934592 := by omega
        · clear hy
          go_wp2_with fail
          go_roundg fu
          case rel =>
            refine ⟨k + 1, S / 4294967296, zs.set k (S % 4294967296), by omega, by go_num, by go_num, by omega, HSET.out _, below_set HBz.out (Nat.le_refl _), HUz.out.set k _ (Nat.mod_lt _ (by decide)), ?_, by omega⟩
            unfold Hid
            rw [dig_take_set (by rw [HOz.out.1]; omega), HTX.out, HTY.out, wd_succ]
            have hk0 := HDz.out
            have e1 := Nat.div_add_mod S 4294967296
            have e2 : wd k * S = wd k * cc + wd k * x + wd k * y := by rw [← hS, Nat.mul_add, Nat.mul_add]
            have e3 : wd k * S = 4294967296 * wd k * (S / 4294967296) + wd k * (S % 4294967296) := by
              rw [Nat.mul_comm 4294967296, Nat.mul_assoc, ← Nat.mul_add, e1]
            omega
          case measure => omega
    · obtain rfl : k = len := by omega
      have gz := HOz.out.cell k (by omega)
      have gf := HOz.out.frozen k
      have HSET : Hid _ := HOz.out.set k cc
      have HU2 : Hid (U4 (zs.set k cc)) := HUz.out.set k cc (by omega)
      have HDF : Hid (dig (zs.set k cc) = dig xs + dig ys) := by
        unfold Hid
        have e1 := dig_take_set (zs := zs) (k := k) (v := cc) (by rw [HOz.out.1]; omega)
        rw [List.take_of_length_le (by rw [List.length_set, HOz.out.1]; exact Nat.le_refl _)] at e1
        rw [e1, HDz.out, List.take_of_length_le (by rw [HX.out.length]; exact Nat.le_refl _), List.take_of_length_le (by rw [HY.out.length]; omega)]
      have hcm : (cc : Int) % 4294967296 = (cc : Int) := by omega
      go_wp2_with fail
      refine (trim_any _ _ _ (zs.set k cc) _ (Own4.rd HSET.out HU2.out (by omega))).mono ?_
      rintro e w' ⟨ao', m, rfl, rfl, hr', hm', hnm, hdg⟩
      go_wp2_with fail
      go_ret
      exact ⟨ao', m, _, _, rfl, hr', hnm, by rw [hdg, HDF.out], below_set HBz.out (Nat.le_refl _), by omega⟩
set_option maxRecDepth 100000 in
set_option maxHeartbeats 2000000 in
theorem plus_swap (ao : Option Addr) (len cap : Nat) (xs : List Nat) (bo : Option Addr) (blen bcap : Nat) (ys : List Nat) (w : World) (hx : Rd4 w ao len cap xs) (hy : Rd4 w bo blen bcap ys) (hl : len ≤ 10000) (hll : blen < len) :
    Calls Try.prog 61 #[.slice bo blen bcap, .slice ao len cap] w fun e w' => ∃ ao' k cap' zs, e = .returned (.slice ao' k cap') ∧ Rd4 w' ao' k cap' zs ∧ Nm zs ∧ dig zs = dig xs + dig ys ∧ Below w.heap.size w w' ∧ k ≤ len + 1 := by
  have hdl : decide (blen < len) = true := decide_eq_true (by omega)
  have h1 := hx.le
  have h2 := hx.max
  have h3 := hy.le
  have h4 := hy.max
  obtain ⟨w1, hmk, hO, hB1⟩ := make4 w (len + 1) (by omega)
  have hmk' := hmk ((len : Int) + 1) (by omega)
  have HX : Hid _ := hx
  have HY : Hid _ := hy
  have HO : Hid _ := hO
  have HB1 : Hid _ := hB1
  clear hmk hx hy hO hB1
  go_enter Try.func61, Try.ntmps61
  go_wp2_with fail
  go_loopg [6, 7] len (fun gg c i wx => ∃ (k cc : Nat) (zs : List Nat), k ≤ len ∧ i = .int .i64 k ∧ c = .int .u64 cc ∧ cc ≤ 1 ∧ Hid (Own4 wx w.heap.size w.heap.size (len + 1) zs) ∧ Hid (Below w.heap.size w wx) ∧ Hid (U4 zs) ∧ Hid (dig (zs.take k) + wd k * cc = dig (xs.take k) + dig (ys.take k)) ∧ len ≤ k + gg)
  case atStart =>
    refine ⟨0, 0, List.replicate (len + 1) 0, by omega, rfl, rfl, by omega, HO, HB1, ?_, ?_, by omega⟩
    · intro x hx; rw [List.eq_of_mem_replicate hx]; decide
    · unfold Hid; simp [dig]
  case round =>
    obtain ⟨k, cc, zs, hk, rfl, rfl, hcc, HOz, HBz, HUz, HDz, hfu⟩ := hrel
    by_cases hlt : k < len
    · obtain ⟨fu, rfl⟩ : ∃ g, gk = g + 1 := ⟨gk - 1, by omega⟩
      rcases HX.out.cells with hh | ⟨b, off, rfl, hc⟩
      · omega
      have g := (HBz.out.cell (World.block_lt_of_cell? w _ (hc k hlt))).trans (hc k hlt)
      have hxb := HX.out.lt.at k
      have gz := HOz.out.cell k (by omega)
      have gf := HOz.out.frozen k
      have HSET : Hid _ := HOz.out.set k
      have HTX : Hid _ := dig_take_more (ys := xs) (k := k)
      have HTY : Hid _ := dig_take_more (ys := ys) (k := k)
      clear hc
      generalize xs[k]?.getD 0 = x at *
      by_cases hkb : k < blen
      · rcases HY.out.cells with hh | ⟨b2, off2, rfl, hc2⟩
        · omega
        have g2 := (HBz.out.cell (World.block_lt_of_cell? w _ (hc2 k hkb))).trans (hc2 k hkb)
        have hyb := HY.out.lt.at k
        clear hc2
        generalize ys[k]?.getD 0 = y at *
        obtain ⟨S, hS⟩ : ∃ S : Nat, cc + x + y = S := ⟨_, rfl⟩
        have hSi : (cc : Int) + x + y = (S : Int) := by omega
        have hSb : S < 8589934592 := by omega
        · have HS0 : Hid _ := hS
          clear hS
          have hS := HS0.out
          go_wp2_with fail
          go_roundg fu
          case rel =>
            refine ⟨k + 1, S / 4294967296, zs.set k (S % 4294967296), by omega, by go_num, by go_num, by omega, HSET.out _, below_set HBz.out (Nat.le_refl _), HUz.out.set k _ (Nat.mod_lt _ (by decide)), ?_, by omega⟩
            unfold Hid
            rw [dig_take_set (by rw [HOz.out.1]; omega), HTX.out, HTY.out, wd_succ]
            have hk0 := HDz.out
            have e1 := Nat.div_add_mod S 4294967296
            have e2 : wd k * S = wd k * cc + wd k * x + wd k * y := by rw [← hS, Nat.mul_add, Nat.mul_add]
            have e3 : wd k * S = 4294967296 * wd k * (S / 4294967296) + wd k * (S % 4294967296) := by
              rw [Nat.mul_comm 4294967296, Nat.mul_assoc, ← Nat.mul_add, e1]
            omega
          case measure => omega
      · have hy0 : ys[k]?.getD 0 = 0 := by rw [List.getElem?_eq_none (by rw [HY.out.length]; omega)]; rfl
        rw [hy0] at HTY
        obtain ⟨y, hy⟩ : ∃ y : Nat, y = 0 := ⟨_, rfl⟩
        rw [← hy] at HTY
        obtain ⟨S, hS⟩ : ∃ S : Nat, cc + x + y = S := ⟨_, rfl⟩
        have hSi : (cc : Int) + x = (S : Int) := by omega
        have hSb : S < 8589934592 := by omega
        · clear hy
          go_wp2_with fail
          go_roundg fu
          case rel =>
            refine ⟨k + 1, S / 4294967296, zs.set k (S % 4294967296), by omega, by go_num, by go_num, by omega, HSET.out _, below_set HBz.out (Nat.le_refl _), HUz.out.set k _ (Nat.mod_lt _ (by decide)), ?_, by omega⟩
            unfold Hid
            rw [dig_take_set (by rw [HOz.out.1]; omega), HTX.out, HTY.out, wd_succ]
            have hk0 := HDz.out
            have e1 := Nat.div_add_mod S 4294967296
            have e2 : wd k * S = wd k * cc + wd k * x + wd k * y := by rw [← hS, Nat.mul_add, Nat.mul_add]
            have e3 : wd k * S = 4294967296 * wd k * (S / 4294967296) + wd k * (S % 4294967296) := by
              rw [Nat.mul_comm 4294967296, Nat.mul_assoc, ← Nat.mul_add, e1]
            omega
          case measure => omega
    · obtain rfl : k = len := by omega
      have gz := HOz.out.cell k (by omega)
      have gf := HOz.out.frozen k
      have HSET : Hid _ := HOz.out.set k cc
      have HU2 : Hid (U4 (zs.set k cc)) := HUz.out.set k cc (by omega)
      have HDF : Hid (dig (zs.set k cc) = dig xs + dig ys) := by
        unfold Hid
        have e1 := dig_take_set (zs := zs) (k := k) (v := cc) (by rw [HOz.out.1]; omega)
        rw [List.take_of_length_le (by rw [List.length_set, HOz.out.1]; exact Nat.le_refl _)] at e1
        rw [e1, HDz.out, List.take_of_length_le (by rw [HX.out.length]; exact Nat.le_refl _), List.take_of_length_le (by rw [HY.out.length]; omega)]
      have hcm : (cc : Int) % 4294967296 = (cc : Int) := by omega
      go_wp2_with fail
      refine (trim_any _ _ _ (zs.set k cc) _ (Own4.rd HSET.out HU2.out (by omega))).mono ?_
      rintro e w' ⟨ao', m, rfl, rfl, hr', hm', hnm, hdg⟩
      go_wp2_with fail
      go_ret
      exact ⟨ao', m, _, _, rfl, hr', hnm, by rw [hdg, HDF.out], below_set HBz.out (Nat.le_refl _), by omega⟩
theorem plus_any (ao : Option Addr) (len cap : Nat) (xs : List Nat) (bo : Option Addr) (blen bcap : Nat) (ys : List Nat) (w : World) (hx : Rd4 w ao len cap xs) (hy : Rd4 w bo blen bcap ys) (hl : len ≤ 10000) (hl2 : blen ≤ 10000) :
    Calls Try.prog 61 #[.slice ao len cap, .slice bo blen bcap] w fun e w' => ∃ ao' k cap' zs, e = .returned (.slice ao' k cap') ∧ Rd4 w' ao' k cap' zs ∧ Nm zs ∧ dig zs = dig xs + dig ys ∧ Below w.heap.size w w' ∧ k ≤ max len blen + 1 := by
  by_cases h : blen ≤ len
  · refine (plus_core ao len cap xs bo blen bcap ys w hx hy hl h).mono ?_
    rintro e w' ⟨ao', k, cap', zs, h1, h2, h3, h4, h5, h6⟩
    exact ⟨ao', k, cap', zs, h1, h2, h3, h4, h5, by omega⟩
  · refine (plus_swap bo blen bcap ys ao len cap xs w hy hx hl2 (by omega)).mono ?_
    rintro e w' ⟨ao', k, cap', zs, h1, h2, h3, h4, h5, h6⟩
    exact ⟨ao', k, cap', zs, h1, h2, h3, by rw [h4, Nat.add_comm], h5, by omega⟩
end Go.Proofs.Ytoehhnildocihaa

namespace Go.Proofs.Ytoehhnildocihaa
open Go.RowKit
set_option linter.unusedVariables false
set_option maxRecDepth 100000 in
set_option maxHeartbeats 2000000 in
theorem minus_any (ao : Option Addr) (len cap : Nat) (xs : List Nat) (bo : Option Addr) (blen bcap : Nat) (ys : List Nat) (w : World) (hx : Rd4 w ao len cap xs) (hy : Rd4 w bo blen bcap ys) (hl : len ≤ 10000) (hll : blen ≤ len) (hdd : dig ys ≤ dig xs) :
    Calls Try.prog 63 #[.slice ao len cap, .slice bo blen bcap] w fun e w' => ∃ ao' k cap' zs, e = .returned (.slice ao' k cap') ∧ Rd4 w' ao' k cap' zs ∧ Nm zs ∧ dig zs = dig xs - dig ys ∧ Below w.heap.size w w' ∧ k ≤ len := by
  have h1 := hx.le
  have h2 := hx.max
  have h3 := hy.le
  have h4 := hy.max
  obtain ⟨w1, hmk, hO, hB1⟩ := make4 w len (by omega)
  have hmk' := hmk (len : Int) rfl
  have HX : Hid _ := hx
  have HY : Hid _ := hy
  have HO : Hid _ := hO
  have HB1 : Hid _ := hB1
  clear hmk hx hy hO hB1
  go_enter Try.func63, Try.ntmps63
  go_wp2_with fail
  go_loopg [6, 7] len (fun gg c i wx => ∃ (k cc : Nat) (zs : List Nat), k ≤ len ∧ i = .int .i64 k ∧ c = .int .u64 cc ∧ cc ≤ 1 ∧ Hid (Own4 wx w.heap.size w.heap.size len zs) ∧ Hid (Below w.heap.size w wx) ∧ Hid (U4 zs) ∧ Hid (dig (xs.take k) + wd k * cc = dig (zs.take k) + dig (ys.take k)) ∧ len ≤ k + gg)
  case atStart =>
    refine ⟨0, 0, List.replicate len 0, by omega, rfl, rfl, by omega, HO, HB1, ?_, ?_, by omega⟩
    · intro x hx; rw [List.eq_of_mem_replicate hx]; decide
    · unfold Hid; simp [dig]
  case round =>
    obtain ⟨k, cc, zs, hk, rfl, rfl, hcc, HOz, HBz, HUz, HDz, hfu⟩ := hrel
    by_cases hlt : k < len
    · obtain ⟨fu, rfl⟩ : ∃ g, gk = g + 1 := ⟨gk - 1, by omega⟩
      rcases HX.out.cells with hh | ⟨b, off, rfl, hc⟩
      · omega
      have g := (HBz.out.cell (World.block_lt_of_cell? w _ (hc k hlt))).trans (hc k hlt)
      have hxb := HX.out.lt.at k
      have gz := HOz.out.cell k (by omega)
      have gf := HOz.out.frozen k
      have HSET : Hid _ := HOz.out.set k
      have HTX : Hid _ := dig_take_more (ys := xs) (k := k)
      have HTY : Hid _ := dig_take_more (ys := ys) (k := k)
      clear hc
      generalize xs[k]?.getD 0 = y at *
      by_cases hkb : k < blen
      · rcases HY.out.cells with hh | ⟨b2, off2, rfl, hc2⟩
        · omega
        have g2 := (HBz.out.cell (World.block_lt_of_cell? w _ (hc2 k hkb))).trans (hc2 k hkb)
        have hyb := HY.out.lt.at k
        clear hc2
        generalize ys[k]?.getD 0 = z at *
        obtain ⟨X, hX⟩ : ∃ X : Nat, cc + z = X := ⟨_, rfl⟩
        have hXi : (cc : Int) + z = (X : Int) := by omega
        have hXb : X ≤ 4294967296 := by omega
        by_cases hbr : y < X
        · have hv : (y : Int) + 4294967296 - (X : Int) = ((y + 4294967296 - X : Nat) : Int) := by omega
          obtain ⟨V, hV⟩ : ∃ V : Nat, y + 4294967296 - X = V := ⟨_, rfl⟩
          rw [hV] at hv
          have hVb : V < 4294967296 := by omega
          go_wp2_with fail
          go_roundg fu
          case rel =>
            refine ⟨k + 1, 1, zs.set k V, by omega, by go_num, rfl, by omega, HSET.out _, below_set HBz.out (Nat.le_refl _), HUz.out.set k _ hVb, ?_, by omega⟩
            unfold Hid
            rw [dig_take_set (by rw [HOz.out.1]; omega), HTX.out, HTY.out, wd_succ]
            have hk0 := HDz.out
            have e1 : wd k * y + wd k * 4294967296 = wd k * V + (wd k * cc + wd k * z) := by rw [← Nat.mul_add, ← Nat.mul_add, ← Nat.mul_add]; congr 1; omega
            have e2 : 4294967296 * wd k * 1 = wd k * 4294967296 := by rw [Nat.mul_one, Nat.mul_comm]
            omega
          case measure => omega
        · have hv : (y : Int) - (X : Int) = ((y - X : Nat) : Int) := by omega
          obtain ⟨V, hV⟩ : ∃ V : Nat, y - X = V := ⟨_, rfl⟩
          rw [hV] at hv
          have hVb : V < 4294967296 := by omega
          go_wp2_with fail
          go_roundg fu
          case rel =>
            refine ⟨k + 1, 0, zs.set k V, by omega, by go_num, rfl, by omega, HSET.out _, below_set HBz.out (Nat.le_refl _), HUz.out.set k _ hVb, ?_, by omega⟩
            unfold Hid
            rw [dig_take_set (by rw [HOz.out.1]; omega), HTX.out, HTY.out, wd_succ]
            have hk0 := HDz.out
            have e1 : wd k * y = wd k * V + (wd k * cc + wd k * z) := by rw [← Nat.mul_add, ← Nat.mul_add]; congr 1; omega
            have e2 : 4294967296 * wd k * 0 = 0 := Nat.mul_zero _
            omega
          case measure => omega
      · have hy0 : ys[k]?.getD 0 = 0 := by rw [List.getElem?_eq_none (by rw [HY.out.length]; omega)]; rfl
        rw [hy0] at HTY
        obtain ⟨z, hz⟩ : ∃ z : Nat, z = 0 := ⟨_, rfl⟩
        rw [← hz] at HTY
        obtain ⟨X, hX⟩ : ∃ X : Nat, X = cc := ⟨_, rfl⟩
        have hXc : cc + z = X := by omega
        clear hz
        subst hX
        by_cases hbr : y < X
        · have hv : (y : Int) + 4294967296 - (X : Int) = ((y + 4294967296 - X : Nat) : Int) := by omega
          obtain ⟨V, hV⟩ : ∃ V : Nat, y + 4294967296 - X = V := ⟨_, rfl⟩
          rw [hV] at hv
          have hVb : V < 4294967296 := by omega
          go_wp2_with fail
          go_roundg fu
          case rel =>
            refine ⟨k + 1, 1, zs.set k V, by omega, by go_num, rfl, by omega, HSET.out _, below_set HBz.out (Nat.le_refl _), HUz.out.set k _ hVb, ?_, by omega⟩
            unfold Hid
            rw [dig_take_set (by rw [HOz.out.1]; omega), HTX.out, HTY.out, wd_succ]
            have hk0 := HDz.out
            have e1 : wd k * y + wd k * 4294967296 = wd k * V + (wd k * X + wd k * z) := by rw [← Nat.mul_add, ← Nat.mul_add, ← Nat.mul_add]; congr 1; omega
            have e2 : 4294967296 * wd k * 1 = wd k * 4294967296 := by rw [Nat.mul_one, Nat.mul_comm]
            omega
          case measure => omega
        · have hv : (y : Int) - (X : Int) = ((y - X : Nat) : Int) := by omega
          obtain ⟨V, hV⟩ : ∃ V : Nat, y - X = V := ⟨_, rfl⟩
          rw [hV] at hv
          have hVb : V < 4294967296 := by omega
          go_wp2_with fail
          go_roundg fu
          case rel =>
            refine ⟨k + 1, 0, zs.set k V, by omega, by go_num, rfl, by omega, HSET.out _, below_set HBz.out (Nat.le_refl _), HUz.out.set k _ hVb, ?_, by omega⟩
            unfold Hid
            rw [dig_take_set (by rw [HOz.out.1]; omega), HTX.out, HTY.out, wd_succ]
            have hk0 := HDz.out
            have e1 : wd k * y = wd k * V + (wd k * X + wd k * z) := by rw [← Nat.mul_add, ← Nat.mul_add]; congr 1; omega
            have e2 : 4294967296 * wd k * 0 = 0 := Nat.mul_zero _
            omega
          case measure => omega
    · obtain rfl : k = len := by omega
      have HTX : Hid (xs.take k = xs) := by unfold Hid; exact List.take_of_length_le (by rw [HX.out.length]; omega)
      have HDF : Hid (dig zs = dig xs - dig ys) := by
        unfold Hid
        have e1 := HDz.out
        have e2 := dig_lt HUz.out
        rw [HOz.out.1] at e2
        rw [HTX.out, List.take_of_length_le (by rw [HOz.out.1]; omega), List.take_of_length_le (by rw [HY.out.length]; omega)] at e1
        have e3 : cc = 0 := by
          rcases Nat.eq_zero_or_pos cc with h | h
          · exact h
          · have : cc = 1 := by omega
            rw [this, Nat.mul_one] at e1; omega
        rw [e3, Nat.mul_zero] at e1
        omega
      go_wp2_with fail
      refine (trim_any _ _ _ zs _ (Own4.rd HOz.out HUz.out (by omega))).mono ?_
      rintro e w' ⟨ao', m, rfl, rfl, hr', hm', hnm, hdg⟩
      go_wp2_with fail
      go_ret
      exact ⟨ao', m, _, _, rfl, hr', hnm, by rw [hdg, HDF.out], HBz.out, by omega⟩
end Go.Proofs.Ytoehhnildocihaa

namespace Go.Proofs.Ytoehhnildocihaa
open Go.RowKit
set_option linter.unusedVariables false
def cmpN (m n : Nat) : Int := if m < n then -1 else if m = n then 0 else 1
theorem shorter_lt {xs ys : List Nat} (hx : U4 xs) (hy : U4 ys) (hn : Nm ys) (hl : xs.length < ys.length) : dig xs < dig ys := by
  have h1 := dig_lt hx
  have e := dig_take_succ (xs := ys) (k := ys.length - 1) (by omega)
  rw [show ys.length - 1 + 1 = ys.length by omega, List.take_length] at e
  have h2 : ys[ys.length - 1]?.getD 0 ≠ 0 := by
    rcases hn with h | h
    · rw [h] at hl; simp at hl
    · exact h
  have h3 : wd (ys.length - 1) * 1 ≤ wd (ys.length - 1) * ys[ys.length - 1]?.getD 0 := Nat.mul_le_mul_left _ (by omega)
  have h4 : wd xs.length ≤ wd (ys.length - 1) := by unfold wd; exact Nat.pow_le_pow_right (by omega) (by omega)
  omega
theorem upper_lt {xs ys : List Nat} {k : Nat} (hx : U4 xs) (hy : U4 ys) (hl : k < xs.length) (hl2 : k < ys.length) (hd : dig (xs.drop (k + 1)) = dig (ys.drop (k + 1))) (h : xs[k]?.getD 0 < ys[k]?.getD 0) : dig xs < dig ys := by
  have e1 := dig_split xs k
  have e2 := dig_split ys k
  have b1 := dig_lt (hx.take k)
  rw [List.length_take, Nat.min_eq_left (by omega)] at e1 e2 b1
  rw [dig_drop_pred, hd] at e1
  rw [dig_drop_pred] at e2
  generalize xs[k]?.getD 0 = x at *
  generalize ys[k]?.getD 0 = y at *
  generalize dig (ys.drop (k + 1)) = D at *
  have h5 : wd k * (x + 4294967296 * D) + wd k ≤ wd k * (y + 4294967296 * D) := by
    rw [← Nat.mul_succ]; exact Nat.mul_le_mul_left _ (by omega)
  omega
set_option maxRecDepth 100000 in
set_option maxHeartbeats 1000000 in
theorem cmp_any (ao : Option Addr) (len cap : Nat) (xs : List Nat) (bo : Option Addr) (blen bcap : Nat) (ys : List Nat) (w : World) (hx : Rd4 w ao len cap xs) (hy : Rd4 w bo blen bcap ys) (hnx : Nm xs) (hny : Nm ys) :
    Calls Try.prog 62 #[.slice ao len cap, .slice bo blen bcap] w fun e w' => e = .returned (.int .i64 (cmpN (dig xs) (dig ys))) ∧ Below w.heap.size w w' := by
  have h1 := hx.le
  have h2 := hx.max
  have h3 := hy.le
  have h4 := hy.max
  by_cases hlt : len < blen
  · have hc : cmpN (dig xs) (dig ys) = -1 := by unfold cmpN; rw [if_pos (shorter_lt hx.lt hy.lt hny (by rw [hx.length, hy.length]; exact hlt))]
    rw [hc]
    clear hx hy hnx hny hc
    go_enter Try.func62, Try.ntmps62
    go_wp2
    go_ret
    exact ⟨rfl, Below.refl _ _⟩
  · by_cases hgt : blen < len
    · have hl := shorter_lt hy.lt hx.lt hnx (by rw [hx.length, hy.length]; exact hgt)
      have hc : cmpN (dig xs) (dig ys) = 1 := by unfold cmpN; rw [if_neg (by omega), if_neg (by omega)]
      rw [hc]
      clear hx hy hnx hny hc hl
      go_enter Try.func62, Try.ntmps62
      go_wp2
      go_ret
      exact ⟨rfl, Below.refl _ _⟩
    · obtain rfl : len = blen := by omega
      have HX : Hid _ := hx
      have HY : Hid _ := hy
      have hbb : ((len : Int) != (len : Int)) = false := by simp
      clear hx hy hlt hgt hnx hny
      go_enter Try.func62, Try.ntmps62
      go_wp2_with fail
      go_loopg [5] len (fun gg i wx => ∃ k : Nat, k ≤ len ∧ i = .int .i64 ((k : Int) - 1) ∧ Hid (dig (xs.drop k) = dig (ys.drop k)) ∧ Hid (Below w.heap.size w wx) ∧ k ≤ gg)
      case atStart => exact ⟨len, by omega, rfl, by unfold Hid; rw [List.drop_of_length_le (by rw [HX.out.length]; omega), List.drop_of_length_le (by rw [HY.out.length]; omega)], Below.refl _ _, by omega⟩
      case round =>
        obtain ⟨k, hk, rfl, HD, HB, hfu⟩ := hrel
        cases k with
        | zero =>
          have hz : ((0 : Nat) : Int) - 1 = -1 := rfl
          rw [hz]
          have hc : cmpN (dig xs) (dig ys) = 0 := by
            have := HD.out
            rw [List.drop_zero, List.drop_zero] at this
            unfold cmpN; rw [this, if_neg (by omega), if_pos rfl]
          have HCM : Hid _ := hc
          clear hc
          go_wp2_with fail
          go_ret
          exact ⟨by rw [HCM.out]; rfl, HB.out⟩
        | succ k =>
          obtain ⟨fu, rfl⟩ : ∃ g, gk = g + 1 := ⟨gk - 1, by omega⟩
          rcases HX.out.cells with hh | ⟨b, off, rfl, hc⟩
          · omega
          rcases HY.out.cells with hh | ⟨b2, off2, rfl, hc2⟩
          · omega
          have g := (HB.out.cell (World.block_lt_of_cell? w _ (hc k (by omega)))).trans (hc k (by omega))
          have g2 := (HB.out.cell (World.block_lt_of_cell? w _ (hc2 k (by omega)))).trans (hc2 k (by omega))
          have hxb := HX.out.lt.at k
          have hyb := HY.out.lt.at k
          have HLT : Hid (xs[k]?.getD 0 < ys[k]?.getD 0 → dig xs < dig ys) := fun h => upper_lt HX.out.lt HY.out.lt (by rw [HX.out.length]; omega) (by rw [HY.out.length]; omega) HD.out h
          have HGT : Hid (ys[k]?.getD 0 < xs[k]?.getD 0 → dig ys < dig xs) := fun h => upper_lt HY.out.lt HX.out.lt (by rw [HY.out.length]; omega) (by rw [HX.out.length]; omega) HD.out.symm h
          have HEQ : Hid (xs[k]?.getD 0 = ys[k]?.getD 0 → dig (xs.drop k) = dig (ys.drop k)) := fun h => by rw [dig_drop_pred, dig_drop_pred (xs := ys), h, HD.out]
          clear hc hc2
          generalize xs[k]?.getD 0 = x at *
          generalize ys[k]?.getD 0 = y at *
          have hz : ((k + 1 : Nat) : Int) - 1 = (k : Int) := by omega
          rw [hz]
          by_cases h5 : x < y
          · have hcm : cmpN (dig xs) (dig ys) = -1 := by unfold cmpN; rw [if_pos (HLT.out h5)]
            have HCM : Hid _ := hcm
            clear hcm
            go_wp2_with fail
            go_region
            go_wp2_with fail
            go_ret
            exact ⟨by rw [HCM.out]; rfl, HB.out.drew⟩
          · by_cases h6 : y < x
            · have hcm : cmpN (dig xs) (dig ys) = 1 := by have := HGT.out h6; unfold cmpN; rw [if_neg (by omega), if_neg (by omega)]
              have HCM : Hid _ := hcm
              clear hcm
              go_wp2_with fail
              go_region
              go_wp2_with fail
              go_region
              go_wp2_with fail
              go_ret
              exact ⟨by rw [HCM.out]; rfl, HB.out.drew.drew⟩
            · obtain rfl : x = y := by omega
              go_wp2_with fail
              go_region
              go_wp2_with fail
              go_region
              go_wp2_with fail
              go_roundg fu
              case rel => exact ⟨k, by omega, rfl, HEQ.out trivial, HB.out.drew.drew, by omega⟩
              case measure => omega
end Go.Proofs.Ytoehhnildocihaa

namespace Go.Proofs.Ytoehhnildocihaa
open Go.RowKit
set_option linter.unusedVariables false
set_option maxRecDepth 100000 in
theorem turned_any (v : Value) (neg : Bool) (m : Nat) (e : Int) (w : World) (h : NumV w v neg m e) :
    Calls Try.prog 78 #[v] w fun e' w' => ∃ v', e' = .returned v' ∧ NumV w' v' (if m = 0 then neg else !neg) m e ∧ Below w.heap.size w w' := by
  obtain ⟨ao, len, cap, xs, rfl, hr, hnm, hm⟩ := h
  have hz := len_zero hr.length hr.lt hnm
  rw [hm] at hz
  have hbel : ∀ c1 c2 : Obj, Below w.heap.size w ((w.alloc c1).alloc c2) := fun c1 c2 => ((Below.refl _ _).alloc (Nat.le_refl _) _).alloc (by simp) _
  have HR : Hid _ := hr
  have HB : Hid _ := hbel
  clear hr hbel
  by_cases h0 : 0 < len
  · rw [if_neg (by omega)]
    go_enter Try.func78, Try.ntmps78
    go_wp2_with fail
    refine bodyPost_ret (v := .agg #[.bool (!neg), .slice ao len cap, .int .i64 e]) (res_num _ 2 (by kernel_rfl) _ _ (w.heap.size + 1) _ _ _ (by rfl) (by have := heap_alloc_new (w.alloc (Obj.cells #[Value.bool (!neg), Value.slice ao len cap, Value.int IntKind.i64 e] 87)) (Obj.cells #[Value.bool (!neg), Value.slice ao len cap, Value.int IntKind.i64 e] 87); simpa using this)) rfl ⟨_, rfl, ?_, HB.out _ _⟩
    exact ⟨ao, len, cap, xs, rfl, HR.out.later (HB.out _ _), hnm, hm⟩
  · rw [if_pos (by omega)]
    go_enter Try.func78, Try.ntmps78
    go_wp2_with fail
    refine bodyPost_ret (v := .agg #[.bool neg, .slice ao len cap, .int .i64 e]) (res_num _ 2 (by kernel_rfl) _ _ (w.heap.size + 1) _ _ _ (by rfl) (by have := heap_alloc_new (w.alloc (Obj.cells #[Value.bool neg, Value.slice ao len cap, Value.int IntKind.i64 e] 87)) (Obj.cells #[Value.bool neg, Value.slice ao len cap, Value.int IntKind.i64 e] 87); simpa using this)) rfl ⟨_, rfl, ?_, HB.out _ _⟩
    exact ⟨ao, len, cap, xs, rfl, HR.out.later (HB.out _ _), hnm, hm⟩
end Go.Proofs.Ytoehhnildocihaa

namespace Go.Proofs.Ytoehhnildocihaa
open Go.RowKit
set_option linter.unusedVariables false
set_option maxRecDepth 100000 in
set_option maxHeartbeats 1000000 in
theorem sign_any (v : Value) (neg : Bool) (m : Nat) (e : Int) (w : World) (h : NumV w v neg m e) :
    Calls Try.prog 57 #[v] w fun e' w' => e' = .returned (.int .i64 (if m = 0 then 0 else if neg then -1 else 1)) ∧ Below w.heap.size w w' := by
  obtain ⟨ao, len, cap, xs, rfl, hr, hnm, hm⟩ := h
  have hz := len_zero hr.length hr.lt hnm
  rw [hm] at hz
  clear hr
  by_cases h0 : m = 0
  · have hl : len = 0 := hz.2 h0
    subst hl
    rw [if_pos h0]
    clear hz
    go_enter Try.func57, Try.ntmps57
    go_wp2_with fail
    go_ret
    exact ⟨rfl, (Below.refl _ _).alloc (Nat.le_refl _) _⟩
  · have hl : 0 < len := by omega
    have hb : ((len : Int) == 0) = false := by rw [beq_eq_false_iff_ne]; omega
    rw [if_neg h0]
    clear hz
    cases neg
    · go_enter Try.func57, Try.ntmps57
      go_wp2_with fail
      go_ret
      exact ⟨rfl, (Below.refl _ _).alloc (Nat.le_refl _) _⟩
    · go_enter Try.func57, Try.ntmps57
      go_wp2_with fail
      go_ret
      exact ⟨rfl, (Below.refl _ _).alloc (Nat.le_refl _) _⟩
end Go.Proofs.Ytoehhnildocihaa

namespace Go.Proofs.Ytoehhnildocihaa
open Go.RowKit
set_option linter.unusedVariables false
theorem rd4_none' (w : World) : Rd4 w none 0 0 [] := Rd4.none w
/-- Two numbers brought to one power of 2. -/
def LevelOf (mx : Nat) (ex : Int) (my : Nat) (ey : Int) (A B : Nat) (e : Int) : Prop :=
  (mx = 0 ∧ A = 0 ∧ B = my ∧ e = ey) ∨ (mx ≠ 0 ∧ my = 0 ∧ A = mx ∧ B = 0 ∧ e = ex) ∨ (mx ≠ 0 ∧ my ≠ 0 ∧ e = min ex ey ∧ A = mx * 2 ^ (ex - e).toNat ∧ B = my * 2 ^ (ey - e).toNat)
def LevelRes (mx : Nat) (ex : Int) (my : Nat) (ey : Int) (w : World) (e' : Ending) (w' : World) : Prop :=
  ∃ a1 l1 c1 xs a2 l2 c2 ys A B e, e' = .returned (.tuple #[.slice a1 l1 c1, .slice a2 l2 c2, .int .i64 e]) ∧ Rd4 w' a1 l1 c1 xs ∧ Rd4 w' a2 l2 c2 ys ∧ Nm xs ∧ Nm ys ∧ dig xs = A ∧ dig ys = B ∧ LevelOf mx ex my ey A B e ∧ Below w.heap.size w w'
set_option maxRecDepth 100000 in
set_option maxHeartbeats 1000000 in
theorem level_any (v u : Value) (nx ny : Bool) (mx my : Nat) (ex ey : Int) (w : World) (hx : NumV w v nx mx ex) (hy : NumV w u ny my ey) (hex : -20000 ≤ ex ∧ ex ≤ 20000) (hey : -20000 ≤ ey ∧ ey ≤ 20000) (hbx : bl mx ≤ 100000) (hby : bl my ≤ 100000) :
    Calls Try.prog 60 #[v, u] w fun e' w' => LevelRes mx ex my ey w e' w' := by
  obtain ⟨ao, len, cap, xs, rfl, hr, hnm, hm⟩ := hx
  obtain ⟨bo, blen, bcap, ys, rfl, hr2, hnm2, hm2⟩ := hy
  have hz := len_zero hr.length hr.lt hnm
  have hz2 := len_zero hr2.length hr2.lt hnm2
  rw [hm] at hz
  rw [hm2] at hz2
  have hl : len ≤ 10000 := by have := len_bl hr.length hr.lt hnm; rw [hm] at this; omega
  have hl2 : blen ≤ 10000 := by have := len_bl hr2.length hr2.lt hnm2; rw [hm2] at this; omega
  have hbel : ∀ o1 o2 : Obj, Below w.heap.size w ((w.alloc o1).alloc o2) := fun o1 o2 => ((Below.refl _ _).alloc (Nat.le_refl _) _).alloc (by simp) _
  have HR : Hid _ := hr
  have HR2 : Hid _ := hr2
  have HB : Hid _ := hbel
  clear hr hr2 hbel
  by_cases h0 : mx = 0
  · have hl0 : len = 0 := hz.2 h0
    subst hl0
    clear hz hz2
    go_enter Try.func60, Try.ntmps60
    go_wp2_with fail
    go_region
    go_wp2_with fail
    go_ret3
    exact ⟨none, 0, 0, [], bo, blen, bcap, ys, 0, my, ey, rfl, rd4_none' _, HR2.out.later (HB.out _ _).drew, .inl rfl, hnm2, rfl, hm2, .inl ⟨h0, rfl, rfl, rfl⟩, (HB.out _ _).drew⟩
  · have hb0 : ((len : Int) == 0) = false := by rw [beq_eq_false_iff_ne]; omega
    by_cases h1 : my = 0
    · have hl0 : blen = 0 := hz2.2 h1
      subst hl0
      clear hz hz2
      go_enter Try.func60, Try.ntmps60
      go_wp2_with fail
      go_region
      go_wp2_with fail
      go_ret3
      exact ⟨ao, len, cap, xs, none, 0, 0, [], mx, 0, ex, rfl, HR.out.later (HB.out _ _).drew, rd4_none' _, hnm, .inl rfl, hm, rfl, .inr (.inl ⟨h0, h1, rfl, rfl, rfl⟩), (HB.out _ _).drew⟩
    · have hb1 : ((blen : Int) == 0) = false := by rw [beq_eq_false_iff_ne]; omega
      clear hz hz2
      have q0 : ((w.alloc (Obj.cells #[Value.bool nx, Value.slice ao len cap, Value.int IntKind.i64 ex] 87)).alloc (Obj.cells #[Value.bool ny, Value.slice bo blen bcap, Value.int IntKind.i64 ey] 87)).heap[w.heap.size]? = some (Obj.cells #[Value.bool nx, Value.slice ao len cap, Value.int IntKind.i64 ex] 87) := by rw [Below.heap_alloc _ _ _ (by simp)]; exact heap_alloc_new w _
      have q1 : ((w.alloc (Obj.cells #[Value.bool nx, Value.slice ao len cap, Value.int IntKind.i64 ex] 87)).alloc (Obj.cells #[Value.bool ny, Value.slice bo blen bcap, Value.int IntKind.i64 ey] 87)).heap[w.heap.size + 1]? = some (Obj.cells #[Value.bool ny, Value.slice bo blen bcap, Value.int IntKind.i64 ey] 87) := by
        have h := heap_alloc_new (w.alloc (Obj.cells #[Value.bool nx, Value.slice ao len cap, Value.int IntKind.i64 ex] 87)) (Obj.cells #[Value.bool ny, Value.slice bo blen bcap, Value.int IntKind.i64 ey] 87)
        rw [show (w.alloc (Obj.cells #[Value.bool nx, Value.slice ao len cap, Value.int IntKind.i64 ex] 87)).heap.size = w.heap.size + 1 by simp] at h
        exact h
      have HBW : Hid (Below w.heap.size w ((w.alloc (Obj.cells #[Value.bool nx, Value.slice ao len cap, Value.int IntKind.i64 ex] 87)).alloc (Obj.cells #[Value.bool ny, Value.slice bo blen bcap, Value.int IntKind.i64 ey] 87))) := HB.out _ _
      have HZ : Hid (((w.alloc (Obj.cells #[Value.bool nx, Value.slice ao len cap, Value.int IntKind.i64 ex] 87)).alloc (Obj.cells #[Value.bool ny, Value.slice bo blen bcap, Value.int IntKind.i64 ey] 87)).heap.size = w.heap.size + 2) := by unfold Hid; simp
      obtain ⟨x0, x1, x2⟩ := three_cells q0
      obtain ⟨y0, y1, y2⟩ := three_cells q1
      clear q0 q1 HB
      by_cases h2 : ey < ex
      · obtain ⟨d, hd⟩ : ∃ d : Nat, (ex - ey).toNat = d := ⟨_, rfl⟩
        have hdi : ex - ey = (d : Int) := by omega
        have hwr : IntKind.i64.wrap (d : Int) = (d : Int) := by rw [IntKind.wrap_i64]; omega
        go_enter Try.func60, Try.ntmps60
        go_wp2_with fail
        generalize ((w.alloc (Obj.cells #[Value.bool nx, Value.slice ao len cap, Value.int IntKind.i64 ex] 87)).alloc (Obj.cells #[Value.bool ny, Value.slice bo blen bcap, Value.int IntKind.i64 ey] 87)) = wa at *
        go_region_held3 (fun w' => w'.cell? ⟨w.heap.size, 1, none⟩ = some (.slice ao len cap) ∧ w'.cell? ⟨w.heap.size, 2, none⟩ = some (.int .i64 ex) ∧ w'.cell? ⟨w.heap.size + 1, 1, none⟩ = some (.slice bo blen bcap) ∧ w'.cell? ⟨w.heap.size + 1, 2, none⟩ = some (.int .i64 ey)) (go_keep)
          (first | (go_at_call 79; refine (left_any ao len cap xs d _ ?_ (by omega) hl).mono ?_; exact HR.out.later HBW.out.drew; rintro ee ww ⟨ao', k, cap', zs, rfl, hr3, hn3, hd3, hb3, hk3⟩; have z1 := (hb3.cell (p := ⟨w.heap.size, 1, none⟩) (by show w.heap.size < wa.heap.size; rw [HZ.out]; omega)).trans x1; have z2 := (hb3.cell (p := ⟨w.heap.size, 2, none⟩) (by show w.heap.size < wa.heap.size; rw [HZ.out]; omega)).trans x2; have z3 := (hb3.cell (p := ⟨w.heap.size + 1, 1, none⟩) (by show w.heap.size + 1 < wa.heap.size; rw [HZ.out]; omega)).trans y1; have z4 := (hb3.cell (p := ⟨w.heap.size + 1, 2, none⟩) (by show w.heap.size + 1 < wa.heap.size; rw [HZ.out]; omega)).trans y2; have HB3 : Hid _ := hb3; have HRD : Hid _ := hr3; clear hb3 hr3))
        all_goals go_wp2_with fail
        all_goals
          have HBF : Hid (Below w.heap.size w ww) := HBW.out.drew.trans (HB3.out.mono (by show w.heap.size ≤ wa.heap.size; rw [HZ.out]; omega))
          go_ret3
          exact ⟨ao', k, cap', zs, bo, blen, bcap, ys, _, my, ey, rfl, HRD.out, HR2.out.later HBF.out, hn3, hnm2, rfl, hm2, .inr (.inr ⟨h0, h1, by omega, by rw [hd3, hm, hd], by rw [show (ey - ey).toNat = 0 by omega, Nat.pow_zero, Nat.mul_one]⟩), HBF.out⟩
      · obtain ⟨d, hd⟩ : ∃ d : Nat, (ey - ex).toNat = d := ⟨_, rfl⟩
        have hdi : ey - ex = (d : Int) := by omega
        have hwr : IntKind.i64.wrap (d : Int) = (d : Int) := by rw [IntKind.wrap_i64]; omega
        go_enter Try.func60, Try.ntmps60
        go_wp2_with fail
        generalize ((w.alloc (Obj.cells #[Value.bool nx, Value.slice ao len cap, Value.int IntKind.i64 ex] 87)).alloc (Obj.cells #[Value.bool ny, Value.slice bo blen bcap, Value.int IntKind.i64 ey] 87)) = wa at *
        go_region_held3 (fun w' => w'.cell? ⟨w.heap.size, 1, none⟩ = some (.slice ao len cap) ∧ w'.cell? ⟨w.heap.size, 2, none⟩ = some (.int .i64 ex) ∧ w'.cell? ⟨w.heap.size + 1, 1, none⟩ = some (.slice bo blen bcap) ∧ w'.cell? ⟨w.heap.size + 1, 2, none⟩ = some (.int .i64 ey)) (go_keep)
          (first | (go_at_call 79; refine (left_any bo blen bcap ys d _ ?_ (by omega) hl2).mono ?_; exact HR2.out.later HBW.out.drew; rintro ee ww ⟨ao', k, cap', zs, rfl, hr3, hn3, hd3, hb3, hk3⟩; have z1 := (hb3.cell (p := ⟨w.heap.size, 1, none⟩) (by show w.heap.size < wa.heap.size; rw [HZ.out]; omega)).trans x1; have z2 := (hb3.cell (p := ⟨w.heap.size, 2, none⟩) (by show w.heap.size < wa.heap.size; rw [HZ.out]; omega)).trans x2; have z3 := (hb3.cell (p := ⟨w.heap.size + 1, 1, none⟩) (by show w.heap.size + 1 < wa.heap.size; rw [HZ.out]; omega)).trans y1; have z4 := (hb3.cell (p := ⟨w.heap.size + 1, 2, none⟩) (by show w.heap.size + 1 < wa.heap.size; rw [HZ.out]; omega)).trans y2; have HB3 : Hid _ := hb3; have HRD : Hid _ := hr3; clear hb3 hr3))
        all_goals go_wp2_with fail
        all_goals
          have HBF : Hid (Below w.heap.size w ww) := HBW.out.drew.trans (HB3.out.mono (by show w.heap.size ≤ wa.heap.size; rw [HZ.out]; omega))
          go_ret3
          exact ⟨ao, len, cap, xs, ao', k, cap', zs, mx, _, ex, rfl, HR.out.later HBF.out, HRD.out, hnm, hn3, hm, rfl, .inr (.inr ⟨h0, h1, by omega, by rw [show (ex - ex).toNat = 0 by omega, Nat.pow_zero, Nat.mul_one], by rw [hd3, hm2, hd]⟩), HBF.out⟩
end Go.Proofs.Ytoehhnildocihaa

namespace Go.Proofs.Ytoehhnildocihaa
open Go.RowKit
set_option linter.unusedVariables false
/-- v is the real z 2^-s, below 2^T. -/
def NumZ (w : World) (v : Value) (s : Nat) (T : Int) (z : Int) : Prop := ∃ neg m e, NumV w v neg m e ∧ -(s : Int) ≤ e ∧ (bl m : Int) + e ≤ T ∧ zv s neg m e = z
theorem NumZ.later {w w' : World} {v : Value} {s : Nat} {T z : Int} (h : NumZ w v s T z) (hb : Below w.heap.size w w') : NumZ w' v s T z := by
  obtain ⟨neg, m, e, h1, h2⟩ := h
  exact ⟨neg, m, e, h1.later hb, h2⟩
theorem NumZ.more {w : World} {v : Value} {s : Nat} {T z : Int} (h : NumZ w v s T z) (k : Nat) : NumZ w v (s + k) T (z * ((2 ^ k : Nat) : Int)) := by
  obtain ⟨neg, m, e, h1, h2, h3, h4⟩ := h
  exact ⟨neg, m, e, h1, by omega, h3, by rw [zv_more k neg m h2, h4]⟩
theorem NumZ.mono {w : World} {v : Value} {s : Nat} {T T' z : Int} (h : NumZ w v s T z) (hT : T ≤ T') : NumZ w v s T' z := by
  obtain ⟨neg, m, e, h1, h2, h3, h4⟩ := h
  exact ⟨neg, m, e, h1, h2, by omega, h4⟩
/-- What a sum's parts are. -/
def PlusOk (nx : Bool) (mx : Nat) (ex : Int) (ny : Bool) (my : Nat) (ey : Int) (neg : Bool) (m : Nat) (e : Int) : Prop :=
  ∀ (s : Nat) (T : Int), -(s : Int) ≤ ex → -(s : Int) ≤ ey → (bl mx : Int) + ex ≤ T → (bl my : Int) + ey ≤ T → 0 ≤ T → -(s : Int) ≤ e ∧ (bl m : Int) + e ≤ T + 1 ∧ zv s neg m e = zv s nx mx ex + zv s ny my ey
theorem plus_left {nx : Bool} {mx : Nat} {ex : Int} {ny : Bool} {my : Nat} {ey : Int} (h : mx = 0) : PlusOk nx mx ex ny my ey ny my ey := by
  intro s T h1 h2 h3 h4 h5
  refine ⟨h2, by omega, ?_⟩
  rw [h, zv_zero, Int.zero_add]
theorem plus_right {nx : Bool} {mx : Nat} {ex : Int} {ny : Bool} {my : Nat} {ey : Int} (h : my = 0) : PlusOk nx mx ex ny my ey nx mx ex := by
  intro s T h1 h2 h3 h4 h5
  refine ⟨h1, by omega, ?_⟩
  rw [h, zv_zero, Int.add_zero]
theorem level_zv {mx : Nat} {ex : Int} {my : Nat} {ey : Int} {A B : Nat} {e : Int} (hL : LevelOf mx ex my ey A B e) (hx : mx ≠ 0) (hy : my ≠ 0) (s : Nat) (T : Int) (h1 : -(s : Int) ≤ ex) (h2 : -(s : Int) ≤ ey) (h3 : (bl mx : Int) + ex ≤ T) (h4 : (bl my : Int) + ey ≤ T) :
    -(s : Int) ≤ e ∧ (∀ g, zv s g mx ex = zv s g A e) ∧ (∀ g, zv s g my ey = zv s g B e) ∧ (bl A : Int) + e ≤ T ∧ (bl B : Int) + e ≤ T := by
  rcases hL with ⟨h, -⟩ | ⟨-, h, -⟩ | ⟨-, -, he, hA, hB⟩
  · exact absurd h hx
  · exact absurd h hy
  · have b1 := bl_mul_pow mx (ex - e).toNat
    have b2 := bl_mul_pow my (ey - e).toNat
    rw [← hA] at b1
    rw [← hB] at b2
    refine ⟨by omega, fun g => ?_, fun g => ?_, by omega, by omega⟩
    · rw [hA]; exact zv_down g mx (by omega) (by omega)
    · rw [hB]; exact zv_down g my (by omega) (by omega)
theorem plus_same {g : Bool} {mx : Nat} {ex : Int} {my : Nat} {ey : Int} {A B : Nat} {e : Int} (hL : LevelOf mx ex my ey A B e) (hx : mx ≠ 0) (hy : my ≠ 0) : PlusOk g mx ex g my ey g (A + B) e := by
  intro s T h1 h2 h3 h4 h5
  obtain ⟨k1, k2, k3, k4, k5⟩ := level_zv hL hx hy s T h1 h2 h3 h4
  have := bl_add A B
  exact ⟨k1, by omega, by rw [k2, k3, zv_add]⟩
theorem plus_ge {g : Bool} {mx : Nat} {ex : Int} {my : Nat} {ey : Int} {A B : Nat} {e : Int} (hL : LevelOf mx ex my ey A B e) (hx : mx ≠ 0) (hy : my ≠ 0) (hB : B ≤ A) : PlusOk g mx ex (!g) my ey g (A - B) e := by
  intro s T h1 h2 h3 h4 h5
  obtain ⟨k1, k2, k3, k4, k5⟩ := level_zv hL hx hy s T h1 h2 h3 h4
  have := bl_mono (show A - B ≤ A by omega)
  exact ⟨k1, by omega, by rw [k2, k3, zv_sub _ _ _ hB]⟩
theorem plus_lt {g : Bool} {mx : Nat} {ex : Int} {my : Nat} {ey : Int} {A B : Nat} {e : Int} (hL : LevelOf mx ex my ey A B e) (hx : mx ≠ 0) (hy : my ≠ 0) (hB : A ≤ B) : PlusOk g mx ex (!g) my ey (!g) (B - A) e := by
  intro s T h1 h2 h3 h4 h5
  obtain ⟨k1, k2, k3, k4, k5⟩ := level_zv hL hx hy s T h1 h2 h3 h4
  have := bl_mono (show B - A ≤ B by omega)
  exact ⟨k1, by omega, by rw [k2, k3, zv_sub _ _ _ hB, Bool.not_not, Int.add_comm]⟩
theorem plus_eq {g : Bool} {mx : Nat} {ex : Int} {my : Nat} {ey : Int} {A B : Nat} {e : Int} (hL : LevelOf mx ex my ey A B e) (hx : mx ≠ 0) (hy : my ≠ 0) (hB : A = B) : PlusOk g mx ex (!g) my ey false 0 0 := by
  intro s T h1 h2 h3 h4 h5
  obtain ⟨k1, k2, k3, k4, k5⟩ := level_zv hL hx hy s T h1 h2 h3 h4
  refine ⟨by omega, by rw [bl_zero]; omega, ?_⟩
  rw [k2, k3, hB, zv_zero, zv_not]; omega
theorem level_ne {mx : Nat} {ex : Int} {my : Nat} {ey : Int} {A B : Nat} {e : Int} (hL : LevelOf mx ex my ey A B e) (hx : mx ≠ 0) (hy : my ≠ 0) : 0 < A ∧ 0 < B := by
  rcases hL with ⟨h, -⟩ | ⟨-, h, -⟩ | ⟨-, -, he, hA, hB⟩
  · exact absurd h hx
  · exact absurd h hy
  · rw [hA, hB]; exact ⟨Nat.mul_pos (by omega) (Nat.two_pow_pos _), Nat.mul_pos (by omega) (Nat.two_pow_pos _)⟩
def PlusRes (nx : Bool) (mx : Nat) (ex : Int) (ny : Bool) (my : Nat) (ey : Int) (w : World) (e' : Ending) (w' : World) : Prop :=
  ∃ v' neg m e, e' = .returned v' ∧ NumV w' v' neg m e ∧ (PlusOk nx mx ex ny my ey neg m e ∧ (m = 0 → (mx = 0 → ex = 0) → (my = 0 → ey = 0) → e = 0)) ∧ Below w.heap.size w w'
end Go.Proofs.Ytoehhnildocihaa

namespace Go.Proofs.Ytoehhnildocihaa
open Go.RowKit
set_option linter.unusedVariables false
theorem alloc3_facts (w : World) (o1 o2 o3 : Obj) : (((w.alloc o1).alloc o2).alloc o3).heap[w.heap.size]? = some o1 ∧ (((w.alloc o1).alloc o2).alloc o3).heap[w.heap.size + 1]? = some o2 ∧ (((w.alloc o1).alloc o2).alloc o3).heap[w.heap.size + 1 + 1]? = some o3 ∧ (((w.alloc o1).alloc o2).alloc o3).heap.size = w.heap.size + 3 ∧ Below w.heap.size w (((w.alloc o1).alloc o2).alloc o3) := by
  have e1 := heap_alloc_new w o1
  have e2 := heap_alloc_new (w.alloc o1) o2
  have e3 := heap_alloc_new ((w.alloc o1).alloc o2) o3
  rw [show (w.alloc o1).heap.size = w.heap.size + 1 by simp] at e2
  rw [show ((w.alloc o1).alloc o2).heap.size = w.heap.size + 1 + 1 by simp] at e3
  refine ⟨?_, ?_, e3, by simp, (((Below.refl _ _).alloc (Nat.le_refl _) _).alloc (by simp) _).alloc (by simp; omega) _⟩
  · rw [Below.heap_alloc _ _ _ (by simp; omega), Below.heap_alloc _ _ _ (by simp), e1]
  · rw [Below.heap_alloc _ _ _ (by simp), e2]
theorem level_bounds {mx : Nat} {ex : Int} {my : Nat} {ey : Int} {A B : Nat} {e : Int} (hL : LevelOf mx ex my ey A B e) (hex : -20000 ≤ ex ∧ ex ≤ 20000) (hey : -20000 ≤ ey ∧ ey ≤ 20000) (hbx : bl mx ≤ 40000) (hby : bl my ≤ 40000) :
    bl A ≤ 80000 ∧ bl B ≤ 80000 ∧ (mx = 0 → A = 0) ∧ (mx ≠ 0 → A ≠ 0) ∧ (mx ≠ 0 → my = 0 → B = 0) ∧ (mx ≠ 0 → my ≠ 0 → B ≠ 0) := by
  rcases hL with ⟨h, hA, hB, he⟩ | ⟨h, h2, hA, hB, he⟩ | ⟨h1, h2, he, hA, hB⟩
  · subst hA hB
    exact ⟨by rw [bl_zero]; omega, by omega, fun _ => rfl, fun c => absurd h c, fun c => absurd h c, fun c => absurd h c⟩
  · subst hA hB
    exact ⟨by omega, by rw [bl_zero]; omega, fun c => c, fun c => c, fun _ _ => rfl, fun _ c => absurd h2 c⟩
  · have b1 := bl_mul_pow mx (ex - e).toNat
    have b2 := bl_mul_pow my (ey - e).toNat
    rw [← hA] at b1
    rw [← hB] at b2
    refine ⟨by omega, by omega, fun c => absurd c h1, fun _ => ?_, fun _ c => absurd c h2, fun _ _ => ?_⟩
    · rw [hA]; exact Nat.mul_ne_zero h1 (by have := Nat.two_pow_pos (ex - e).toNat; omega)
    · rw [hB]; exact Nat.mul_ne_zero h2 (by have := Nat.two_pow_pos (ey - e).toNat; omega)
/-- What the last steps of a sum find in memory. -/
theorem out_facts {w w2 w4 : World} {nx : Bool} {e : Int} (M : Value) (hsz : w.heap.size + 3 ≤ w2.heap.size) (q2 : w2.heap[w.heap.size + 1 + 1]? = some (Obj.cells #[Value.bool false, Value.slice none 0 0, Value.int IntKind.i64 0] 87)) (hb4 : Below (w2.alloc (Obj.cells #[Value.bool nx, Value.slice none 0 0, Value.int IntKind.i64 e] 87)).heap.size (w2.alloc (Obj.cells #[Value.bool nx, Value.slice none 0 0, Value.int IntKind.i64 e] 87)) w4) :
    w4.heap[w2.heap.size]? = some (Obj.cells #[Value.bool nx, Value.slice none 0 0, Value.int IntKind.i64 e] 87) ∧ w4.heap[w.heap.size + 1 + 1]? = some (Obj.cells #[Value.bool false, Value.slice none 0 0, Value.int IntKind.i64 0] 87) ∧
    (w4.setCell ⟨w2.heap.size, 1, none⟩ M).heap[w2.heap.size]? = some (Obj.cells #[Value.bool nx, M, Value.int IntKind.i64 e] 87) ∧ (w4.setCell ⟨w2.heap.size, 1, none⟩ M).heap[w.heap.size + 1 + 1]? = some (Obj.cells #[Value.bool false, Value.slice none 0 0, Value.int IntKind.i64 0] 87) := by
  have h1 : w4.heap[w2.heap.size]? = some (Obj.cells #[Value.bool nx, Value.slice none 0 0, Value.int IntKind.i64 e] 87) := (hb4.block w2.heap.size (by simp)).trans (heap_alloc_new w2 _)
  have h2 : w4.heap[w.heap.size + 1 + 1]? = some (Obj.cells #[Value.bool false, Value.slice none 0 0, Value.int IntKind.i64 0] 87) := by
    rw [hb4.block (w.heap.size + 1 + 1) (by simp; omega), Below.heap_alloc _ _ _ (by omega)]; exact q2
  refine ⟨h1, h2, heap_setCell_same _ _ 1 _ _ M h1, ?_⟩
  rw [heap_setCell_other _ _ _ _ (by show w.heap.size + 1 + 1 ≠ w2.heap.size; omega)]; exact h2
set_option maxRecDepth 100000 in
set_option maxHeartbeats 1000000 in
theorem plusV_any (v u : Value) (nx ny : Bool) (mx my : Nat) (ex ey : Int) (w : World) (hx : NumV w v nx mx ex) (hy : NumV w u ny my ey) (hex : -20000 ≤ ex ∧ ex ≤ 20000) (hey : -20000 ≤ ey ∧ ey ≤ 20000) (hbx : bl mx ≤ 40000) (hby : bl my ≤ 40000) :
    Calls Try.prog 38 #[v, u] w fun e' w' => PlusRes nx mx ex ny my ey w e' w' := by
  obtain ⟨ao, len, cap, xs, rfl, hr, hnm, hm⟩ := hx
  obtain ⟨bo, blen, bcap, ys, rfl, hr2, hnm2, hm2⟩ := hy
  obtain ⟨p0, p1, p2, pz, pb⟩ := alloc3_facts w (Obj.cells #[Value.bool nx, Value.slice ao len cap, Value.int IntKind.i64 ex] 87) (Obj.cells #[Value.bool ny, Value.slice bo blen bcap, Value.int IntKind.i64 ey] 87) (Obj.cells #[Value.bool false, Value.slice none 0 0, Value.int IntKind.i64 0] 87)
  have P0 : Hid _ := p0
  have P1 : Hid _ := p1
  have P2 : Hid _ := p2
  have PZ : Hid _ := pz
  have PB : Hid _ := pb
  have HR : Hid _ := hr
  have HR2 : Hid _ := hr2
  clear p0 p1 p2 pz pb hr hr2
  go_enter Try.func38, Try.ntmps38
  go_wp2_with fail
  refine (level_any _ _ nx ny mx my ex ey _ ⟨ao, len, cap, xs, rfl, HR.out.later PB.out, hnm, hm⟩ ⟨bo, blen, bcap, ys, rfl, HR2.out.later PB.out, hnm2, hm2⟩ hex hey (by omega) (by omega)).mono ?_
  rintro e2 w2 ⟨a1, l1, c1, xs1, a2, l2, c2, ys1, A, B, e, rfl, r1, r2, n1, n2, d1, d2, hL, hb2⟩
  have q0 := (hb2.block w.heap.size (by rw [PZ.out]; omega)).trans P0.out
  have q1 := (hb2.block (w.heap.size + 1) (by rw [PZ.out]; omega)).trans P1.out
  have q2 := (hb2.block (w.heap.size + 1 + 1) (by rw [PZ.out]; omega)).trans P2.out
  have hsz : w.heap.size + 3 ≤ w2.heap.size := by have := hb2.size; rw [PZ.out] at this; exact this
  have HB2 : Hid (Below w.heap.size w w2) := PB.out.trans (hb2.mono (by rw [PZ.out]; omega))
  have R1 : Hid _ := r1
  have R2 : Hid _ := r2
  have HL : Hid (LevelOf mx ex my ey A B e) := hL
  obtain ⟨bA, bB, zA, nA, zB, nB⟩ := level_bounds hL hex hey hbx hby
  have hl1 : l1 ≤ 10000 := by have := len_bl r1.length r1.lt n1; rw [d1] at this; omega
  have hl2 : l2 ≤ 10000 := by have := len_bl r2.length r2.lt n2; rw [d2] at this; omega
  have lz1 := len_zero r1.length r1.lt n1
  have lz2 := len_zero r2.length r2.lt n2
  rw [d1] at lz1
  rw [d2] at lz2
  clear r1 r2 hL hb2
  have x0 := (three_cells q0).1
  have HB3 : Hid (Below w.heap.size w (w2.alloc (Obj.cells #[Value.bool nx, Value.slice none 0 0, Value.int IntKind.i64 e] 87))) := HB2.out.alloc HB2.out.size _
  have o0 : (w2.alloc (Obj.cells #[Value.bool nx, Value.slice none 0 0, Value.int IntKind.i64 e] 87)).heap[w.heap.size]? = some (Obj.cells #[Value.bool nx, Value.slice ao len cap, Value.int IntKind.i64 ex] 87) := by rw [Below.heap_alloc _ _ _ (by omega)]; exact q0
  have o1 : (w2.alloc (Obj.cells #[Value.bool nx, Value.slice none 0 0, Value.int IntKind.i64 e] 87)).heap[w.heap.size + 1]? = some (Obj.cells #[Value.bool ny, Value.slice bo blen bcap, Value.int IntKind.i64 ey] 87) := by rw [Below.heap_alloc _ _ _ (by omega)]; exact q1
  have o2 : (w2.alloc (Obj.cells #[Value.bool nx, Value.slice none 0 0, Value.int IntKind.i64 e] 87)).heap[w.heap.size + 1 + 1]? = some (Obj.cells #[Value.bool false, Value.slice none 0 0, Value.int IntKind.i64 0] 87) := by rw [Below.heap_alloc _ _ _ (by omega)]; exact q2
  obtain ⟨u0, u1, u2⟩ := three_cells o0
  obtain ⟨y0, y1, y2⟩ := three_cells o1
  obtain ⟨z0, z1, z2⟩ := three_cells o2
  have fz := fun j => frozen_of_row _ _ j _ _ o2
  have O2 : Hid _ := o2
  have hw2 : (w2.alloc (Obj.cells #[Value.bool nx, Value.slice none 0 0, Value.int IntKind.i64 e] 87)).heap.size = w2.heap.size + 1 := by simp
  have Q0 : Hid _ := q0
  have Q1 : Hid _ := q1
  have Q2 : Hid _ := q2
  clear q0 q1 q2 o0 o1 o2 P0 P1 P2 PZ PB
  by_cases h0 : mx = 0
  · have t1 : ((l1 : Int) == 0) = true := by rw [beq_iff_eq]; have := lz1.2 (zA h0); omega
    go_wp2_with fail
    refine bodyPost_ret (v := .agg #[.bool ny, .slice bo blen bcap, .int .i64 ey]) (res_num _ 4 (by kernel_rfl) _ _ (w.heap.size + 1 + 1) _ _ _ (by rfl) (set3_heap _ _ _ O2.out)) rfl ⟨_, ny, my, ey, rfl, ?_, ⟨plus_left h0, fun c _ hy => hy c⟩, ?_⟩
    · exact ⟨bo, blen, bcap, ys, rfl, rd4_set3 _ _ _ ⟨_, _, _, _, _, O2.out⟩ (HR2.out.later HB3.out), hnm2, hm2⟩
    · exact ((HB3.out.setCell (by show w.heap.size ≤ w.heap.size + 1 + 1; omega) _).setCell (by show w.heap.size ≤ w.heap.size + 1 + 1; omega) _).setCell (by show w.heap.size ≤ w.heap.size + 1 + 1; omega) _
  by_cases h1 : my = 0
  · have t1 : ((l1 : Int) == 0) = false := by rw [beq_eq_false_iff_ne]; have := nA h0; omega
    have t2 : ((l2 : Int) == 0) = true := by rw [beq_iff_eq]; have := lz2.2 (zB h0 h1); omega
    go_wp2_with fail
    refine bodyPost_ret (v := .agg #[.bool nx, .slice ao len cap, .int .i64 ex]) (res_num _ 4 (by kernel_rfl) _ _ (w.heap.size + 1 + 1) _ _ _ (by rfl) (set3_heap _ _ _ O2.out)) rfl ⟨_, nx, mx, ex, rfl, ?_, ⟨plus_right h1, fun c hx _ => hx c⟩, ?_⟩
    · exact ⟨ao, len, cap, xs, rfl, rd4_set3 _ _ _ ⟨_, _, _, _, _, O2.out⟩ (HR.out.later HB3.out), hnm, hm⟩
    · exact ((HB3.out.setCell (by show w.heap.size ≤ w.heap.size + 1 + 1; omega) _).setCell (by show w.heap.size ≤ w.heap.size + 1 + 1; omega) _).setCell (by show w.heap.size ≤ w.heap.size + 1 + 1; omega) _
  have t1 : ((l1 : Int) == 0) = false := by rw [beq_eq_false_iff_ne]; have := nA h0; omega
  have t2 : ((l2 : Int) == 0) = false := by rw [beq_eq_false_iff_ne]; have := nB h0 h1; omega
  have R1' : Hid _ := R1.out.later ((Below.refl _ _).alloc (Nat.le_refl _) (Obj.cells #[Value.bool nx, Value.slice none 0 0, Value.int IntKind.i64 e] 87))
  have R2' : Hid _ := R2.out.later ((Below.refl _ _).alloc (Nat.le_refl _) (Obj.cells #[Value.bool nx, Value.slice none 0 0, Value.int IntKind.i64 e] 87))
  by_cases hs : nx = ny
  · subst hs
    have t3 : (nx == nx) = true := by simp
    go_wp2_with fail
    refine (plus_any a1 l1 c1 xs1 a2 l2 c2 ys1 _ R1'.out R2'.out hl1 hl2).mono ?_
    rintro e4 w4 ⟨ao', k, cap', zs, rfl, r4, n4, d4, hb4, k4⟩
    have hk : ((k : Int) == 0) = false := by
      rw [beq_eq_false_iff_ne]; have := len_zero r4.length r4.lt n4; rw [d4, d1] at this; have := nA h0; omega
    obtain ⟨g1, g2, g3, g4⟩ := out_facts (Value.slice ao' k cap') hsz Q2.out hb4
    obtain ⟨c10, c11, c12⟩ := three_cells g1
    obtain ⟨c40, c41, c42⟩ := three_cells g4
    have f1 := fun j => frozen_of_row _ _ j _ _ g1
    obtain ⟨c30, c31, c32⟩ := three_cells g3
    have f4 := fun j => frozen_of_row _ _ j _ _ g4
    have HB5 : Hid (Below w.heap.size w (w4.setCell ⟨w2.heap.size, 1, none⟩ (Value.slice ao' k cap'))) := (HB3.out.trans (hb4.mono (by rw [hw2]; have := HB2.out.size; omega))).setCell (by show w.heap.size ≤ w2.heap.size; omega) _
    have R5 : Hid (Rd4 (w4.setCell ⟨w2.heap.size, 1, none⟩ (Value.slice ao' k cap')) ao' k cap' zs) := rd4_other (w := w4) (B := w2.heap.size) ⟨_, _, _, _, _, g1⟩ (fun b hb => heap_setCell_other _ _ _ _ hb) r4
    have G4 : Hid _ := g4
    clear g1 g2 g3 g4 r4 hb4
    go_wp2_with fail
    refine bodyPost_ret (v := .agg #[.bool nx, .slice ao' k cap', .int .i64 e]) (res_num _ 4 (by kernel_rfl) _ _ (w.heap.size + 1 + 1) _ _ _ (by rfl) (set3_heap _ _ _ G4.out)) rfl ⟨_, nx, A + B, e, rfl, ?_, ⟨plus_same HL.out h0 h1, fun c _ _ => absurd c (by have := level_ne HL.out h0 h1; omega)⟩, ?_⟩
    · exact ⟨ao', k, cap', zs, rfl, rd4_set3 _ _ _ ⟨_, _, _, _, _, G4.out⟩ R5.out, n4, by rw [d4, d1, d2]⟩
    · exact ((HB5.out.setCell (by show w.heap.size ≤ w.heap.size + 1 + 1; omega) _).setCell (by show w.heap.size ≤ w.heap.size + 1 + 1; omega) _).setCell (by show w.heap.size ≤ w.heap.size + 1 + 1; omega) _
  have hny : ny = !nx := by cases nx <;> cases ny <;> simp at hs ⊢
  subst hny
  have t3 : (nx == !nx) = false := by cases nx <;> rfl
  by_cases hAB : B ≤ A
  · have hc4 : 0 ≤ cmpN A B := by unfold cmpN; rw [if_neg (by omega)]; split <;> omega
    have hll : l2 ≤ l1 := by
      rcases Nat.lt_or_ge l1 l2 with h | h
      · have := shorter_lt R1.out.lt R2.out.lt n2 (by rw [R1.out.length, R2.out.length]; exact h); omega
      · exact h
    go_wp2_with fail
    refine (cmp_any a1 l1 c1 xs1 a2 l2 c2 ys1 _ R1'.out R2'.out n1 n2).mono ?_
    rintro e3 w3 ⟨rfl, hb3⟩
    rw [d1, d2]
    have R1'' : Hid _ := R1'.out.later hb3
    have R2'' : Hid _ := R2'.out.later hb3
    have hb3z := hb3.size
    have HBW : Hid _ := hb3
    clear hb3
    go_wp2_with fail
    refine (minus_any a1 l1 c1 xs1 a2 l2 c2 ys1 _ R1''.out R2''.out hl1 hll (by rw [d1, d2]; exact hAB)).mono ?_
    rintro e4 w4 ⟨ao', k, cap', zs, rfl, r4, n4, d4, hb4', k4⟩
    have hb4 : Below (w2.alloc (Obj.cells #[Value.bool nx, Value.slice none 0 0, Value.int IntKind.i64 e] 87)).heap.size (w2.alloc (Obj.cells #[Value.bool nx, Value.slice none 0 0, Value.int IntKind.i64 e] 87)) w4 := HBW.out.trans (hb4'.mono hb3z)
    clear hb4'
    have lz4 := len_zero r4.length r4.lt n4
    rw [d4, d1, d2] at lz4
    obtain ⟨g1, g2, g3, g4⟩ := out_facts (Value.slice ao' k cap') hsz Q2.out hb4
    obtain ⟨c10, c11, c12⟩ := three_cells g1
    obtain ⟨c40, c41, c42⟩ := three_cells g4
    have f1 := fun j => frozen_of_row _ _ j _ _ g1
    obtain ⟨c30, c31, c32⟩ := three_cells g3
    have f4 := fun j => frozen_of_row _ _ j _ _ g4
    have HB5 : Hid (Below w.heap.size w (w4.setCell ⟨w2.heap.size, 1, none⟩ (Value.slice ao' k cap'))) := (HB3.out.trans (hb4.mono (by rw [hw2]; have := HB2.out.size; omega))).setCell (by show w.heap.size ≤ w2.heap.size; omega) _
    have R5 : Hid (Rd4 (w4.setCell ⟨w2.heap.size, 1, none⟩ (Value.slice ao' k cap')) ao' k cap' zs) := rd4_other (w := w4) (B := w2.heap.size) ⟨_, _, _, _, _, g1⟩ (fun b hb => heap_setCell_other _ _ _ _ hb) r4
    have G4 : Hid _ := g4
    clear g1 g2 g3 g4 r4 hb4
    by_cases heq : A = B
    · have hk : ((k : Int) == 0) = true := by rw [beq_iff_eq]; omega
      go_wp2_with fail
      refine bodyPost_ret (v := .agg #[.bool false, .slice none 0 0, .int .i64 0]) (res_num _ 4 (by kernel_rfl) _ _ (w.heap.size + 1 + 1) _ _ _ (by rfl) (set3_heap _ _ _ G4.out)) rfl ⟨_, false, 0, 0, rfl, ?_, ⟨plus_eq HL.out h0 h1 heq, fun _ _ _ => rfl⟩, ?_⟩
      · exact ⟨none, 0, 0, [], rfl, rd4_none' _, .inl rfl, rfl⟩
      · exact ((HB5.out.setCell (by show w.heap.size ≤ w.heap.size + 1 + 1; omega) _).setCell (by show w.heap.size ≤ w.heap.size + 1 + 1; omega) _).setCell (by show w.heap.size ≤ w.heap.size + 1 + 1; omega) _
    · have hk : ((k : Int) == 0) = false := by rw [beq_eq_false_iff_ne]; omega
      go_wp2_with fail
      refine bodyPost_ret (v := .agg #[.bool nx, .slice ao' k cap', .int .i64 e]) (res_num _ 4 (by kernel_rfl) _ _ (w.heap.size + 1 + 1) _ _ _ (by rfl) (set3_heap _ _ _ G4.out)) rfl ⟨_, nx, A - B, e, rfl, ?_, ⟨plus_ge HL.out h0 h1 hAB, fun c _ _ => absurd c (by omega)⟩, ?_⟩
      · exact ⟨ao', k, cap', zs, rfl, rd4_set3 _ _ _ ⟨_, _, _, _, _, G4.out⟩ R5.out, n4, by rw [d4, d1, d2]⟩
      · exact ((HB5.out.setCell (by show w.heap.size ≤ w.heap.size + 1 + 1; omega) _).setCell (by show w.heap.size ≤ w.heap.size + 1 + 1; omega) _).setCell (by show w.heap.size ≤ w.heap.size + 1 + 1; omega) _
  · have hc4 : cmpN A B = -1 := by unfold cmpN; rw [if_pos (by omega)]
    have hll : l1 ≤ l2 := by
      rcases Nat.lt_or_ge l2 l1 with h | h
      · have := shorter_lt R2.out.lt R1.out.lt n1 (by rw [R1.out.length, R2.out.length]; exact h); omega
      · exact h
    go_wp2_with fail
    refine (cmp_any a1 l1 c1 xs1 a2 l2 c2 ys1 _ R1'.out R2'.out n1 n2).mono ?_
    rintro e3 w3 ⟨rfl, hb3⟩
    rw [d1, d2, hc4]
    have R1'' : Hid _ := R1'.out.later hb3
    have R2'' : Hid _ := R2'.out.later hb3
    have hb3z := hb3.size
    have HBW : Hid _ := hb3
    have s1 := (hb3.block w2.heap.size (by simp)).trans (heap_alloc_new w2 _)
    have s2 := (hb3.block (w.heap.size + 1) (by simp; omega)).trans ((Below.heap_alloc w2 _ _ (by omega)).trans Q1.out)
    obtain ⟨s10, s11, s12⟩ := three_cells s1
    obtain ⟨s20, s21, s22⟩ := three_cells s2
    have fs := fun j => frozen_of_row _ _ j _ _ s1
    have S3 : Hid ((w3.setCell ⟨w2.heap.size, 0, none⟩ (Value.bool (!nx))).heap[w2.heap.size]? = some (Obj.cells #[Value.bool (!nx), Value.slice none 0 0, Value.int IntKind.i64 e] 87)) := heap_setCell_same _ _ 0 _ _ _ s1
    have S1 : Hid _ := s1
    clear hb3 s1 s2
    have SB : Hid (Below w.heap.size w (w3.setCell ⟨w2.heap.size, 0, none⟩ (Value.bool (!nx)))) := (HB3.out.trans (HBW.out.mono (by rw [hw2]; have := HB2.out.size; omega))).setCell (by show w.heap.size ≤ w2.heap.size; omega) _
    have S4 : Hid ((w3.setCell ⟨w2.heap.size, 0, none⟩ (Value.bool (!nx))).heap[w.heap.size + 1 + 1]? = some (Obj.cells #[Value.bool false, Value.slice none 0 0, Value.int IntKind.i64 0] 87)) := by
      unfold Hid
      rw [heap_setCell_other _ _ _ _ (by show w.heap.size + 1 + 1 ≠ w2.heap.size; omega), HBW.out.block (w.heap.size + 1 + 1) (by simp; omega), Below.heap_alloc _ _ _ (by omega)]; exact Q2.out
    have T1 : Hid _ := rd4_other (w := w3) (w' := w3.setCell ⟨w2.heap.size, 0, none⟩ (Value.bool (!nx))) (B := w2.heap.size) ⟨_, _, _, _, _, S1.out⟩ (fun b hb => heap_setCell_other _ _ _ _ hb) R1''.out
    have T2 : Hid _ := rd4_other (w := w3) (w' := w3.setCell ⟨w2.heap.size, 0, none⟩ (Value.bool (!nx))) (B := w2.heap.size) ⟨_, _, _, _, _, S1.out⟩ (fun b hb => heap_setCell_other _ _ _ _ hb) R2''.out
    have hsz3 : (w3.setCell ⟨w2.heap.size, 0, none⟩ (Value.bool (!nx))).heap.size = w3.heap.size := by simp
    rw [hw2] at hb3z
    go_wp2_with fail
    refine (minus_any a2 l2 c2 ys1 a1 l1 c1 xs1 _ T2.out T1.out hl2 hll (by rw [d1, d2]; omega)).mono ?_
    rintro e4 w4 ⟨ao', k, cap', zs, rfl, r4, n4, d4, hb4, k4⟩
    have lz4 := len_zero r4.length r4.lt n4
    rw [d4, d1, d2] at lz4
    have hk : ((k : Int) == 0) = false := by rw [beq_eq_false_iff_ne]; omega
    have g1 := (hb4.block w2.heap.size (by rw [hsz3]; omega)).trans S3.out
    have g2 := (hb4.block (w.heap.size + 1 + 1) (by rw [hsz3]; omega)).trans S4.out
    have g3 := heap_setCell_same _ _ 1 _ _ (Value.slice ao' k cap') g1
    have g4 : (w4.setCell ⟨w2.heap.size, 1, none⟩ (Value.slice ao' k cap')).heap[w.heap.size + 1 + 1]? = _ := (heap_setCell_other w4 ⟨w2.heap.size, 1, none⟩ (w.heap.size + 1 + 1) (Value.slice ao' k cap') (by show w.heap.size + 1 + 1 ≠ w2.heap.size; omega)).trans g2
    obtain ⟨c10, c11, c12⟩ := three_cells g1
    obtain ⟨c40, c41, c42⟩ := three_cells g4
    have f1 := fun j => frozen_of_row _ _ j _ _ g1
    have g3' : (w4.setCell ⟨w2.heap.size, 1, none⟩ (Value.slice ao' k cap')).heap[w2.heap.size]? = some (Obj.cells #[Value.bool (!nx), Value.slice ao' k cap', Value.int IntKind.i64 e] 87) := g3
    obtain ⟨c30, c31, c32⟩ := three_cells g3'
    have f4 := fun j => frozen_of_row _ _ j _ _ g4
    have HB5 : Hid (Below w.heap.size w (w4.setCell ⟨w2.heap.size, 1, none⟩ (Value.slice ao' k cap'))) := (SB.out.trans (hb4.mono (by rw [hsz3]; omega))).setCell (by show w.heap.size ≤ w2.heap.size; omega) _
    have R5 : Hid (Rd4 (w4.setCell ⟨w2.heap.size, 1, none⟩ (Value.slice ao' k cap')) ao' k cap' zs) := rd4_other (w := w4) (B := w2.heap.size) ⟨_, _, _, _, _, g1⟩ (fun b hb => heap_setCell_other _ _ _ _ hb) r4
    have G4 : Hid _ := g4
    clear g1 g2 g3 g3' g4 r4 hb4
    go_wp2_with fail
    refine bodyPost_ret (v := .agg #[.bool (!nx), .slice ao' k cap', .int .i64 e]) (res_num _ 4 (by kernel_rfl) _ _ (w.heap.size + 1 + 1) _ _ _ (by rfl) (set3_heap _ _ _ G4.out)) rfl ⟨_, !nx, B - A, e, rfl, ?_, ⟨plus_lt HL.out h0 h1 (by omega), fun c _ _ => absurd c (by omega)⟩, ?_⟩
    · exact ⟨ao', k, cap', zs, rfl, rd4_set3 _ _ _ ⟨_, _, _, _, _, G4.out⟩ R5.out, n4, by rw [d4, d1, d2]⟩
    · exact ((HB5.out.setCell (by show w.heap.size ≤ w.heap.size + 1 + 1; omega) _).setCell (by show w.heap.size ≤ w.heap.size + 1 + 1; omega) _).setCell (by show w.heap.size ≤ w.heap.size + 1 + 1; omega) _
theorem plusZ_any (v u : Value) (s : Nat) (T x y : Int) (w : World) (hx : NumZ w v s T x) (hy : NumZ w u s T y) (hs : s ≤ 20000) (hT : 0 ≤ T ∧ T ≤ 20000) :
    Calls Try.prog 38 #[v, u] w fun e' w' => ∃ v', e' = .returned v' ∧ NumZ w' v' s (T + 1) (x + y) ∧ Below w.heap.size w w' := by
  obtain ⟨nx, mx, ex, h1, h2, h3, h4⟩ := hx
  obtain ⟨ny, my, ey, k1, k2, k3, k4⟩ := hy
  refine (plusV_any v u nx ny mx my ex ey w h1 k1 (by omega) (by omega) (by omega) (by omega)).mono ?_
  rintro e' w' ⟨v', neg, m, e, rfl, hN, hP, hB⟩
  obtain ⟨p1, p2, p3⟩ := hP.1 s T h2 k2 h3 k3 hT.1
  exact ⟨v', rfl, ⟨neg, m, e, hN, p1, p2, by rw [p3, h4, k4]⟩, hB⟩
end Go.Proofs.Ytoehhnildocihaa

namespace Go.Proofs.Ytoehhnildocihaa
open Go.RowKit
set_option linter.unusedVariables false
theorem times_step {Z Z' W c x y o S Yk I P : Nat} (hW : 0 < W) (hS : S = c + x * y + o) (hset : Z' + W * o = Z + W * (S % 4294967296)) (h : Z + W * c = P + I * x * Yk) (wk : Nat) (hWk : W = I * wk) :
    Z' + 4294967296 * W * (S / 4294967296) = P + I * x * (Yk + wk * y) := by
  have e1 := Nat.div_add_mod S 4294967296
  have e2 : 4294967296 * W * (S / 4294967296) + W * (S % 4294967296) = W * S := by
    rw [Nat.mul_comm 4294967296 W, Nat.mul_assoc, ← Nat.mul_add, e1]
  have e3 : W * S = W * c + W * (x * y) + W * o := by rw [hS, Nat.mul_add, Nat.mul_add]
  have e4 : I * x * (Yk + wk * y) = I * x * Yk + W * (x * y) := by
    rw [Nat.mul_add, hWk]; congr 1
    rw [Nat.mul_assoc, Nat.mul_assoc]; congr 1
    rw [← Nat.mul_assoc, ← Nat.mul_assoc, Nat.mul_comm x wk]
  omega
set_option maxRecDepth 100000 in
set_option maxHeartbeats 2000000 in
theorem times_any (ao : Option Addr) (len cap : Nat) (xs : List Nat) (bo : Option Addr) (blen bcap : Nat) (ys : List Nat) (w : World) (hx : Rd4 w ao len cap xs) (hy : Rd4 w bo blen bcap ys) (hl : len ≤ 10000) (hl2 : blen ≤ 10000) :
    Calls Try.prog 77 #[.slice ao len cap, .slice bo blen bcap] w fun e w' => ∃ ao' k cap' zs, e = .returned (.slice ao' k cap') ∧ Rd4 w' ao' k cap' zs ∧ Nm zs ∧ dig zs = dig xs * dig ys ∧ Below w.heap.size w w' ∧ k ≤ len + blen := by
  have h1 := hx.le
  have h2 := hx.max
  have h3 := hy.le
  have h4 := hy.max
  obtain ⟨w1, hmk, hO, hB1⟩ := make4 w (len + blen) (by omega)
  have hmk' := hmk ((len : Int) + (blen : Int)) (by omega)
  have HX : Hid _ := hx
  have HY : Hid _ := hy
  have HO : Hid _ := hO
  have HB1 : Hid _ := hB1
  clear hmk hx hy hO hB1
  go_enter Try.func77, Try.ntmps77
  go_wp2_with fail
  go_loopg [6] len (fun gg i wx => ∃ (k : Nat) (zs : List Nat), k ≤ len ∧ i = .int .i64 k ∧ Hid (Own4 wx w.heap.size w.heap.size (len + blen) zs) ∧ Hid (Below w.heap.size w wx) ∧ Hid (U4 zs) ∧ Hid (dig zs = dig (xs.take k) * dig ys) ∧ Hid (∀ j, k + blen ≤ j → zs[j]?.getD 0 = 0) ∧ len ≤ k + gg)
  case atStart =>
    refine ⟨0, List.replicate (len + blen) 0, by omega, rfl, HO, HB1, ?_, ?_, ?_, by omega⟩
    · intro x hx; rw [List.eq_of_mem_replicate hx]; decide
    · unfold Hid; rw [dig_zeros]; simp [dig]
    · intro j _; rw [List.getElem?_replicate]; split <;> rfl
  case round =>
    obtain ⟨i, zs, hi, rfl, HOz, HBz, HUz, HDz, HZz, hfu⟩ := hrel
    by_cases hlt : i < len
    · obtain ⟨fu, rfl⟩ : ∃ g, gk = g + 1 := ⟨gk - 1, by omega⟩
      rcases HX.out.cells with hh | ⟨b, off, rfl, hc⟩
      · omega
      have HCX : Hid (w.cell? ⟨b, off + i, none⟩ = some (.int .u32 ((xs[i]?.getD 0 : Nat) : Int))) := hc i hlt
      have hxb := HX.out.lt.at i
      have HTX : Hid _ := dig_take_more (ys := xs) (k := i)
      clear hc
      generalize xs[i]?.getD 0 = x at *
      go_wp2_with fail
      go_loopg [7, 8] blen (fun gg c kk wx => ∃ (k cc : Nat) (zs' : List Nat), k ≤ blen ∧ kk = .int .i64 k ∧ c = .int .u64 cc ∧ cc < 4294967296 ∧ Hid (Own4 wx w.heap.size w.heap.size (len + blen) zs') ∧ Hid (Below w.heap.size w wx) ∧ Hid (U4 zs') ∧ Hid (dig zs' + wd (i + k) * cc = dig (xs.take i) * dig ys + wd i * x * dig (ys.take k)) ∧ Hid (∀ j, i + blen ≤ j → zs'[j]?.getD 0 = 0) ∧ blen ≤ k + gg)
      case atStart =>
        refine ⟨0, 0, zs, by omega, rfl, rfl, by omega, HOz, HBz, HUz, ?_, HZz, by omega⟩
        unfold Hid; rw [HDz.out]; simp [dig]
      case round =>
        obtain ⟨k, cc, zs', hk, rfl, rfl, hcc, HOy, HBy, HUy, HDy, HZy, hfu2⟩ := hrel
        by_cases hlt2 : k < blen
        · obtain ⟨fu2, rfl⟩ : ∃ g, gk = g + 1 := ⟨gk - 1, by omega⟩
          rcases HY.out.cells with hh | ⟨b2, off2, rfl, hc2⟩
          · omega
          have g := (HBy.out.cell (World.block_lt_of_cell? w _ HCX.out)).trans HCX.out
          have g2 := (HBy.out.cell (World.block_lt_of_cell? w _ (hc2 k hlt2))).trans (hc2 k hlt2)
          have hyb := HY.out.lt.at k
          obtain ⟨J, hJ⟩ : ∃ J : Nat, i + k = J := ⟨_, rfl⟩
          have gz := HOy.out.cell J (by omega)
          have hob := HUy.out.at J
          have gf := HOy.out.frozen J
          have HSET : Hid _ := HOy.out.set J
          have HTY : Hid _ := dig_take_more (ys := ys) (k := k)
          have HDS : Hid (∀ v, dig (zs'.set J v) + wd J * zs'[J]?.getD 0 = dig zs' + wd J * v) := fun v => dig_set (by rw [HOy.out.1]; omega)
          clear hc2
          generalize ys[k]?.getD 0 = y at *
          generalize zs'[J]?.getD 0 = o at *
          obtain ⟨P, hP⟩ : ∃ P : Nat, x * y = P := ⟨_, rfl⟩
          have hPi : (x : Int) * (y : Int) = (P : Int) := by rw [← hP, Int.natCast_mul]
          have hPb : P ≤ 18446744065119617025 := by
            rw [← hP]; exact Nat.mul_le_mul (show x ≤ 4294967295 by omega) (show y ≤ 4294967295 by omega)
          obtain ⟨S, hS⟩ : ∃ S : Nat, cc + P + o = S := ⟨_, rfl⟩
          have hSi : (cc : Int) + P + o = (S : Int) := by omega
          have hSb : S < 18446744073709551616 := by omega
          have hkk : (i : Int) + (k : Int) = (J : Int) := by omega
          have HJ : Hid (i + k = J) := hJ
          have hJb : J < len + blen := by omega
          have HS0 : Hid _ := hS
          have HP0 : Hid _ := hP
          obtain ⟨Q, hQ⟩ : ∃ Q : Nat, cc + P = Q := ⟨_, rfl⟩
          have hw1 : IntKind.u64.wrap ((x : Int) * (y : Int)) = (P : Int) := by rw [hPi, IntKind.wrap_u64]; omega
          have hw2 : IntKind.u64.wrap ((cc : Int) + (P : Int)) = (Q : Int) := by rw [IntKind.wrap_u64]; omega
          have hw3 : IntKind.u64.wrap ((Q : Int) + (o : Int)) = (S : Int) := by rw [IntKind.wrap_u64]; omega
          have hw4 : IntKind.i64.wrap ((i : Int) + (k : Int)) = (J : Int) := by rw [IntKind.wrap_i64]; omega
          have hw5 : IntKind.i64.wrap (J : Int) = (J : Int) := by rw [IntKind.wrap_i64]; omega
          clear hS hP hQ hSi hPi hJ
          go_wp2_with fail
          go_region
          go_wp2_with fail
          go_roundg fu2
          case rel =>
            refine ⟨k + 1, S / 4294967296, zs'.set J (S % 4294967296), by omega, by go_num, by go_num, by omega, HSET.out _, (below_set HBy.out (Nat.le_refl _)).drew, HUy.out.set _ _ (Nat.mod_lt _ (by decide)), ?_, ?_, by omega⟩
            · unfold Hid
              have hDy := HDy.out
              rw [HJ.out] at hDy
              rw [HTY.out, ← Nat.add_assoc, HJ.out, wd_succ]
              exact times_step (wd_pos _) (by rw [HP0.out, HS0.out]) (HDS.out _) hDy (wd k) (by rw [← HJ.out, wd_add])
            · intro j hj
              rw [List.getElem?_set, if_neg (by have := HJ.out; omega)]; exact HZy.out j hj
          case measure => omega
        · obtain rfl : k = blen := by omega
          obtain ⟨J, hJ⟩ : ∃ J : Nat, i + k = J := ⟨_, rfl⟩
          have gz := HOy.out.cell J (by omega)
          rw [HZy.out J (by omega)] at gz
          have gf := HOy.out.frozen J
          have HSET : Hid _ := HOy.out.set J cc
          have HDF : Hid (dig (zs'.set J cc) = dig (xs.take (i + 1)) * dig ys) := by
            unfold Hid
            have e1 := dig_set (xs := zs') (k := J) (v := cc) (by rw [HOy.out.1]; omega)
            have hDy := HDy.out
            rw [hJ] at hDy
            rw [HZy.out J (by omega), Nat.mul_zero, Nat.add_zero, hDy, List.take_of_length_le (l := ys) (by rw [HY.out.length]; omega)] at e1
            rw [e1, HTX.out, Nat.add_mul]
          have hkk : (i : Int) + (k : Int) = (J : Int) := by omega
          have HJ : Hid (i + k = J) := hJ
          have hJb : J < len + k := by omega
          have hw4 : IntKind.i64.wrap ((i : Int) + (k : Int)) = (J : Int) := by rw [IntKind.wrap_i64]; omega
          clear hJ
          have hcm : (cc : Int) % 4294967296 = (cc : Int) := by omega
          go_wp2_with fail
          go_roundg fu
          case rel =>
            refine ⟨i + 1, zs'.set J cc, by omega, by go_num, HSET, below_set HBy.out (Nat.le_refl _), HUy.out.set _ _ hcc, HDF, ?_, by omega⟩
            intro j hj
            rw [List.getElem?_set, if_neg (by have := HJ.out; omega)]; exact HZy.out j (by omega)
          case measure => omega
    · obtain rfl : i = len := by omega
      have HDF : Hid (dig zs = dig xs * dig ys) := by
        unfold Hid; rw [HDz.out, List.take_of_length_le (by rw [HX.out.length]; omega)]
      go_wp2_with fail
      refine (trim_any _ _ _ zs _ (Own4.rd HOz.out HUz.out (by omega))).mono ?_
      rintro e w' ⟨ao', m, rfl, rfl, hr', hm', hnm, hdg⟩
      go_wp2_with fail
      go_ret
      exact ⟨ao', m, _, _, rfl, hr', hnm, by rw [hdg, HDF.out], HBz.out, by omega⟩
end Go.Proofs.Ytoehhnildocihaa
