import Derived.Test.YtfldgjkpkmnkbabDoorRefFrames
import Derived.Test.YtfldgjkpkmnkbabDoorRefTexts
import Derived.Test.YtfldgjkpkmnkbabDoorRefSum
import Derived.Test.YtfldgjkpkmnkbabDoorOwnM
import Derived.Test.YtfldgjkpkmnkbabDoorTold
import Derived.Test.YtfldgjkpkmnkbabDoorThings2
import Derived.Deep.DeepCutAuto
import Derived.Laws.OwnMore
namespace Go.Proofs.YtfldgjkpkmnkbabDoor
open Go.RowKit
set_option linter.unusedVariables false

/-- A slice of turns: what is read of it. -/
structure RdT (w : World) (ao : Option Addr) (len cap : Nat) (ts : List (Int × Int)) : Prop where
  length : ts.length = len
  le : len ≤ cap
  max : cap ≤ 9223372036854775807
  bnd : ∀ x ∈ ts, -9223372036854775808 ≤ x.1 ∧ x.1 ≤ 9223372036854775807
  cells : len = 0 ∨ ∃ b off, ao = some ⟨b, off, none⟩ ∧ ∀ j, j < len → w.cell? ⟨b, off + 2 * j, none⟩ = some (.int .i64 (ts[j]?.getD (0, 0)).1) ∧ w.cell? ⟨b, off + 2 * j + 1, none⟩ = some (.int .i64 (ts[j]?.getD (0, 0)).2)

theorem LaidAt.form {w : World} {base : Nat} {v : Value} {xs : List Int} (h : LaidAt w base v xs) : ∃ g cap, v = .slice (some ⟨g, 0, none⟩) xs.length cap ∧ base ≤ g := by
  obtain ⟨⟨g, cap, hv, hg, ho⟩, hy, hs⟩ := h
  exact ⟨g, cap, hv, hg⟩
theorem LaidAt.rdG {w : World} {base g L C : Nat} {xs : List Int} (h : LaidAt w base (.slice (some ⟨g, 0, none⟩) L C) xs) : Rd w (some ⟨g, 0, none⟩) L C xs := by
  obtain ⟨ao, cap, he, hr⟩ := h.rd
  simp only [Value.slice.injEq] at he
  obtain ⟨rfl, rfl, rfl⟩ := he
  exact hr
theorem laid_len (xs : List Int) : (xs ++ [201, 202, 203] ++ List.replicate 70 (206 : Int)).length = xs.length + 73 := by
  rw [List.length_append, List.length_append, List.length_replicate]
  rfl
theorem LaidAt.frozen {w : World} {base g L C : Nat} {xs : List Int} (h : LaidAt w base (.slice (some ⟨g, 0, none⟩) L C) xs) (j : Nat) : w.frozen? ⟨g, j, none⟩ = false := by
  obtain ⟨⟨g', cap, hv, hg, ho⟩, hy, hs⟩ := h
  simp only [Value.slice.injEq, Option.some.injEq, Addr.mk.injEq, and_true] at hv
  obtain ⟨rfl, rfl, rfl⟩ := hv
  exact World.ownsRow.frozenAt (n := xs.length + 73) (by have h := ho; unfold Own at h; rw [laid_len] at h; exact h) j
theorem LaidAt.set {w : World} {base g L C : Nat} {xs : List Int} (h : LaidAt w base (.slice (some ⟨g, 0, none⟩) L C) xs) (t : Nat) (b : Int) (ht : t < L) (h0 : 0 ≤ b) (h1 : b ≤ 255) :
    LaidAt (w.setCell ⟨g, t, none⟩ (.int .u8 b)) base (.slice (some ⟨g, 0, none⟩) L C) (xs.set t b) := by
  obtain ⟨⟨g', cap, hv, hg, ho⟩, hy, hs⟩ := h
  simp only [Value.slice.injEq, Option.some.injEq, Addr.mk.injEq, and_true] at hv
  obtain ⟨rfl, rfl, rfl⟩ := hv
  refine ⟨⟨g, C, by rw [List.length_set], hg, ?_⟩, ?_, by rw [List.length_set]; exact hs⟩
  · have h := ho
    unfold Own at h ⊢
    rw [laid_len] at h
    have h2 := (World.ownsRow.stored h t (.int .u8 b)).1
    rw [← List.map_set (f := Value.int .u8), List.append_assoc, List.set_append_left _ _ ht, ← List.append_assoc] at h2
    rw [laid_len, List.length_set]
    exact h2
  · intro x hx
    rcases List.mem_or_eq_of_mem_set hx with hx | rfl
    · exact hy x hx
    · exact ⟨h0, h1⟩

/-- What stands at each step of a round: the bytes as they lie, a copy of them, the tables. -/
structure St (w wn : World) (G C L : Nat) (a : Option Addr) (l c : Nat) (ys : List Int) : Prop where
  laid : LaidAt wn w.heap.size (.slice (some ⟨G, 0, none⟩) L C) ys
  now : Rd wn a l c ys
  bel : Below w.heap.size w wn
  tab : U8 wn
theorem St.later {w wn wm : World} {G C L : Nat} {a : Option Addr} {l c : Nat} {ys : List Int} (h : St w wn G C L a l c ys) (hb : Below wn.heap.size wn wm) : St w wm G C L a l c ys :=
  ⟨h.laid.later hb, h.now.later hb, below_trans h.bel hb, h.tab.later hb⟩
theorem RdL.two {w : World} {a : Option Addr} {l c : Nat} {xs : List Int} (h : Rd w a l c xs) : RdL (w.alloc (.cells #[.slice a l c, .slice a l c] 23)) (some ⟨w.heap.size, 0, none⟩) 2 [xs, xs] := by
  refine ⟨rfl, by decide, .inr ⟨_, _, rfl, fun j hj => ?_⟩⟩
  have hr := h.later ((Below.refl w.heap.size w).alloc (Nat.le_refl _) (.cells #[.slice a l c, .slice a l c] 23))
  refine ⟨a, l, c, ?_, ?_⟩
  · rw [Nat.zero_add, cell_of_row _ w.heap.size j _ _ _ (heap_alloc_new w _)]
    match j, hj with
    | 0, _ => rfl
    | 1, _ => rfl
  · match j, hj with
    | 0, _ => exact hr
    | 1, _ => exact hr

set_option maxRecDepth 100000 in
set_option maxHeartbeats 4000000 in
theorem wireAgain_core (ao a1 at' : Option Addr) (len cap l1 c1 lt ct : Nat) (xs : List Int) (ts : List (Int × Int)) (p : Int) (w : World) (hr : Rd w a1 l1 c1 xs) (hrt : RdT w at' lt ct ts) (hT : U8 w) (hl : len ≤ 9223372036854775807) (hl1 : l1 ≤ 4000)
    (h1 : (4000 < len ∧ ∀ w, (Instr.slice 23 (.slice ao len cap) none (some (.int .i64 4000)) none).run Tryd.prog w = .ok (.slice a1 l1 c1) w) ∨ (len ≤ 4000 ∧ a1 = ao ∧ l1 = len ∧ c1 = cap)) :
    Calls Tryd.prog 8 #[.slice ao len cap, .int .i64 p, .slice at' lt ct] w fun e w' => e = .returned (.bool true) ∧ Below w.heap.size w w' := by
  have hcl := hrt.cells
  have hltm : lt ≤ 9223372036854775807 := by have := hrt.le; have := hrt.max; omega
  have HBD : Hid _ := hrt.bnd
  have HL : Hid _ := hrt.length
  have HR : Hid _ := hr
  have HT : Hid (U8 w) := hT
  clear hr hT hrt
  rcases h1 with ⟨h1, h1'⟩ | ⟨h1, rfl, rfl, rfl⟩
  have hdec : decide ((4000 : Int) < (len : Int)) = true := decide_eq_true (by omega)
  rotate_left
  have hdec : decide ((4000 : Int) < (l1 : Int)) = false := decide_eq_false (by omega)
  rotate_left
  all_goals
    go_enter Tryd.func8, Tryd.ntmps8
    go_wp2_with fail
    refine (told_any _).mono ?_
    rintro e w2 ⟨rfl, hb2⟩
    have HB2 : Hid (Below w.heap.size w w2) := hb2
    clear hb2
    go_wp2_with fail
    refine (laid_small _ _ _ xs _ (HR.out.later HB2.out) (by omega)).mono ?_
    rintro e w3 ⟨v3, rfl, hLaid, hb3⟩
    have HB3 : Hid (Below w.heap.size w w3) := below_trans HB2.out hb3
    have HLA : Hid (LaidAt w3 w.heap.size v3 xs) := hLaid.mono HB2.out.size
    clear hLaid hb3
    obtain ⟨G, C, rfl, hG⟩ := HLA.out.form
    have hLX := HR.out.length
    rw [hLX] at HLA ⊢
    have hGG : w.heap.size ≤ G := hG
    go_wp2_with fail
    go_loopg [8] 21 (fun g i wx => ∃ (k : Nat) (ys : List Int), i = .int .i64 k ∧ k ≤ 21 ∧ LaidAt wx w.heap.size (.slice (some ⟨G, 0, none⟩) l1 C) ys ∧ Below w.heap.size w wx ∧ 21 ≤ k + g)
    case atStart => exact ⟨0, xs, rfl, by omega, HLA.out, HB3.out, by omega⟩
    case round =>
      obtain ⟨k, ys, rfl, hk, hLY, hbel, hfu⟩ := hrel
      by_cases hin : k ≤ lt ∧ k ≤ 20
      · obtain ⟨hi1, hi2⟩ := hin
        obtain ⟨fu, rfl⟩ : ∃ g, gk = g + 1 := ⟨gk - 1, by omega⟩
        have d1 : decide ((k : Int) ≤ (lt : Int)) = true := decide_eq_true (by omega)
        have d2 : decide ((k : Int) ≤ 20) = true := decide_eq_true (by omega)
        have HLY : Hid (LaidAt wr w.heap.size (.slice (some ⟨G, 0, none⟩) l1 C) ys) := hLY
        have HBEL : Hid (Below w.heap.size w wr) := hbel
        have HYL : Hid (ys.length = l1) := hLY.rdG.length
        have HYB : Hid (Byt ys) := hLY.rdG.byt
        clear hLY hbel HB2 HB3 HLA HR
        go_wp2_with (at_builtin; refine append_rd _ rfl _ _ rfl wr.heap.size _ [] (by rfl) (Own.nil _ _) _ _ _ ys (by rfl) (LaidAt.rdG HLY.out) (by simp; omega) (Nat.le_refl _) ?_; intro v4 w4 hO4 hb4; rw [List.nil_append] at hO4; obtain ⟨an, ln, cn, rfl, hrn⟩ := hO4.rd' HYB.out; have hln : l1 = ln := HYL.out.symm.trans hrn.length; subst hln; have HS4 : Hid (St w w4 G C l1 an l1 cn ys) := ⟨HLY.out.later hb4, hrn, below_trans HBEL.out hb4, HT.out.later (below_trans HBEL.out hb4)⟩; clear hO4 hb4 hrn)
        obtain ⟨⟨n5, q5, e5⟩, hrU⟩ : ∃ r, rdU ys p = r := ⟨_, rfl⟩
        obtain ⟨⟨s6, q6, e6⟩, hrT⟩ : ∃ r, rdT ys p 5000 = r := ⟨_, rfl⟩
        have HU : Hid _ := hrU
        have HTT : Hid _ := hrT
        clear hrU hrT
        refine (readUint_any _ _ _ ys p _ HS4.out.laid.rdG).mono ?_
        rintro e w5 ⟨rfl, hb5⟩
        rw [HU.out]
        unfold rdV
        have HS5 : Hid (St w w5 G C l1 an l1 cn ys) := HS4.out.later hb5
        clear hb5 HS4
        go_wp2_with fail
        refine (refReadUint_any _ _ _ ys p _ HS5.out.now (by omega)).mono ?_
        rintro e w6 ⟨rfl, hb6⟩
        rw [HU.out]
        unfold rdV
        have HS6 : Hid (St w w6 G C l1 an l1 cn ys) := HS5.out.later hb6
        clear hb6 HS5
        go_wp2_with fail
        refine (readText_any _ _ _ ys p 5000 _ HS6.out.laid.rdG HS6.out.tab).mono ?_
        rintro e w7 ⟨rfl, hb7⟩
        rw [HTT.out]
        unfold rdTv
        have HS7 : Hid (St w w7 G C l1 an l1 cn ys) := HS6.out.later hb7
        clear hb7 HS6
        go_wp2_with fail
        refine (refReadText_any _ _ _ ys p 5000 _ HS7.out.now (by omega)).mono ?_
        rintro e w8 ⟨rfl, hb8⟩
        rw [HTT.out]
        unfold rdTv
        have HS8 : Hid (St w w8 G C l1 an l1 cn ys) := HS7.out.later hb8
        clear hb8 HS7
        go_wp2_with fail
        have HRB : Hid (Byt (rdR ys p).1) := rdR_byt ys p HYB.out
        obtain ⟨q9, hq9⟩ : ∃ r, (rdR ys p).2.1 = r := ⟨_, rfl⟩
        obtain ⟨e9, he9⟩ : ∃ r, (rdR ys p).2.2 = r := ⟨_, rfl⟩
        have HQ9 : Hid _ := hq9
        have HE9 : Hid _ := he9
        clear hq9 he9
        refine (readFrame_any _ _ _ ys p _ HS8.out.laid.rdG).mono ?_
        rintro e w9 ⟨v9, rfl, hO9, hb9⟩
        rw [HQ9.out, HE9.out]
        obtain ⟨ax, lx, cx, rfl, hrx⟩ := hO9.rd' HRB.out
        have HRX9 : Hid (Rd w9 ax lx cx (rdR ys p).1) := hrx
        have HS9 : Hid (St w w9 G C l1 an l1 cn ys) := HS8.out.later hb9
        clear hb9 HS8 hO9 hrx
        go_wp2_with fail
        refine (refReadFrame_any _ _ _ ys p _ HS9.out.now (by omega)).mono ?_
        rintro e w10 ⟨v10, rfl, hO10, hb10⟩
        rw [HQ9.out, HE9.out]
        obtain ⟨ay, ly, cy, rfl, hry⟩ := hO10.rd' HRB.out
        have HRY10 : Hid (Rd w10 ay ly cy (rdR ys p).1) := hry
        have HRX10 : Hid (Rd w10 ax lx cx (rdR ys p).1) := HRX9.out.later hb10
        have HS10 : Hid (St w w10 G C l1 an l1 cn ys) := HS9.out.later hb10
        clear hb10 HS9 hO10 hry HRX9
        go_wp2_with fail
        refine (frame_small _ _ _ ys _ HS10.out.laid.rdG (by omega)).mono ?_
        rintro e w11 ⟨v11, rfl, hO11, hb11⟩
        obtain ⟨aa, la, ca, rfl, hra⟩ := hO11.rd' (frame_byt HYB.out)
        have HRA11 : Hid (Rd w11 aa la ca (frameB ys)) := hra
        have HRX11 : Hid (Rd w11 ax lx cx (rdR ys p).1) := HRX10.out.later hb11
        have HRY11 : Hid (Rd w11 ay ly cy (rdR ys p).1) := HRY10.out.later hb11
        have HS11 : Hid (St w w11 G C l1 an l1 cn ys) := HS10.out.later hb11
        clear hb11 HS10 hO11 hra HRX10 HRY10
        go_wp2_with fail
        refine (refFrame_small _ _ _ ys _ HS11.out.now (by omega)).mono ?_
        rintro e w12 ⟨v12, rfl, hO12, hb12⟩
        obtain ⟨ac, lc, cc, rfl, hrc⟩ := hO12.rd' (frame_byt HYB.out)
        have HRC12 : Hid (Rd w12 ac lc cc (frameB ys)) := hrc
        have HRA12 : Hid (Rd w12 aa la ca (frameB ys)) := HRA11.out.later hb12
        have HRX12 : Hid (Rd w12 ax lx cx (rdR ys p).1) := HRX11.out.later hb12
        have HRY12 : Hid (Rd w12 ay ly cy (rdR ys p).1) := HRY11.out.later hb12
        have HS12 : Hid (St w w12 G C l1 an l1 cn ys) := HS11.out.later hb12
        clear hb12 HS11 hO12 hrc HRX11 HRY11 HRA11
        go_wp2_with fail
        refine (same_any _ _ _ _ _ _ _ _ _ HRX12.out HRY12.out).mono ?_
        rintro e w13 ⟨rfl, hb13⟩
        rw [show decide ((rdR ys p).1 = (rdR ys p).1) = true from decide_eq_true rfl]
        have HRC13 : Hid (Rd w13 ac lc cc (frameB ys)) := HRC12.out.later hb13
        have HRA13 : Hid (Rd w13 aa la ca (frameB ys)) := HRA12.out.later hb13
        have HS13 : Hid (St w w13 G C l1 an l1 cn ys) := HS12.out.later hb13
        clear hb13 HS12 HRX12 HRY12 HRA12 HRC12
        go_wp2_with fail
        refine (same_any _ _ _ _ _ _ _ _ _ HRA13.out HRC13.out).mono ?_
        rintro e w14 ⟨rfl, hb14⟩
        rw [show decide (frameB ys = frameB ys) = true from decide_eq_true rfl]
        have HS14 : Hid (St w w14 G C l1 an l1 cn ys) := HS13.out.later hb14
        clear hb14 HS13 HRA13 HRC13
        go_wp2_with fail
        refine (sum_any _ 2 2 [ys, ys] _ (RdL.two HS14.out.laid.rdG)).mono ?_
        rintro e w15 ⟨rfl, hb15⟩
        have HS15 : Hid (St w w15 G C l1 an l1 cn ys) := HS14.out.later (below_trans ((Below.refl _ _).alloc (Nat.le_refl _) _) hb15)
        clear hb15 HS14
        obtain ⟨S, hS⟩ : ∃ S : Int, ((sum [ys, ys].flatten : Nat) : Int) = S := ⟨_, rfl⟩
        rw [hS]
        have HSS : Hid _ := hS
        clear hS
        go_wp2_with fail
        refine (refSum_any _ 2 2 [ys, ys] _ (RdL.two HS15.out.now)).mono ?_
        rintro e w16 ⟨rfl, hb16⟩
        rw [HSS.out]
        have HS16 : Hid (St w w16 G C l1 an l1 cn ys) := HS15.out.later (below_trans ((Below.refl _ _).alloc (Nat.le_refl _) _) hb16)
        clear hb16 HS15
        go_wp2_with fail
        refine (intact_at _ ys w.heap.size _ _ _ _ HS16.out.laid HS16.out.now).mono ?_
        rintro e w17 ⟨rfl, hb17⟩
        have HS17 : Hid (St w w17 G C l1 an l1 cn ys) := HS16.out.later hb17
        clear hb17 HS16
        by_cases h2 : k < lt
        · by_cases h3 : 0 < l1
          · rcases hcl with h0 | ⟨b, off, rfl, hc⟩
            · omega
            obtain ⟨g0, g1⟩ := hc k h2
            have g0' := (HS17.out.bel.cell (World.block_lt_of_cell? w _ g0)).trans g0
            have g1' := (HS17.out.bel.cell (World.block_lt_of_cell? w _ g1)).trans g1
            have hxb := HBD.out (ts[k]?.getD (0, 0)) (by rw [List.getElem?_eq_getElem (by rw [HL.out]; exact h2)]; exact List.getElem_mem _)
            clear g0 g1 hc
            have g0a := g0'
            have g1a := g1'
            rw [Nat.mul_comm 2 k] at g0a g1a
            generalize (ts[k]?.getD (0, 0)).1 = X at *
            generalize (ts[k]?.getD (0, 0)).2 = Y at *
            have d3 : decide ((0 : Int) < (l1 : Int)) = true := decide_eq_true (by omega)
            have d4 : decide ((k : Int) < (lt : Int)) = true := decide_eq_true (by omega)
            obtain ⟨t, ht, ht'⟩ : ∃ t : Nat, X % (l1 : Int) = (t : Int) ∧ t < l1 := ⟨(X % (l1 : Int)).toNat, by have := Int.emod_nonneg X (show (l1 : Int) ≠ 0 by omega); omega, by have := Int.emod_lt_of_pos X (show (0 : Int) < (l1 : Int) by omega); omega⟩
            have hfz := HS17.out.laid.frozen
            have hcell : w17.cell? ⟨G, t, none⟩ = some (.int .u8 (ys[t]?.getD 0)) := by
              rcases HS17.out.laid.rdG.cells with h0 | ⟨b', off', he, hc'⟩
              · omega
              · simp only [Option.some.injEq, Addr.mk.injEq] at he
                obtain ⟨rfl, rfl, -⟩ := he
                have := hc' t ht'
                rwa [Nat.zero_add] at this
            go_upto_region 23 with fail
            go_region_with (go_at_call 14; refine (spot_any X l1 h3 (by omega) hxb.1 hxb.2 _).mono ?_; rintro e w18 ⟨rfl, rfl⟩; rw [ht])
            all_goals
              go_wp2_with fail
              go_roundg fu
              case measure => omega
              case rel => exact ⟨k + 1, ys.set t (Y % 256), by go_num, by omega, (LaidAt.set HS17.out.laid t _ ht' (by omega) (by omega)).later (Below.refl _ _).drew, (HS17.out.bel.setCell hGG _).drew, by omega⟩
          · go_wp2
            go_roundg fu
            case measure => omega
            case rel => exact ⟨k + 1, ys, by go_num, by omega, HS17.out.laid, HS17.out.bel, by omega⟩
        · have d4 : decide ((k : Int) < (lt : Int)) = false := decide_eq_false (by omega)
          have h2' : k ≤ 20 := hi2
          go_wp2
          go_roundg fu
          case measure => omega
          case rel => exact ⟨k + 1, ys, by go_num, by omega, HS17.out.laid, HS17.out.bel, by omega⟩
      · have HBEL : Hid (Below w.heap.size w wr) := hbel
        by_cases hi1 : k ≤ lt
        · have d1 : decide ((k : Int) ≤ (lt : Int)) = true := decide_eq_true (by omega)
          have d2 : decide ((k : Int) ≤ 20) = false := decide_eq_false (by omega)
          go_wp2
          go_ret
          exact ⟨rfl, HBEL.out⟩
        · have d1 : decide ((k : Int) ≤ (lt : Int)) = false := decide_eq_false (by omega)
          go_wp2
          go_ret
          exact ⟨rfl, HBEL.out⟩
theorem wireAgain_any (ao at' : Option Addr) (len cap lt ct : Nat) (xs : List Int) (ts : List (Int × Int)) (p : Int) (w : World) (hr : Rd w ao len cap xs) (hrt : RdT w at' lt ct ts) (hT : U8 w) :
    Calls Tryd.prog 8 #[.slice ao len cap, .int .i64 p, .slice at' lt ct] w fun e w' => e = .returned (.bool true) ∧ Below w.heap.size w w' := by
  have h1 := hr.le
  have h2 := hr.max
  by_cases h : len ≤ 4000
  · exact wireAgain_core ao ao at' len cap len cap lt ct xs ts p w hr hrt hT (by omega) h (.inr ⟨h, rfl, rfl, rfl⟩)
  · obtain ⟨a', l', c', hcut, hr'⟩ := cut_to hr 4000 (by omega)
    have hl' := hr'.length
    rw [List.length_take] at hl'
    exact wireAgain_core ao a' at' len cap l' c' lt ct _ ts p w hr' hrt hT (by omega) (by omega) (.inl ⟨by omega, hcut⟩)
end Go.Proofs.YtfldgjkpkmnkbabDoor
