import Derived.Test.YthmhgpadinecfaaGreatTEf
set_option maxRecDepth 100000
set_option maxHeartbeats 1000000
set_option linter.unusedVariables false
set_option linter.unusedSimpArgs false
namespace Go.Proofs.YthmhgpadinecfaaGreat
open Go.RowKit
theorem info3 {P : Program} {t : TypeId} {z : Value} {s b : Nat} (h : (P.info? t).map (fun i => (i.zero, i.size, i.bytes)) = some (some z, s, b)) : ∃ i, P.info? t = some i /\ i.zero = some z /\ i.size = s /\ i.bytes = b := by
 cases hi : P.info? t with
 | none => rw [hi] at h; cases h
 | some i => rw [hi] at h; simp at h; exact ⟨i, rfl, h.1, h.2.1, h.2.2⟩
theorem appendG {SE E : TypeId} {z : Value} {bytes : Nat} (hu : Tryz.prog.underlying SE = some (.slice E)) (hinfo : (Tryz.prog.info? E).map (fun i => (i.zero, i.size, i.bytes)) = some (some z, 1, bytes)) (hzc : z.cells.size = 1) (hby : bytes <= 24)
  {ops : Array Oper} {rest : List Oper} {o : Oper} {a : Act} {Q : Exit -> Act -> World -> Prop} (W : World) (hgd : o.guard = none) (s x : Operand)
  (ho : o.op = .call { callee := .builtin .append, args := #[s, x], argTypes := #[SE, SE] })
  (base : Nat) (v : Value) (xs : List Value) (hs : a.eval s = v) (hown : W.ownsRow base E 1 v xs.length xs)
  (ad : Addr) (m c : Nat) (news : List Value) (hx : a.eval x = .slice (some ad) m c) (hl : news.length = m) (hnews : ∀ j u, news[j]? = some u -> W.cell? (ad.add j) = some u) (h1 : ∀ u ∈ news, u.oneCell' = true)
  (hlen : xs.length + m <= 1000000) (hbase : base <= W.heap.size)
  (h : ∀ v' w', w'.ownsRow base E 1 v' (xs ++ news).length (xs ++ news) -> (∀ k, k < W.heap.size -> v.ownBlock ≠ some k -> w'.heap[k]? = W.heap[k]?) -> Below base W w' -> wpList Tryz.prog ops Q rest (a.put o.dst v') w') : wpList Tryz.prog ops Q (o :: rest) a W := by
 obtain ⟨i0, hi, hz0, hz1, hz2⟩ := info3 hinfo
 refine wpList_append_own W hgd s x SE ho base E i0 z 1 bytes hu hi hz0 hz1 hz2 hzc (by decide) v xs.length xs hs hown ad m c news hx (by omega) hnews h1 (by simp only [maxLen]; omega) ?_ hbase ?_
 ·exact Nat.le_trans (Nat.mul_le_mul hlen hby) (by decide)
 ·intro v' w' h2 h3 _
  refine h v' w' (by rw [List.length_append, hl]; exact h2) (fun k hk hne => h3.block k hk (fun e => hne e.symm)) ?_
  exact (Below.refl _ W).grown h3 hbase (fun k hk => (World.ownsRow.lt hown k hk).1)
theorem appendG1 {SE E : TypeId} {z : Value} {bytes : Nat} (hu : Tryz.prog.underlying SE = some (.slice E)) (hinfo : (Tryz.prog.info? E).map (fun i => (i.zero, i.size, i.bytes)) = some (some z, 1, bytes)) (hzc : z.cells.size = 1) (hby : bytes <= 24)
  {ops : Array Oper} {rest : List Oper} {o : Oper} {a : Act} {Q : Exit -> Act -> World -> Prop} (W : World) (hgd : o.guard = none) (s x : Operand)
  (ho : o.op = .call { callee := .builtin .append, args := #[s, x], argTypes := #[SE, SE] })
  (base : Nat) (v : Value) (xs : List Value) (hs : a.eval s = v) (hown : W.ownsRow base E 1 v xs.length xs)
  (y : Value) (hx : a.eval x = .slice (some ⟨W.heap.size, 0, none⟩) 1 1) (h1 : y.oneCell' = true)
  (hlen : xs.length + 1 <= 1000000) (hbase : base <= W.heap.size)
  (h : ∀ v' w', w'.ownsRow base E 1 v' (xs ++ [y]).length (xs ++ [y]) -> (∀ k, k < W.heap.size -> v.ownBlock ≠ some k -> w'.heap[k]? = W.heap[k]?) -> Below base W w' -> wpList Tryz.prog ops Q rest (a.put o.dst v') w') : wpList Tryz.prog ops Q (o :: rest) a (W.alloc (.cells #[y] E)) := by
 have hsz : (W.alloc (.cells #[y] E)).heap.size = W.heap.size + 1 := Array.size_push ..
 refine appendG hu hinfo hzc hby (W.alloc (.cells #[y] E)) hgd s x ho base v xs hs (World.ownsRow.alloc hown _) ⟨W.heap.size, 0, none⟩ 1 1 [y] hx rfl ?_ (by intro u hu; simp at hu; subst hu; exact h1) hlen (by omega) ?_
 ·intro j u hu
  match j, hu with
  | 0, hu =>
   simp only [List.getElem?_cons_zero, Option.some.injEq] at hu
   subst hu
   rw [Addr.add_lit, cell_of_row _ W.heap.size _ _ _ _ (heap_alloc_new W _)]
   rfl
 ·intro v' w' h2 h3 h4
  refine h v' w' h2 (fun k hk hne => ?_) (((Below.refl _ W).alloc hbase _).trans h4)
  rw [h3 k (by omega) hne, Below.heap_alloc W _ k hk]
theorem Tryz.infoF : (Tryz.prog.info? 55).map (fun i => (i.zero, i.size, i.bytes)) = some (some (.float .f64 0), 1, 8) := by kernel_rfl
def Mk (w : World) (base : Nat) (v : Value) (us : List Nat) : Prop :=
 ∃ g cap cur, v = .slice (some ⟨g, 0, none⟩) us.length cap /\ base <= g /\ w.heap[g]? = some (.cells cur 55) /\ us.length + 1 <= cap /\ cap <= maxLen /\ (∀ u ∈ us, u < 18446744073709551616) /\ us.length <= 1000 ∧
  (∀ j, j < us.length -> cur[j]? = some (.float .f64 (us[j]?.getD 0))) /\ cur[us.length]? = some (.float .f64 13873417816952012800)
theorem Mk.keep {w w' : World} {base : Nat} {v : Value} {us : List Nat} (h : Mk w base v us) (hb : ∀ k, k < w.heap.size -> (∀ cur, w.heap[k]? = some (.cells cur 55) -> w'.heap[k]? = w.heap[k]?)) : Mk w' base v us := by
 obtain ⟨g, cap, cur, h1, h2, h3, r⟩ := h
 exact ⟨g, cap, cur, h1, h2, (hb g (Array.getElem?_eq_some_iff.1 h3).1 cur h3).trans h3, r⟩
theorem Mk.later {w w' : World} {base : Nat} {v : Value} {us : List Nat} (h : Mk w base v us) (hb : Below w.heap.size w w') : Mk w' base v us := h.keep fun k hk _ _ => hb.block k hk
theorem Mk.mono {w : World} {base b : Nat} {v : Value} {us : List Nat} (h : Mk w base v us) (hb : b <= base) : Mk w b v us := by
 obtain ⟨g, cap, cur, h1, h2, r⟩ := h
 exact ⟨g, cap, cur, h1, by omega, r⟩
theorem Mk.rd {w : World} {base : Nat} {v : Value} {us : List Nat} (h : Mk w base v us) : ∃ ao cap, v = .slice ao us.length cap /\ RdF w ao us.length cap us := by
 obtain ⟨g, cap, cur, h1, h2, h3, h4, h5, h6, h6b, h7, h8⟩ := h
 exact ⟨_, cap, h1, rfl, by simp only [maxLen]; omega, h6, .inr ⟨g, 0, rfl, fun j hj => by rw [Nat.zero_add, cell_of_row _ g j _ _ _ h3]; exact h7 j hj⟩⟩
theorem sizeF64 (w : World) : (sizeOf 55).run Tryz.prog w = .ok 1 w := by kernel_rfl
theorem Tryz.elemF : Tryz.prog.elem 22 = 55 := by kernel_rfl
theorem cutF (ao : Option Addr) (len cap q : Nat) (hq : q <= cap) (w : World) :
  (Instr.slice 22 (.slice ao len cap) none (some (.int .i64 q)) none).run Tryz.prog w = .ok (.slice (if cap = 0 then ao else ao.map (·.add (0 * 1))) q cap) w := by
 rw [run_slice_h w _ _ _ _ (by rw [Tryz.elemF]; exact Tryz.underlying22) .i64 q (by omega) (by omega), Tryz.elemF, sizeF64]
 simp [Result.andThen, sliced]
theorem add_zero' (b o : Nat) : (⟨b, o, none⟩ : Addr).add (0 * 1) = ⟨b, o, none⟩ := by rw [Addr.add_lit]; simp
def flV (us : List Nat) : List Value := us.map (Value.float .f64)
theorem flV_len (us : List Nat) : (flV us).length = us.length := by simp [flV]
theorem flV_app (us vs : List Nat) : flV (us ++ vs) = flV us ++ flV vs := by simp [flV]
theorem flV_at (us : List Nat) (j : Nat) (h : j < us.length) : (flV us)[j]? = some (.float .f64 (us[j]?.getD 0)) := by
 simp [flV, List.getElem?_eq_getElem h]
theorem flV_one (us : List Nat) : ∀ u ∈ flV us, u.oneCell' = true := by
 intro u hu
 simp only [flV, List.mem_map] at hu
 obtain ⟨x, _, rfl⟩ := hu
 rfl
def OwnFl (w : World) (base : Nat) (v : Value) (us : List Nat) : Prop := w.ownsRow base 55 1 v (flV us).length (flV us)
theorem OwnFl.nil (w : World) (base : Nat) : OwnFl w base (.slice none 0 0) [] := World.ownsRow_nil w base _ 1
theorem OwnFl.mk {w : World} {base : Nat} {v : Value} {us : List Nat} (hu : ∀ u ∈ us, u < 18446744073709551616) (hm : us.length <= 300) (h : OwnFl w base v (us ++ List.replicate 9 13873417816952012800)) :
  ∃ g cap, v = .slice (some ⟨g, 0, none⟩) (us.length + 9) cap /\ us.length + 9 <= cap /\ Mk w base (.slice (some ⟨g, 0, none⟩) us.length cap) us := by
 have hl : (flV (us ++ List.replicate 9 13873417816952012800)).length = us.length + 9 := by rw [flV_len]; simp
 unfold OwnFl at h
 rw [hl] at h
 rcases h.2 with ⟨_, h0⟩ | ⟨g, cap, cur, rfl, hg, hh, hc, hx, hs, ht⟩
 ·omega
 ·refine ⟨g, cap, rfl, hc, g, cap, cur, rfl, hg, hh, by omega, hx, hu, by omega, fun j hj => ?_, ?_⟩
  ·have h1 : (cur.toList.take ((us.length + 9) * 1))[j]? = cur[j]? := by rw [List.getElem?_take, if_pos (by omega), Array.getElem?_toList]
   rw [<- h1, ht, flV_app, List.getElem?_append_left (by rw [flV_len]; exact hj), flV_at us j hj]
  ·have h1 : (cur.toList.take ((us.length + 9) * 1))[us.length]? = cur[us.length]? := by rw [List.getElem?_take, if_pos (by omega), Array.getElem?_toList]
   rw [<- h1, ht, flV_app, List.getElem?_append_right (by rw [flV_len]; exact Nat.le_refl _), flV_len, Nat.sub_self]
   rfl
theorem laid_any (ao : Option Addr) (len cap : Nat) (us : List Nat) (w : World) (hr : RdF w ao len cap us) (hcap : len <= cap) (hnil : ao = none -> cap = 0) (hmc : cap <= maxLen) :
  Calls Tryz.prog 21 #[.slice ao len cap, .int .i64 300] w fun e w' => ∃ v, e = .returned v /\ Mk w' w.heap.size v (us.take 300) /\ Below w.heap.size w w' := by
 have hmx := Nat.le_trans hr.max maxLen_le
 obtain ⟨L, lo, hL, hLc, hrl, hnl, hcut⟩ : ∃ (L : Nat) (lo : Option Addr), L = min len 300 /\ L <= cap /\ RdF w lo L cap (us.take 300) /\ (lo = none -> cap = 0) /\ ((¬ 300 < len /\ lo = ao /\ L = len) \/ (300 < len /\ L = 300 /\ ∀ w, (Instr.slice 22 (.slice ao len cap) none (some (.int .i64 300)) none).run Tryz.prog w = .ok (.slice lo 300 cap) w)) := by
  by_cases hq : 300 < len
  ·refine ⟨300, (if cap = 0 then ao else ao.map (·.add (0 * 1))), by omega, by omega, ?_, ?_, .inr ⟨hq, rfl, fun w => cutF ao len cap 300 (by omega) w⟩⟩
   ·rcases hr.cells with h0 | ⟨b, off, rfl, hc⟩
    ·omega
    ·refine ⟨by rw [List.length_take, hr.length]; omega, by simp only [maxLen]; omega, fun u hu => hr.lt u (List.mem_of_mem_take hu), .inr ⟨b, off, ?_, fun j hj => ?_⟩⟩
     ·rw [if_neg (by omega), Option.map_some, add_zero']
     ·rw [hc j (by omega), List.getElem?_take, if_pos hj]
   ·intro h
    rw [if_neg (by omega)] at h
    cases ao with
    | none => exact hnil rfl
    | some x => simp at h
  ·refine ⟨len, ao, by omega, hcap, ?_, hnil, .inl ⟨hq, rfl, rfl⟩⟩
   rw [List.take_of_length_le (by rw [hr.length]; omega)]
   exact hr
 have hul := hrl.lt
 have hll := hrl.length
 have hL3 : L <= 300 := by omega
 have hyl := hll ▸ hL3
 generalize us.take 300 = ys at *
 have HRL : Hid _ := hrl
 have HCU : Hid _ := hcut
 have HUL : Hid _ := hul
 have HLL : Hid _ := hll
 clear hr hrl hcut hul hll hL
 have HNW : Hid (∀ ad, lo = some ad -> ∀ j u, (flV ys)[j]? = some u -> w.cell? (ad.add j) = some u) := by
  intro ad had j u hu
  have hj : j < ys.length := by
   have := (List.getElem?_eq_some_iff.1 hu).1
   rw [flV_len] at this
   exact this
  have hll := HLL.out
  rcases HRL.out.cells with h0 | ⟨b, off, hlo, hc⟩
  ·omega
  ·rw [had] at hlo
   simp only [Option.some.injEq] at hlo
   subst hlo
   rw [flV_at ys j hj] at hu
   rw [Addr.add_lit, hc j (by omega)]
   exact hu
 obtain ⟨i0, hi0, hz0, hz1, hz2⟩ := info3 Tryz.infoF
 cases lo with
 | none =>
  have hc0 := hnl rfl
  have hl0 : L = 0 := by omega
  have hy : ys = [] := List.eq_nil_of_length_eq_zero (by have := HLL.out; omega)
  subst hy hl0 hc0
  rcases HCU.out with ⟨h1, h2, h3⟩ | ⟨h1, h3, _⟩
  ·subst h2 h3
   clear HCU HNW HRL
   go_enter Tryz.func21, Tryz.ntmps21
   go_wp2_with (first | (at_builtin; refine wpList_append_own_none (by rfl) (.tmp 14) (.tmp 15) 22 (by rfl) w.heap.size 55 i0 1 Tryz.underlying22 hi0 (.slice none 0 0) 0 _ (by rfl) (OwnFl.nil w w.heap.size) (by rfl) ?_))
   go_loopg [5, 6] 9 (fun g v u wx => ∃ i : Nat, u = .int .i64 i /\ i + g = 9 /\ Hid (OwnFl wx w.heap.size v (([] : List Nat) ++ List.replicate i 13873417816952012800)) /\ Hid (Below w.heap.size w wx))
   case atStart => exact ⟨0, rfl, by omega, OwnFl.nil w w.heap.size, Below.refl _ _⟩
   case round =>
    obtain ⟨i, rfl, hi, HO, HB⟩ := hrel
    have hsr := HB.out.size
    by_cases hlt : i < 9
    ·have hd : decide ((i : Int) < 9) = true := decide_eq_true (by omega)
     obtain ⟨g, rfl⟩ : ∃ g, gk = g + 1 := ⟨gk - 1, by omega⟩
     go_wp2_with (first | (at_builtin; refine appendG1 Tryz.underlying22 Tryz.infoF rfl (by decide) wr (by rfl) _ _ (by rfl) w.heap.size _ _ (by rfl) HO.out _ (by rfl) (by rfl) (by rw [flV_len]; simp; omega) (by omega) ?_; intro v5 w5 hO5 hk5 hb5; have HO5 : Hid _ := hO5; have HB5 : Hid _ := hb5; clear hO5 hb5 hk5))
     go_roundg g
     case measure => omega
     case rel =>
      refine ⟨i + 1, by go_num, by omega, ?_, HB.out.trans (HB5.out.mono (by omega))⟩
      have := HO5.out
      unfold Hid OwnFl
      rw [List.replicate_succ', <- List.append_assoc, flV_app]
      exact this
    ·have hd : decide ((i : Int) < 9) = false := decide_eq_false (by omega)
     obtain rfl : i = 9 := by omega
     obtain ⟨g, cp, rfl, hcp, hmk⟩ := OwnFl.mk HUL.out (by omega) HO.out
     have hcpm : cp ≠ 0 := by omega
     have hsl : ∀ w, (Instr.slice 22 (.slice (some ⟨g, 0, none⟩) (([] : List Nat).length + 9) cp) none (some (.int .i64 0)) none).run Tryz.prog w = .ok (.slice (some ⟨g, 0, none⟩) ([] : List Nat).length cp) w := by
      intro w
      have := cutF (some ⟨g, 0, none⟩) (([] : List Nat).length + 9) cp ([] : List Nat).length (by omega) w
      rw [if_neg hcpm, Option.map_some, add_zero'] at this
      exact this
     have HMK : Hid _ := hmk
     clear hmk
     go_wp2
     go_ret
     exact ⟨_, rfl, HMK.out, HB.out⟩
  ·omega
 | some ad =>
  have HNW2 : Hid _ := HNW.out ad rfl
  clear HNW HRL
  rcases HCU.out with ⟨h1, h2, h3⟩ | ⟨h1, h3, h2⟩
  ·subst h2; subst h3
   have hd1 : decide (300 < (L : Int)) = false := decide_eq_false (by omega)
   have hd2 : decide (300 < L) = false := decide_eq_false h1
   clear HCU
   go_enter Tryz.func21, Tryz.ntmps21
   go_wp2_with (first | (at_builtin; refine appendG Tryz.underlying22 Tryz.infoF rfl (by decide) w (by rfl) _ _ (by rfl) w.heap.size _ [] (by rfl) (OwnFl.nil w w.heap.size) ad L cap (flV ys) (by rfl) (by rw [flV_len]; exact HLL.out) HNW2.out (flV_one ys) (by simp only [List.length_nil]; omega) (Nat.le_refl _) ?_; intro v1 w1 hO1 hk1 hb1; have HO1 : Hid (OwnFl w1 w.heap.size v1 ys) := hO1; have HB1 : Hid (Below w.heap.size w w1) := hb1; clear hO1 hb1 hk1))
   go_loopg [5, 6] 9 (fun g v u wx => ∃ i : Nat, u = .int .i64 i /\ i + g = 9 /\ Hid (OwnFl wx w.heap.size v (ys ++ List.replicate i 13873417816952012800)) /\ Hid (Below w.heap.size w wx))
   case atStart => exact ⟨0, rfl, by omega, by have := HO1; unfold Hid; simpa using this.out, HB1⟩
   case round =>
    obtain ⟨i, rfl, hi, HO, HB⟩ := hrel
    have hsr := HB.out.size
    by_cases hlt : i < 9
    ·have hd : decide ((i : Int) < 9) = true := decide_eq_true (by omega)
     obtain ⟨g, rfl⟩ : ∃ g, gk = g + 1 := ⟨gk - 1, by omega⟩
     go_wp2_with (first | (at_builtin; refine appendG1 Tryz.underlying22 Tryz.infoF rfl (by decide) wr (by rfl) _ _ (by rfl) w.heap.size _ _ (by rfl) HO.out _ (by rfl) (by rfl) (by rw [flV_len]; simp; omega) (by omega) ?_; intro v5 w5 hO5 hk5 hb5; have HO5 : Hid _ := hO5; have HB5 : Hid _ := hb5; clear hO5 hb5 hk5))
     go_roundg g
     case measure => omega
     case rel =>
      refine ⟨i + 1, by go_num, by omega, ?_, HB.out.trans (HB5.out.mono (by omega))⟩
      have := HO5.out
      unfold Hid OwnFl
      rw [List.replicate_succ', <- List.append_assoc, flV_app]
      exact this
    ·have hd : decide ((i : Int) < 9) = false := decide_eq_false (by omega)
     obtain rfl : i = 9 := by omega
     obtain ⟨g, cp, rfl, hcp, hmk⟩ := OwnFl.mk HUL.out (by omega) HO.out
     have hcpm : cp ≠ 0 := by omega
     have hsl : ∀ w, (Instr.slice 22 (.slice (some ⟨g, 0, none⟩) (ys.length + 9) cp) none (some (.int .i64 (L : Int))) none).run Tryz.prog w = .ok (.slice (some ⟨g, 0, none⟩) ys.length cp) w := by
      intro w
      have := cutF (some ⟨g, 0, none⟩) (ys.length + 9) cp ys.length (by omega) w
      rw [if_neg hcpm, Option.map_some, add_zero'] at this
      rw [HLL.out] at this ⊢; exact this
     have HMK : Hid _ := hmk
     clear hmk
     go_wp2
     go_ret
     exact ⟨_, rfl, HMK.out, HB.out⟩
  ·subst h3
   have hd1 : decide (300 < (len : Int)) = true := decide_eq_true (by omega)
   have hd2 : decide (300 < len) = true := decide_eq_true h1
   have hct := h2
   clear HCU
   go_enter Tryz.func21, Tryz.ntmps21
   go_wp2_with (first | (at_builtin; refine appendG Tryz.underlying22 Tryz.infoF rfl (by decide) w (by rfl) _ _ (by rfl) w.heap.size _ [] (by rfl) (OwnFl.nil w w.heap.size) ad 300 cap (flV ys) (by rfl) (by rw [flV_len]; exact HLL.out) HNW2.out (flV_one ys) (by simp only [List.length_nil]; omega) (Nat.le_refl _) ?_; intro v1 w1 hO1 hk1 hb1; have HO1 : Hid (OwnFl w1 w.heap.size v1 ys) := hO1; have HB1 : Hid (Below w.heap.size w w1) := hb1; clear hO1 hb1 hk1))
   go_loopg [5, 6] 9 (fun g v u wx => ∃ i : Nat, u = .int .i64 i /\ i + g = 9 /\ Hid (OwnFl wx w.heap.size v (ys ++ List.replicate i 13873417816952012800)) /\ Hid (Below w.heap.size w wx))
   case atStart => exact ⟨0, rfl, by omega, by have := HO1; unfold Hid; simpa using this.out, HB1⟩
   case round =>
    obtain ⟨i, rfl, hi, HO, HB⟩ := hrel
    have hsr := HB.out.size
    by_cases hlt : i < 9
    ·have hd : decide ((i : Int) < 9) = true := decide_eq_true (by omega)
     obtain ⟨g, rfl⟩ : ∃ g, gk = g + 1 := ⟨gk - 1, by omega⟩
     go_wp2_with (first | (at_builtin; refine appendG1 Tryz.underlying22 Tryz.infoF rfl (by decide) wr (by rfl) _ _ (by rfl) w.heap.size _ _ (by rfl) HO.out _ (by rfl) (by rfl) (by rw [flV_len]; simp; omega) (by omega) ?_; intro v5 w5 hO5 hk5 hb5; have HO5 : Hid _ := hO5; have HB5 : Hid _ := hb5; clear hO5 hb5 hk5))
     go_roundg g
     case measure => omega
     case rel =>
      refine ⟨i + 1, by go_num, by omega, ?_, HB.out.trans (HB5.out.mono (by omega))⟩
      have := HO5.out
      unfold Hid OwnFl
      rw [List.replicate_succ', <- List.append_assoc, flV_app]
      exact this
    ·have hd : decide ((i : Int) < 9) = false := decide_eq_false (by omega)
     obtain rfl : i = 9 := by omega
     obtain ⟨g, cp, rfl, hcp, hmk⟩ := OwnFl.mk HUL.out (by omega) HO.out
     have hcpm : cp ≠ 0 := by omega
     have hsl : ∀ w, (Instr.slice 22 (.slice (some ⟨g, 0, none⟩) (ys.length + 9) cp) none (some (.int .i64 300)) none).run Tryz.prog w = .ok (.slice (some ⟨g, 0, none⟩) ys.length cp) w := by
      intro w
      have := cutF (some ⟨g, 0, none⟩) (ys.length + 9) cp ys.length (by omega) w
      rw [if_neg hcpm, Option.map_some, add_zero'] at this
      rw [HLL.out] at this ⊢; exact this
     have HMK : Hid _ := hmk
     clear hmk
     go_wp2
     go_ret
     exact ⟨_, rfl, HMK.out, HB.out⟩
structure RdQ (w : World) (ao : Option Addr) (len cap : Nat) (uss : List (List Nat)) : Prop where
 length : uss.length = len
 max : len <= maxLen
 cells : len = 0 \/ ∃ b off, ao = some ⟨b, off, none⟩ /\ ∀ j, j < len -> ∃ aj lj cj, w.cell? ⟨b, off + j, none⟩ = some (.slice aj lj cj) /\ RdF w aj lj cj (uss[j]?.getD []) /\ lj <= cj /\ (aj = none -> cj = 0) /\ cj <= maxLen
theorem RdQ.later {w w' : World} {ao : Option Addr} {len cap : Nat} {uss : List (List Nat)} (h : RdQ w ao len cap uss) (hb : Below w.heap.size w w') : RdQ w' ao len cap uss := by
 refine ⟨h.length, h.max, ?_⟩
 rcases h.cells with h0 | ⟨b, off, ha, hc⟩
 ·exact .inl h0
 ·refine .inr ⟨b, off, ha, fun j hj => ?_⟩
  obtain ⟨aj, lj, cj, h1, h2, r⟩ := hc j hj
  refine ⟨aj, lj, cj, ?_, h2.later hb, r⟩
  have hlt := World.block_lt_of_cell? w _ h1
  rw [hb.cell (p := ⟨b, off + j, none⟩) hlt]
  exact h1
theorem Mk.one {w : World} {base : Nat} {v : Value} {us : List Nat} (h : Mk w base v us) : v.oneCell' = true := by
 obtain ⟨g, cap, cur, rfl, _⟩ := h; rfl
structure RdU (w : World) (ao : Option Addr) (len cap : Nat) (us : List Nat) : Prop where
 length : us.length = len
 max : len <= maxLen
 cells : len = 0 \/ ∃ b off, ao = some ⟨b, off, none⟩ /\ ∀ j, j < len -> w.cell? ⟨b, off + j, none⟩ = some (.int .u64 ((us[j]?.getD 0 : Nat) : Int))
theorem RdU.later {w w' : World} {ao : Option Addr} {len cap : Nat} {us : List Nat} (h : RdU w ao len cap us) (hb : Below w.heap.size w w') : RdU w' ao len cap us := by
 refine ⟨h.length, h.max, ?_⟩
 rcases h.cells with h0 | ⟨b, off, ha, hc⟩
 ·exact .inl h0
 ·refine .inr ⟨b, off, ha, fun j hj => ?_⟩
  have hlt := World.block_lt_of_cell? w _ (hc j hj)
  rw [hb.cell (p := ⟨b, off + j, none⟩) hlt]
  exact hc j hj
theorem neqMark (w : World) : (binOp .neq 55 (.float .f64 13873417816952012800) (.float .f64 13873417816952012800)).run Tryz.prog w = .ok (.bool false) w := by kernel_rfl
theorem stand_any (base : Nat) (v : Value) (us : List Nat) (bo : Option Addr) (bcap : Nat) (w : World) (h : Mk w base v us) (h' : RdU w bo us.length bcap us) :
  Calls Tryz.prog 39 #[v, .slice bo us.length bcap] w fun e w' => e = .returned (.bool true) /\ Below w.heap.size w w' := by
 obtain ⟨g, cap, cur, rfl, _, hh, hcap, hcm, hlt64, hl1000, hcs, hcn⟩ := h
 have HS : Hid _ := h'
 have HHH : Hid _ := hh
 have HCS : Hid _ := hcs
 have hmx := maxLen_le
 have hgl := blk_lt hh
 have hm0 : w.cell? ⟨g, us.length, none⟩ = some (.float .f64 13873417816952012800) := (cell_of_row _ g _ _ _ _ hh).trans hcn
 have hsl : ∀ w, (Instr.slice 22 (.slice (some ⟨g, 0, none⟩) us.length cap) none (some (.int .i64 ((us.length : Int) + 1))) none).run Tryz.prog w = .ok (.slice (some ⟨g, 0, none⟩) (us.length + 1) cap) w := by
  intro w
  have := cutF (some ⟨g, 0, none⟩) us.length cap (us.length + 1) (by omega) w
  rw [if_neg (by omega), Option.map_some, add_zero'] at this
  exact this
 have HL : Hid (∀ j, j < us.length -> w.cell? ⟨g, j, none⟩ = some (.float .f64 (us[j]?.getD 0))) := fun j hj => (cell_of_row _ g _ _ _ _ hh).trans (hcs j hj)
 obtain ⟨n, hn⟩ : ∃ n, us.length = n := ⟨_, rfl⟩
 rw [hn] at hsl hm0 HS HL hl1000 hcap ⊢
 have hnm := neqMark
 have hw1 : wrap64 ((n : Int) + 1) = (n : Int) + 1 := wr64D _ (by omega) (by omega)
 have hcm2 : cap <= 9223372036854775807 := Nat.le_trans hcm hmx
 clear h' hh hcs hcn hn hlt64 hcm hmx
 go_enter Tryz.func39, Tryz.ntmps39
 go_wp2_with fail
 go_loopg [5] n (fun gg iv wx => ∃ k : Nat, iv = .int .i64 k /\ k + gg = n /\ Hid (Below w.heap.size w wx))
 case atStart => exact ⟨0, rfl, by omega, Below.refl _ _⟩
 case round =>
  obtain ⟨k, rfl, hk, HB⟩ := hrel
  by_cases hlt : k < n
  ·have hd : decide ((k : Int) < (n : Int)) = true := decide_eq_true (by omega)
   obtain ⟨gg, rfl⟩ : ∃ gg, gk = gg + 1 := ⟨gk - 1, by omega⟩
   rcases (HS.out.later HB.out).cells with h0 | ⟨b', off', rfl, hc'⟩
   ·omega
   have g0 : wr.cell? ⟨g, 0 + k, none⟩ = some (.float .f64 (us[k]?.getD 0)) := by
    rw [Nat.zero_add, HB.out.cell (p := ⟨g, k, none⟩) hgl]
    exact HL.out k hlt
   have g1 := hc' k hlt
   generalize us[k]?.getD 0 = u at *
   have l0 := World.block_lt_of_cell? wr _ g0
   have l1 := World.block_lt_of_cell? wr _ g1
   have g0' : wr.cell? ⟨g, k, none⟩ = some (.float .f64 u) := by rw [Nat.zero_add] at g0; exact g0
   have hx1 : (0 : Int) <= (k : Int) := by omega
   have hx2 : (k : Int) < (n : Int) := by omega
   have HBT : Hid _ := bits_any u
   clear hc' g0
   go_upto_region 6 with fail
   go_region_held3 (fun w' => w'.cell? ⟨g, k, none⟩ = some (.float .f64 u) /\ w'.cell? ⟨b', off' + k, none⟩ = some (.int .u64 (u : Int))) (go_keep) ((first | (go_at_call 41; refine Calls.mono (HBT.out _) ?_; rintro e x1 ⟨rfl, hx⟩; rw [hx]; clear hx)))
   go_wp2
   go_roundg gg
   case measure => omega
   case rel => exact ⟨k + 1, by go_num, by omega, HB.out.drew⟩
  ·have hd : decide ((k : Int) < (n : Int)) = false := decide_eq_false (by omega)
   go_wp2
   go_ret
   exact ⟨rfl, HB.out⟩
end Go.Proofs.YthmhgpadinecfaaGreat
