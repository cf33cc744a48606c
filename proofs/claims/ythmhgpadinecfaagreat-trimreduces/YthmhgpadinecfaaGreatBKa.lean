import Derived.Test.YthmhgpadinecfaaGreatRRf
set_option maxRecDepth 100000
set_option maxHeartbeats 4000000
set_option linter.unusedVariables false
set_option linter.unusedSimpArgs false
namespace Go.Proofs.YthmhgpadinecfaaGreat
open Go.RowKit Go.Shelf
def FulI (w : World) (v : Value) (m : Int) : Prop := ∃ ao n cap, v = .slice ao n cap /\ n <= maxLen /\ (n = 0 \/ ∃ g cur, ao = some ⟨g, 0, none⟩ /\ w.heap[g]? = some (.cells cur 3) /\ ∀ i, i < n -> cur[i]? = some (.int .i64 m))
def FulF (w : World) (v : Value) (u : Nat) : Prop := ∃ ao n cap, v = .slice ao n cap /\ n <= maxLen /\ (n = 0 \/ ∃ g cur, ao = some ⟨g, 0, none⟩ /\ w.heap[g]? = some (.cells cur 55) /\ ∀ i, i < n -> cur[i]? = some (.float .f64 u))
theorem FulI.later {w w' : World} {v : Value} {m : Int} (h : FulI w v m) (hb : Below w.heap.size w w') : FulI w' v m := by
 obtain ⟨ao, n, cap, h1, h2, h3⟩ := h
 refine ⟨ao, n, cap, h1, h2, ?_⟩
 rcases h3 with h0 | ⟨g, cur, a, b, c⟩
 ·exact .inl h0
 ·exact .inr ⟨g, cur, a, kept hb b, c⟩
theorem FulF.later {w w' : World} {v : Value} {u : Nat} (h : FulF w v u) (hb : Below w.heap.size w w') : FulF w' v u := by
 obtain ⟨ao, n, cap, h1, h2, h3⟩ := h
 refine ⟨ao, n, cap, h1, h2, ?_⟩
 rcases h3 with h0 | ⟨g, cur, a, b, c⟩
 ·exact .inl h0
 ·exact .inr ⟨g, cur, a, kept hb b, c⟩
structure BkS (W : World) (B base : Nat) (vF vM vI vN : Value) (Fs Ls : List Value) (ms : List Nat) (ns : List Int) : Prop where
 bx : W.heap[B]? = some (.cells #[vF, vM, vI, vN] 39)
 f : W.ownsRow base 22 1 vF Fs.length Fs
 m : W.ownsRow base 55 1 vM ms.length (ms.map (Value.float .f64))
 i : W.ownsRow base 23 1 vI Ls.length Ls
 n : W.ownsRow base 3 1 vN ns.length (ns.map (Value.int .i64))
 lf : Fs.length = ms.length
 li : Ls.length = ns.length
 ff : ∀ (j : Nat) (v : Value), Fs[j]? = some v -> FulF W v (ms[j]?.getD 0)
 fi : ∀ (j : Nat) (v : Value), Ls[j]? = some v -> FulI W v (ns[j]?.getD 0)
 ok : ∀ u ∈ ms, (FloatKind.f64.format.order u u != some Ordering.eq) = false
 le : Fs.length <= 1050000 /\ Ls.length <= 1050000
theorem BkS.later {W W' : World} {B base : Nat} {vF vM vI vN : Value} {Fs Ls : List Value} {ms : List Nat} {ns : List Int} (h : BkS W B base vF vM vI vN Fs Ls ms ns) (hb : Below W.heap.size W W') : BkS W' B base vF vM vI vN Fs Ls ms ns :=
 ⟨kept hb h.bx, owns_keepT h.f fun k cur hc => hb.block k (blk_lt hc), owns_keepT h.m fun k cur hc => hb.block k (blk_lt hc), owns_keepT h.i fun k cur hc => hb.block k (blk_lt hc), owns_keepT h.n fun k cur hc => hb.block k (blk_lt hc), h.lf, h.li, fun j v hj => (h.ff j v hj).later hb, fun j v hj => (h.fi j v hj).later hb, h.ok, h.le⟩
theorem cells4L {W : World} {B : Nat} {v0 v1 v2 v3 : Value} {t : TypeId} (h : W.heap[B]? = some (.cells #[v0, v1, v2, v3] t)) : W.cell? ⟨B, 0, none⟩ = some v0 /\ W.cell? ⟨B, 1, none⟩ = some v1 /\ W.cell? ⟨B, 2, none⟩ = some v2 /\ W.cell? ⟨B, 3, none⟩ = some v3 := ⟨cellAtJ h 0 _ rfl, cellAtJ h 1 _ rfl, cellAtJ h 2 _ rfl, cellAtJ h 3 _ rfl⟩
theorem wholeBk_any (B base : Nat) (vF vM vI vN : Value) (Fs Ls : List Value) (ms : List Nat) (ns : List Int) (w : World) (h : BkS w B base vF vM vI vN Fs Ls ms ns) :
  Calls Tryz.prog 16 #[.pointer (some ⟨B, 0, none⟩)] w fun e w' => e = .returned (.bool true) /\ Below w.heap.size w w' := by
 have HK : Hid _ := h
 have HB : Hid (Below w.heap.size w w) := Below.refl _ _
 clear h
 go_enter Tryz.func16, Tryz.ntmps16
 go_wp2_with fail
 go_loopg [3] Fs.length (fun g v wx => ∃ i : Nat, v = .int .i64 i /\ i + g = Fs.length /\ Hid (BkS wx B base vF vM vI vN Fs Ls ms ns) /\ Hid (Below w.heap.size w wx))
 case atStart => exact ⟨0, rfl, by omega, HK, HB⟩
 case round =>
  clear HK HB
  obtain ⟨i, rfl, hi, HK, HB⟩ := hrel
  obtain ⟨c0, c1, c2, c3⟩ := cells4L HK.out.bx
  obtain ⟨la, lc, hvL, hml, hcl⟩ := owns_slice HK.out.f
  obtain ⟨ka, kc, hvK, hmk, hck⟩ := owns_slice HK.out.m
  have hlx := HK.out.lf
  have hle := HK.out.le
  rw [<- hlx] at hvK hck
  rw [hvL] at c0
  rw [hvK] at c1
  by_cases hlt : i < Fs.length
  ·have hd : decide ((i : Int) < (Fs.length : Int)) = true := decide_eq_true (by omega)
   obtain ⟨q, rfl⟩ : ∃ q, gk = q + 1 := ⟨gk - 1, by omega⟩
   have HIG : Hid (i + (q + 1) = Fs.length) := hi
   have hlt' : (i : Int) < (Fs.length : Int) := by omega
   rcases hcl with h0 | ⟨lb, hla, hcl⟩
   ·omega
   rcases hck with h0 | ⟨kb, hka, hck⟩
   ·omega
   subst hla hka
   have gl1 := hcl i hlt
   have gk1 := hck i hlt
   rw [List.getElem?_eq_getElem hlt] at gl1
   obtain ⟨mk, hmk'⟩ : ∃ m, ms[i]? = some m := ⟨_, List.getElem?_eq_getElem (by omega)⟩
   rw [List.getElem?_map, hmk'] at gk1
   have gk1 : wr.cell? ⟨kb, i, none⟩ = some (.float .f64 mk) := gk1
   obtain ⟨ao, n, cap, hvv, hnn, hfu⟩ := HK.out.ff i _ (List.getElem?_eq_getElem hlt)
   rw [hvv] at gl1
   rw [hmk', Option.getD_some] at hfu
   have hnx := Nat.le_trans hnn maxLen_le
   have hne := HK.out.ok mk (List.mem_of_getElem? hmk')
   have HC : Hid (∀ W, Below wr.heap.size wr W -> W.cell? ⟨B, 0, none⟩ = some (.slice (some ⟨lb, 0, none⟩) Fs.length lc) /\ W.cell? ⟨B, 1, none⟩ = some (.slice (some ⟨kb, 0, none⟩) Fs.length kc) /\ W.cell? ⟨lb, i, none⟩ = some (.slice ao n cap) /\ W.cell? ⟨kb, i, none⟩ = some (.float .f64 mk)) := fun W hb => ⟨(hb.cell (World.block_lt_of_cell? _ _ c0)).trans c0, (hb.cell (World.block_lt_of_cell? _ _ c1)).trans c1, (hb.cell (World.block_lt_of_cell? _ _ gl1)).trans gl1, (hb.cell (World.block_lt_of_cell? _ _ gk1)).trans gk1⟩
   have HFU : Hid _ := hfu
   have HBk : Hid (Below wr.heap.size wr wr) := Below.refl _ _
   obtain ⟨Y, hY⟩ : ∃ Y, wr = Y := ⟨_, rfl⟩
   rw [hY] at HC HFU HBk HB HK ⊢
   clear hcl hck hvv hfu c0 c1 c2 c3 gl1 gk1 hY hi hmk' hnn hvL hvK
   obtain ⟨z0, z1, z2, z3⟩ := HC.out _ (Below.refl _ _)
   go_wp2_with fail
   clear z0 z1 z2 z3
   go_loopg [4] n (fun g v wx => ∃ k : Nat, v = .int .i64 k /\ k + g = n /\ Hid (Below Y.heap.size Y wx))
   case atStart => exact ⟨0, rfl, by omega, Below.refl _ _⟩
   case round =>
    clear HBk
    obtain ⟨k, rfl, hk, HBY⟩ := hrel
    obtain ⟨c0, c1, gl1, gk1⟩ := HC.out _ HBY.out
    by_cases hkn : k < n
    ·have hd2 : decide ((k : Int) < (n : Int)) = true := decide_eq_true (by omega)
     obtain ⟨q2, rfl⟩ : ∃ q2, gk = q2 + 1 := ⟨gk - 1, by omega⟩
     have HIK : Hid (k + (q2 + 1) = n) := hk
     have hkn' : (k : Int) < (n : Int) := by omega
     rcases HFU.out with h0 | ⟨g, cur, ha, hb, hcu⟩
     ·omega
     subst ha
     have gc1 : wr.cell? ⟨g, k, none⟩ = some (.float .f64 mk) := (cell_of_row _ g _ _ _ _ (kept HBY.out hb)).trans (hcu k hkn)
     have BD : Hid (∀ n, Below Y.heap.size Y (wr.drewN n)) := fun n => to_callD HBY.out (below_drewN (Below.refl wr.heap.size wr) n)
     clear hb hcu hk
     go_upto_region 7 with fail
     go_quiet (fail)
     go_wp2_with fail
     go_roundg q2
     case measure => omega
     case rel => exact ⟨k + 1, by go_num, by have := HIK.out; omega, BD.out _⟩
    ·have hd2 : decide ((k : Int) < (n : Int)) = false := decide_eq_false (by omega)
     have hd2' : decide (k < n) = false := decide_eq_false hkn
     clear hk
     go_wp2_with fail
     go_roundg q
     case measure => omega
     case rel => exact ⟨i + 1, by go_num, by have := HIG.out; omega, HK.out.later HBY.out, to_callD HB.out HBY.out⟩
  ·have hd : decide ((i : Int) < (Fs.length : Int)) = false := decide_eq_false (by omega)
   have hd' : decide (i < Fs.length) = false := decide_eq_false hlt
   clear hi hcl hck
   go_wp2_with fail
   go_loopg [5] Ls.length (fun g v wx => ∃ i : Nat, v = .int .i64 i /\ i + g = Ls.length /\ Hid (BkS wx B base vF vM vI vN Fs Ls ms ns) /\ Hid (Below w.heap.size w wx))
   case atStart => exact ⟨0, rfl, by omega, HK, HB⟩
   case round =>
    clear HK HB
    obtain ⟨i, rfl, hi, HK, HB⟩ := hrel
    obtain ⟨c0, c1, c2, c3⟩ := cells4L HK.out.bx
    obtain ⟨la, lc, hvL, hml, hcl⟩ := owns_slice HK.out.i
    obtain ⟨ka, kc, hvK, hmk, hck⟩ := owns_slice HK.out.n
    have hlx := HK.out.li
    have hle := HK.out.le
    rw [<- hlx] at hvK hck
    rw [hvL] at c2
    rw [hvK] at c3
    by_cases hlt : i < Ls.length
    ·have hd : decide ((i : Int) < (Ls.length : Int)) = true := decide_eq_true (by omega)
     obtain ⟨q, rfl⟩ : ∃ q, gk = q + 1 := ⟨gk - 1, by omega⟩
     have HIG : Hid (i + (q + 1) = Ls.length) := hi
     have hlt' : (i : Int) < (Ls.length : Int) := by omega
     rcases hcl with h0 | ⟨lb, hla, hcl⟩
     ·omega
     rcases hck with h0 | ⟨kb, hka, hck⟩
     ·omega
     subst hla hka
     have gl1 := hcl i hlt
     have gk1 := hck i hlt
     rw [List.getElem?_eq_getElem hlt] at gl1
     obtain ⟨mk, hmk'⟩ : ∃ m, ns[i]? = some m := ⟨_, List.getElem?_eq_getElem (by omega)⟩
     rw [List.getElem?_map, hmk'] at gk1
     have gk1 : wr.cell? ⟨kb, i, none⟩ = some (.int .i64 mk) := gk1
     obtain ⟨ao, n, cap, hvv, hnn, hfu⟩ := HK.out.fi i _ (List.getElem?_eq_getElem hlt)
     rw [hvv] at gl1
     rw [hmk', Option.getD_some] at hfu
     have hnx := Nat.le_trans hnn maxLen_le
     have hne : (mk != mk) = false := by simp
     have HC : Hid (∀ W, Below wr.heap.size wr W -> W.cell? ⟨B, 2, none⟩ = some (.slice (some ⟨lb, 0, none⟩) Ls.length lc) /\ W.cell? ⟨B, 3, none⟩ = some (.slice (some ⟨kb, 0, none⟩) Ls.length kc) /\ W.cell? ⟨lb, i, none⟩ = some (.slice ao n cap) /\ W.cell? ⟨kb, i, none⟩ = some (.int .i64 mk)) := fun W hb => ⟨(hb.cell (World.block_lt_of_cell? _ _ c2)).trans c2, (hb.cell (World.block_lt_of_cell? _ _ c3)).trans c3, (hb.cell (World.block_lt_of_cell? _ _ gl1)).trans gl1, (hb.cell (World.block_lt_of_cell? _ _ gk1)).trans gk1⟩
     have HFU : Hid _ := hfu
     have HBk : Hid (Below wr.heap.size wr wr) := Below.refl _ _
     obtain ⟨Y, hY⟩ : ∃ Y, wr = Y := ⟨_, rfl⟩
     rw [hY] at HC HFU HBk HB HK ⊢
     clear hcl hck hvv hfu c0 c1 c2 c3 gl1 gk1 hY hi hmk' hnn hvL hvK
     obtain ⟨z0, z1, z2, z3⟩ := HC.out _ (Below.refl _ _)
     go_wp2_with fail
     clear z0 z1 z2 z3
     go_loopg [6] n (fun g v wx => ∃ k : Nat, v = .int .i64 k /\ k + g = n /\ Hid (Below Y.heap.size Y wx))
     case atStart => exact ⟨0, rfl, by omega, Below.refl _ _⟩
     case round =>
      clear HBk
      obtain ⟨k, rfl, hk, HBY⟩ := hrel
      obtain ⟨c0, c1, gl1, gk1⟩ := HC.out _ HBY.out
      by_cases hkn : k < n
      ·have hd2 : decide ((k : Int) < (n : Int)) = true := decide_eq_true (by omega)
       obtain ⟨q2, rfl⟩ : ∃ q2, gk = q2 + 1 := ⟨gk - 1, by omega⟩
       have HIK : Hid (k + (q2 + 1) = n) := hk
       have hkn' : (k : Int) < (n : Int) := by omega
       rcases HFU.out with h0 | ⟨g, cur, ha, hb, hcu⟩
       ·omega
       subst ha
       have gc1 : wr.cell? ⟨g, k, none⟩ = some (.int .i64 mk) := (cell_of_row _ g _ _ _ _ (kept HBY.out hb)).trans (hcu k hkn)
       have BD : Hid (∀ n, Below Y.heap.size Y (wr.drewN n)) := fun n => to_callD HBY.out (below_drewN (Below.refl wr.heap.size wr) n)
       clear hb hcu hk
       go_upto_region 15 with fail
       go_quiet (fail)
       go_wp2_with fail
       go_roundg q2
       case measure => omega
       case rel => exact ⟨k + 1, by go_num, by have := HIK.out; omega, BD.out _⟩
      ·have hd2 : decide ((k : Int) < (n : Int)) = false := decide_eq_false (by omega)
       have hd2' : decide (k < n) = false := decide_eq_false hkn
       clear hk
       go_wp2_with fail
       go_roundg q
       case measure => omega
       case rel => exact ⟨i + 1, by go_num, by have := HIG.out; omega, HK.out.later HBY.out, to_callD HB.out HBY.out⟩
    ·have hd : decide ((i : Int) < (Ls.length : Int)) = false := decide_eq_false (by omega)
     have hd' : decide (i < Ls.length) = false := decide_eq_false hlt
     clear hi hcl hck
     go_wp2_with fail
     go_ret
     exact ⟨rfl, HB.out⟩
end Go.Proofs.YthmhgpadinecfaaGreat
