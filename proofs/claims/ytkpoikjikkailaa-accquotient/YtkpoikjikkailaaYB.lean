import Derived.Test.YtkpoikjikkailaaYA
namespace Go.Proofs.Ytkpoikjikkailaa
open Go.RowKit
set_option linter.unusedVariables false

theorem takeT_yes {t : TmV} (h1 : Fin t.a) (h2 : Fin t.b) : takeT t = [⟨t.a, t.b, t.n.tmod 65⟩] := if_pos ⟨h1, h2⟩
theorem takeT_no {t : TmV} (h : ¬ (Fin t.a ∧ Fin t.b)) : takeT t = [] := if_neg h
/-- append(s, t) of one Term, at a step of a region that draws its order. -/
theorem stepT {ops : Array Oper} {o : Oper} {a : Act} {K : Act → World → Prop} {Q : Exit → Act → World → Prop} {E : Prop} (W : World) (hgd : o.guard = none) (s x : Operand)
    (ho : o.op = .call { callee := .builtin .append, args := #[s, x], argTypes := #[41, 41] })
    (base : Nat) (v : Value) (ts : List TmV) (hs : a.eval s = v) (hown : OwnT W base v ts) (t : TmV)
    (hx : a.eval x = .slice (some ⟨W.heap.size, 0, none⟩) 1 1)
    (hbound : ts.length ≤ 1000000) (hbase : base ≤ W.heap.size)
    (h : ∀ v' w', OwnT w' base v' (ts ++ [t]) → Below base W w' → K (a.put o.dst v') w') :
    if Region.wanted o (yielded ops a.tmps) = true then Oper.wp Try.prog o a (W.alloc (.cells #[.int .u64 (t.a : Int), .int .u64 (t.b : Int), .int .i64 t.n] 83)) K Q else E := by
  obtain ⟨i0, hi, hz0, hz1, hz2⟩ := info_parts Try.infoTerm
  have hown' : (W.alloc (.cells #[.int .u64 (t.a : Int), .int .u64 (t.b : Int), .int .i64 t.n] 83)).ownsRow base 83 3 v ts.length (tmcs ts) := World.ownsRow.alloc hown _
  refine step_append_lies _ hgd s x 41 ho base 83 i0 _ 3 24 Try.underlying41 hi hz0 hz1 hz2 rfl (by decide) v ts.length _ hs hown' ⟨W.heap.size, 0, none⟩ 1 1 (tmc t) hx rfl ?_ ?_ (by decide) (by simp only [maxLen]; omega) (by omega) (by simp; omega) (W.heap.size + 1) (by simp) ?_
  · intro j u hu
    rw [Addr.add_lit, cell_of_row _ W.heap.size _ _ _ _ (heap_alloc_new W _), Nat.zero_add]
    rw [← hu]
    unfold tmc
    simp
  · intro u hu
    simp only [tmc, List.mem_cons, List.mem_nil_iff, or_false] at hu
    rcases hu with rfl | rfl | rfl <;> rfl
  · intro g cap w1 h1 h2 h3 h4
    refine h _ w1 ?_ ?_
    · unfold OwnT; rw [List.length_append, tmcs_snoc]; exact h1
    · exact ((Below.refl _ _).alloc hbase _).grown h2 (by simp; omega) (fun k hk => (hown.lt k hk).1)
set_option maxRecDepth 100000 in
set_option maxHeartbeats 2000000 in
theorem terms_any (ao : Option Addr) (len cap : Nat) (F : Nat → TmV) (w : World) (h : RdT w ao len cap F) :
    Calls Try.prog 9 #[.slice ao len cap] w fun e w' => ∃ v, e = .returned v ∧ OwnT w' w.heap.size v (tsOf F (min len 200)) ∧ Below w.heap.size w w' := by
  have HY : Hid (RdT w ao len cap F) := h
  have hmx := h.max
  have hle := h.le
  unfold maxLen at hmx
  clear h
  go_enter Try.func9, Try.ntmps9
  go_wp2_with fail
  go_loopw [3, 4] (fun fv iv wr => ∃ k : Nat, k ≤ len ∧ k ≤ 200 ∧ iv = .int .i64 k ∧ Hid (OwnT wr w.heap.size fv (tsOf F k)) ∧ Hid (Below w.heap.size w wr)) (fun _ iv _ => 200 - (intOf iv).toNat)
  case atStart => exact ⟨0, by omega, by omega, rfl, OwnT.nil _ _, Below.refl _ _⟩
  case round =>
    obtain ⟨k, hk, hk2, rfl, K1, K4⟩ := hrel
    by_cases hlt : k < len
    · by_cases hlt2 : k < 200
      · have hd : decide ((k : Int) < (len : Int)) = true := decide_eq_true (by omega)
        have hd2 : decide ((k : Int) < 200) = true := decide_eq_true (by omega)
        have hr := HY.out.later K4.out
        rcases hr.cells with h0 | ⟨b, off, rfl, hc⟩
        · omega
        · obtain ⟨g0, g1, g2⟩ := hc k hlt
          obtain ⟨b0, b1, b2, b3⟩ := HY.out.lt k hlt
          have HTK : Hid (tsOf F (k + 1) = tsOf F k ++ takeT (F k)) := rfl
          have HTL : Hid ((tsOf F k).length ≤ 200) := by have := tsOf_len F k; unfold Hid; omega
          obtain ⟨a, ha⟩ : ∃ a, (F k).a = a := ⟨_, rfl⟩
          obtain ⟨c, hcc⟩ : ∃ c, (F k).b = c := ⟨_, rfl⟩
          obtain ⟨n, hn⟩ : ∃ n, (F k).n = n := ⟨_, rfl⟩
          have HEQ : Hid ((F k).a = a ∧ (F k).b = c ∧ (F k).n = n) := ⟨ha, hcc, hn⟩
          rw [ha] at g0 b0
          rw [hcc] at g1 b1
          rw [hn] at g2 b2 b3
          have HBS : Hid (w.heap.size ≤ wr.heap.size) := K4.out.size
          have i0 : (0 : Int) ≤ (k : Int) := by omega
          have i1 : (k : Int) < (len : Int) := by omega
          clear hr hc ha hcc hn
          by_cases f1 : Fin a
          · have hf1 : decide (Fin a) = true := decide_eq_true f1
            by_cases f2 : Fin c
            · have hf2 : decide (Fin c) = true := decide_eq_true f2
              have HT : Hid (takeT (F k) = [⟨a, c, n.tmod 65⟩]) := by
                unfold Hid
                rw [takeT_yes (by rw [HEQ.out.1]; exact f1) (by rw [HEQ.out.2.1]; exact f2), HEQ.out.1, HEQ.out.2.1, HEQ.out.2.2]
              clear f1 f2
              go_wp2_with (first | (go_at_call_of 40 (Value.int IntKind.u64 (a : Int)); refine (numberRef_any a b0 _).mono ?_; rintro e wr ⟨rfl, rfl⟩; rw [hf1]) | (go_at_call_of 40 (Value.int IntKind.u64 (c : Int)); refine (numberRef_any c b1 _).mono ?_; rintro e wr ⟨rfl, rfl⟩; rw [hf2]))
              have HB : Hid (b < w.heap.size) := by
                rcases HY.out.cells with h0 | ⟨b2, off2, e2, hc2⟩
                · omega
                · cases e2; exact World.block_lt_of_cell? w _ (hc2 k hlt).1
              have HOW : Hid (OwnT wr.drew w.heap.size u3 (tsOf F k)) := K1.out.keep fun _ _ => rfl
              have HBD : Hid (Below w.heap.size w wr.drew) := K4.out.drew
              have vm : IntKind.i64.wrap (n.tmod 65) = n.tmod 65 := by
                have b1 := Int.tmod_lt_of_pos n (show (0 : Int) < 65 by omega)
                have b2 := Int.lt_tmod_of_pos n (show (0 : Int) < 65 by omega)
                rw [IntKind.wrap_i64]; omega
              go_region_held3 (fun w' => w'.cell? ⟨b, off + k * 3, none⟩ = some (.int .u64 (a : Int)) ∧ w'.cell? ⟨b, off + k * 3 + 1, none⟩ = some (.int .u64 (c : Int)) ∧ w'.cell? ⟨b, off + k * 3 + 2, none⟩ = some (.int .i64 n)) (go_keep) ((refine stepT _ (by rfl) (.tmp 29) (.tmp 47) (by rfl) w.heap.size _ (tsOf F k) (by rfl) HOW.out ⟨a, c, n.tmod 65⟩ (by rfl) (by have := HTL.out; omega) HBS.out ?_; intro v4 w4 hO4 hb4; have q0 : w4.cell? ⟨b, off + k * 3, none⟩ = some (.int .u64 (a : Int)) := (by rw [hb4.cell (p := ⟨b, off + k * 3, none⟩) HB.out]; exact g0); have q1 : w4.cell? ⟨b, off + k * 3 + 1, none⟩ = some (.int .u64 (c : Int)) := (by rw [hb4.cell (p := ⟨b, off + k * 3 + 1, none⟩) HB.out]; exact g1); have q2 : w4.cell? ⟨b, off + k * 3 + 2, none⟩ = some (.int .i64 n) := (by rw [hb4.cell (p := ⟨b, off + k * 3 + 2, none⟩) HB.out]; exact g2)))
              have HO4 : Hid (OwnT w4 w.heap.size v4 (tsOf F k ++ [⟨a, c, n.tmod 65⟩])) := hO4
              have HB4 : Hid (Below w.heap.size w w4) := HBD.out.trans hb4
              clear hO4 hb4 q0 q1 q2 g0 g1 g2
              go_wp2_with fail
              go_roundw
              case rel => exact ⟨k + 1, by omega, by omega, by go_num, by unfold Hid; rw [HTK.out, HT.out]; exact HO4.out, HB4⟩
              case measure => simp [intOf]; omega
            · have hf2 : decide (Fin c) = false := decide_eq_false f2
              have HT : Hid (takeT (F k) = []) := takeT_no (fun q => f2 (by have := q.2; rw [HEQ.out.2.1] at this; exact this))
              clear f1 f2
              go_wp2_with (first | (go_at_call_of 40 (Value.int IntKind.u64 (a : Int)); refine (numberRef_any a b0 _).mono ?_; rintro e wr ⟨rfl, rfl⟩; rw [hf1]) | (go_at_call_of 40 (Value.int IntKind.u64 (c : Int)); refine (numberRef_any c b1 _).mono ?_; rintro e wr ⟨rfl, rfl⟩; rw [hf2]))
              go_roundw
              case rel => exact ⟨k + 1, by omega, by omega, by go_num, by unfold Hid; rw [HTK.out, HT.out, List.append_nil]; exact K1.out, K4⟩
              case measure => simp [intOf]; omega
          · have hf1 : decide (Fin a) = false := decide_eq_false f1
            have HT : Hid (takeT (F k) = []) := takeT_no (fun q => f1 (by have := q.1; rw [HEQ.out.1] at this; exact this))
            clear f1
            go_wp2_with (first | (go_at_call 40; refine (numberRef_any a b0 _).mono ?_; rintro e wr ⟨rfl, rfl⟩; rw [hf1]))
            go_roundw
            case rel => exact ⟨k + 1, by omega, by omega, by go_num, by unfold Hid; rw [HTK.out, HT.out, List.append_nil]; exact K1.out, K4⟩
            case measure => simp [intOf]; omega
      · have hk3 : min len 200 = k := by omega
        have hd : decide ((k : Int) < (len : Int)) = true := decide_eq_true (by omega)
        have hd2 : decide ((k : Int) < 200) = false := decide_eq_false (by omega)
        have HK : Hid _ := hk3
        clear hk3
        go_wp2_with fail
        go_ret
        exact ⟨_, rfl, by rw [HK.out]; exact K1.out, K4.out⟩
    · have hk3 : min len 200 = k := by omega
      have hd : decide ((k : Int) < (len : Int)) = false := decide_eq_false (by omega)
      have HK : Hid _ := hk3
      clear hk3
      go_wp2_with fail
      go_ret
      exact ⟨_, rfl, by rw [HK.out]; exact K1.out, K4.out⟩
end Go.Proofs.Ytkpoikjikkailaa
