import Derived.Test.YtlpfbgepdfjmjaaGreatJYa
namespace Go.Proofs.YtlpfbgepdfjmjaaGreat
open Go.RowKit Go.Shelf
set_option linter.unusedVariables false
set_option linter.unusedSimpArgs false

/-- append(s, x...) onto a row in a block of its own, elements of any size: where the answer lies. -/
theorem append_gsK {SE E : TypeId} {z : Value} {size bytes : Nat} (hu : Tryz.prog.underlying SE = some (.slice E)) (hinfo : (Tryz.prog.info? E).map (fun i => (i.zero, i.size, i.bytes)) = some (some z, size, bytes)) (hzc : z.cells.size = size) (hsz : 0 < size) (hby : bytes ≤ 64)
    {ops : Array Oper} {rest : List Oper} {o : Oper} {a : Act} {Q : Exit → Act → World → Prop} (W : World) (hgd : o.guard = none) (s x : Operand) (ho : o.op = .call { callee := .builtin .append, args := #[s, x], argTypes := #[SE, SE] })
    (base : Nat) (v : Value) (n : Nat) (xs : List Value) (hs : a.eval s = v) (hown : W.ownsRow base E size v n xs)
    (ad : Addr) (m c : Nat) (news : List Value) (hx : a.eval x = .slice (some ad) m c) (hl : news.length = m * size) (hnews : ∀ j u, news[j]? = some u → W.cell? (ad.add j) = some u) (h1 : ∀ u ∈ news, u.oneCell' = true)
    (hlen : n + m ≤ 100000000) (hbase : base ≤ W.heap.size)
    (h : ∀ v' w', w'.ownsRow base E size v' (n + m) (xs ++ news) → Grw W w' v.ownBlock v'.ownBlock → wpList Tryz.prog ops Q rest (a.put o.dst v') w') : wpList Tryz.prog ops Q (o :: rest) a W := by
  obtain ⟨i0, hi, hz0, hz1, hz2⟩ := info3' hinfo
  have hb2 : (n + m) * bytes ≤ 140737488355328 := Nat.le_trans (Nat.mul_le_mul hlen hby) (by decide)
  have grow : ∀ (w' : World) (v' : Value), w'.ownsRow W.heap.size E size v' (n + m) (xs ++ news) → W.grownBy w' none → wpList Tryz.prog ops Q rest (a.put o.dst v') w' := by
    intro w' v' g1 g2
    exact h v' w' (owns_monoJ g1 hbase) ⟨⟨g2.os, g2.tape, g2.output, g2.size, fun k hk _ => g2.block k hk (by simp)⟩, .inr fun k hk => (World.ownsRow.lt g1 k hk).1⟩
  rcases hown.2 with ⟨rfl, h0⟩ | ⟨g, cap, cur, hv, hg, hh, k1, k2, k3, k4⟩
  · subst h0
    have hx0 : xs = [] := List.eq_nil_of_length_eq_zero (by simpa using hown.1)
    subst hx0
    by_cases hm : m = 0
    · subst hm
      have hn0 : news = [] := List.eq_nil_of_length_eq_zero (by simpa using hl)
      subst hn0
      refine wpList_append_own W hgd s x SE ho base E i0 z size bytes hu hi hz0 hz1 hz2 hzc hsz (.slice none 0 0) 0 [] hs hown ad 0 c [] hx (by simp) hnews h1 (by simp [maxLen]) (by simp) hbase ?_
      intro v' w' r1 r2 r3
      obtain rfl := r3.2 ⟨rfl, rfl⟩
      exact h _ w' r1 ⟨r2, .inl rfl⟩
    · refine wpList_append_grows W hgd s x SE ho E i0 z size bytes hu hi hz0 hz1 hz2 hzc hsz none 0 0 [] hs (fun _ => ⟨rfl, rfl⟩) (by simp) (fun b hb => by cases hb) ad m c news hx hl hnews h1 (by omega) (by simp only [maxLen]; omega) hb2 ?_
      intro v' w' r1 r2
      exact grow w' v' r1 r2
  · by_cases hr : n + m ≤ cap
    · subst hv
      refine wpList_append_fits W hgd s x SE ho base E i0 size hu hi hz1 g n cap xs hs hown ad m c news hx hl hnews h1 hr ?_
      intro w' r1 r2
      exact h _ w' r1 ⟨r2, .inl rfl⟩
    · refine wpList_append_grows W hgd s x SE ho E i0 z size bytes hu hi hz0 hz1 hz2 hzc hsz (some ⟨g, 0, none⟩) n cap xs (by rw [hs, hv]) (fun c => by cases c) hown.1 ?_ ad m c news hx hl hnews h1 (by omega) (by simp only [maxLen]; omega) hb2 ?_
      · intro b hb j u hj
        cases hb
        exact World.ownsRow.cells hown (by rw [hv]; rfl) j u hj
      · intro v' w' r1 r2
        exact grow w' v' r1 r2
theorem Tryz.infoB8 : (Tryz.prog.info? 5).map (fun i => (i.zero, i.size, i.bytes)) = some (some (.int .u8 0), 1, 1) := by kernel_rfl
/-- The k-th byte of a word. -/
def byN (u k : Nat) : Nat := u / 2 ^ (8 * k) % 256
/-- The first k bytes of a word. -/
def byL (u k : Nat) : List Nat := (List.range k).map (byN u)
theorem byL_succ (u k : Nat) : byL u (k + 1) = byL u k ++ [byN u k] := by unfold byL; rw [List.range_succ, List.map_append]; rfl
/-- The bytes of numbers. -/
def byA (us : List Nat) : List Nat := us.flatMap fun u => byL u 8
theorem byA_snoc (us : List Nat) (u : Nat) : byA (us ++ [u]) = byA us ++ byL u 8 := by unfold byA; rw [List.flatMap_append]; simp
def bJ (xs : List Nat) : List Value := xs.map fun (x : Nat) => Value.int .u8 (x : Int)
theorem bJ_len (xs : List Nat) : (bJ xs).length = xs.length := List.length_map _
theorem bJ_app (xs ys : List Nat) : bJ (xs ++ ys) = bJ xs ++ bJ ys := List.map_append
theorem shrJ (m n : Nat) : (m : Int) >>> n = ((m / 2 ^ n : Nat) : Int) := by
  show ((m >>> n : Nat) : Int) = _
  rw [Nat.shiftRight_eq_div_pow]
set_option maxRecDepth 100000 in
set_option maxHeartbeats 2000000 in
/-- The law's text. -/
theorem text_any (ao : Option Addr) (len cap : Nat) (us : List Nat) (w : World) (hr : RdF w ao len cap us) (hl : len ≤ 1050000) :
    Calls Tryz.prog 16 #[.slice ao len cap] w fun e w' => ∃ v, e = .returned v ∧ w'.ownsRow w.heap.size 5 1 v (8 * us.length) (bJ (byA us)) ∧ Below w.heap.size w w' := by
  have HR : Hid _ := hr
  have HLN : Hid _ := hr.length
  clear hr
  go_enter Tryz.func16, Tryz.ntmps16
  go_wp2_with fail
  go_loopg [3, 4] len (fun g v u wx => ∃ (i : Nat), u = .int .i64 i ∧ i + g = len ∧ Hid (wx.ownsRow w.heap.size 5 1 v (8 * i) (bJ (byA (us.take i)))) ∧ Hid (Below w.heap.size w wx))
  case atStart => exact ⟨0, rfl, by omega, World.ownsRow_nil _ _ _ _, Below.refl _ _⟩
  case round =>
    obtain ⟨i, rfl, hi, HO, HB⟩ := hrel
    by_cases hlt : i < len
    · have hd : decide ((i : Int) < (len : Int)) = true := decide_eq_true (by omega)
      obtain ⟨g, rfl⟩ : ∃ g, gk = g + 1 := ⟨gk - 1, by omega⟩
      rcases (HR.out.later HB.out).cells with h0 | ⟨b, off, rfl, hc⟩
      · omega
      have g0 := hc i hlt
      have hul := HR.out.lt _ (getD_mem (us := us) (j := i) (by rw [HLN.out]; exact hlt))
      have HTS : Hid _ := take_snocJ (us := us) (k := i) (by rw [HLN.out]; exact hlt)
      obtain ⟨x, hx⟩ : ∃ x, us[i]?.getD 0 = x := ⟨_, rfl⟩
      rw [hx] at g0 HTS hul
      have HIG : Hid _ := hi
      clear hc hi hx
      go_wp2_with (first
        | (go_at_call 13; refine Calls.mono (apiBits_any x _) ?_; rintro e w' ⟨rfl, hw⟩; rw [hw]; clear hw))
      go_loopg [3, 6] 8 (fun q v u wx => ∃ (k : Nat), u = .int .i64 k ∧ k + q = 8 ∧ Hid (wx.ownsRow w.heap.size 5 1 v (8 * i + k) (bJ (byA (us.take i) ++ byL x k))) ∧ Hid (Below w.heap.size w wx))
      case atStart => exact ⟨0, rfl, by omega, by unfold Hid; rw [show byL x 0 = [] from rfl, List.append_nil]; exact HO.out, HB⟩
      case round =>
        obtain ⟨k, rfl, hk, HO2, HB2⟩ := hrel
        have hsr := HB2.out.size
        by_cases hlk : k < 8
        · have hdk : decide ((k : Int) < 8) = true := decide_eq_true (by omega)
          obtain ⟨q, rfl⟩ : ∃ q, gk = q + 1 := ⟨gk - 1, by omega⟩
          have HIK : Hid _ := hk
          have hsh := shrJ x (8 * k)
          clear hk
          go_wp2_with (first
            | (at_builtin; refine append_gsK Tryz.underlying49 Tryz.infoB8 rfl (by decide) (by decide) _ (by rfl) _ _ (by rfl) w.heap.size _ _ _ (by rfl) (World.ownsRow.alloc HO2.out _) ⟨wr.heap.size, 0, none⟩ 1 1 [.int .u8 ((byN x k : Nat) : Int)] (by rfl) rfl (news_oneJ (heap_alloc_new wr _)) (oneI _ rfl) (by omega) (by simp only [alloc_size]; omega) ?_; intro v5 w5 o5 g5))
          have B5 : Hid (Below w.heap.size w w5) := (HB2.out.alloc hsr _).trans (g5.below (fun k hk => (World.ownsRow.lt HO2.out k hk).1) (by simp only [alloc_size]; omega))
          have O5 : Hid _ := o5
          clear o5 g5
          go_roundg q
          case measure => omega
          case rel =>
            refine ⟨k + 1, by go_num, by have := HIK.out; omega, ?_, B5⟩
            unfold Hid
            rw [byL_succ, ← List.append_assoc, bJ_app]
            exact O5.out
        · have hdk : decide ((k : Int) < 8) = false := decide_eq_false (by omega)
          obtain rfl : k = 8 := by omega
          go_wp2_with fail
          go_roundg g
          case measure => omega
          case rel =>
            refine ⟨i + 1, by go_num, by have := HIG.out; omega, ?_, HB2⟩
            unfold Hid
            rw [HTS.out, byA_snoc]
            exact HO2.out
    · have hd : decide ((i : Int) < (len : Int)) = false := decide_eq_false (by omega)
      have HO2 : Hid (wr.ownsRow w.heap.size 5 1 u3 (8 * us.length) (bJ (byA us))) := by
        have := HO.out
        rw [List.take_of_length_le (by rw [HLN.out]; omega), show i = us.length by rw [HLN.out]; omega] at this
        exact this
      go_wp2
      go_ret
      exact ⟨_, rfl, HO2.out, HB.out⟩
end Go.Proofs.YtlpfbgepdfjmjaaGreat

