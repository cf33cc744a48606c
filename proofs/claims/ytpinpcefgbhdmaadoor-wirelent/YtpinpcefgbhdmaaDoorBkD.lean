import Derived.Test.YtpinpcefgbhdmaaDoorBkC
namespace Go.Proofs.YtpinpcefgbhdmaaDoor
open Go.RowKit
set_option linter.unusedVariables false

/-- Two values lie in blocks of their own. -/
def Apart (u v : Value) : Prop := ∀ k, u.ownBlock = some k → v.ownBlock ≠ some k
theorem Apart.symm {u v : Value} (h : Apart u v) : Apart v u := fun k hk hk' => h k hk' hk
/-- A value's block, if it has one, lies between two numbers. -/
def Fr (lo hi : Nat) (v : Value) : Prop := ∀ k, v.ownBlock = some k → lo ≤ k ∧ k < hi
theorem Fr.apart {a b c d : Nat} {u v : Value} (h : Fr a b u) (k : Fr c d v) (hb : b ≤ c) : Apart u v := fun j h1 h2 => by
  have := h j h1
  have := k j h2
  omega
theorem Fr.mono {a b c d : Nat} {u : Value} (h : Fr a b u) (h1 : c ≤ a) (h2 : b ≤ d) : Fr c d u := fun j hj => by have := h j hj; omega
theorem own_fr {w : World} {E : TypeId} {base size n : Nat} {v : Value} {xs : List Value} (h : w.ownsRow base E size v n xs) : Fr base w.heap.size v := fun k hk => World.ownsRow.lt h k hk
theorem own_later {w w' : World} {E : TypeId} {base size n : Nat} {v : Value} {xs : List Value} (h : w.ownsRow base E size v n xs) (hb : Below w.heap.size w w') : w'.ownsRow base E size v n xs := owns_keep h fun k hk => hb.block k (World.ownsRow.lt h k hk).2
theorem own_low {w : World} {E : TypeId} {base b size n : Nat} {v : Value} {xs : List Value} (h : w.ownsRow base E size v n xs) (hb : b ≤ base) : w.ownsRow b E size v n xs := by
  refine ⟨h.1, ?_⟩
  rcases h.2 with h2 | ⟨g, cap, cur, hv, hg, r⟩
  · exact .inl h2
  · exact .inr ⟨g, cap, cur, hv, Nat.le_trans hb hg, r⟩
/-- What is read of a value: its own row, or one that came in. -/
def Reads (w wr : World) (base : Nat) (p : Value) (q : List Int) : Prop := (Own wr base p q ∧ Byt q) ∨ ∃ ao len cap, p = .slice ao len cap ∧ Rd w ao len cap q
theorem Reads.rd {w wr : World} {base : Nat} {p : Value} {q : List Int} (h : Reads w wr base p q) (hb : Below w.heap.size w wr) : ∃ ao len cap, p = .slice ao len cap ∧ Rd wr ao len cap q := by
  rcases h with ⟨h1, h2⟩ | ⟨ao, len, cap, h1, h2⟩
  · obtain ⟨ao, cap, e, r⟩ := Rd.of_owns h1 h2
    exact ⟨ao, _, cap, e, r⟩
  · exact ⟨ao, len, cap, h1, h2.later hb⟩
/-- While lists are gathered: fv the frame, av the slice of what was told, pv the slice of what is wanted. -/
structure G1 (w wr : World) (base : Nat) (fv av pv : Value) (vs ps : List Value) (qs rs : List (List Int)) : Prop where
  A : OwnV wr base av vs
  P : OwnV wr base pv ps
  ap : Apart av pv
  lenA : vs.length = qs.length
  each : ∀ (i : Nat) (v : Value) (q : List Int), vs[i]? = some v → qs[i]? = some q → Own wr base v q ∧ Byt q ∧ q.length ≤ 10000
  pw : (fv :: vs).Pairwise Apart
  lenP : ps.length = rs.length
  want : ∀ (i : Nat) (p : Value) (q : List Int), ps[i]? = some p → rs[i]? = some q → Reads w wr base p q
  below : Below base w wr
theorem G1.later {w wr wx : World} {base : Nat} {fv av pv : Value} {vs ps : List Value} {qs rs : List (List Int)} (h : G1 w wr base fv av pv vs ps qs rs) (hb : Below wr.heap.size wr wx) (hz : base ≤ wr.heap.size) : G1 w wx base fv av pv vs ps qs rs := by
  refine ⟨own_later h.A hb, own_later h.P hb, h.ap, h.lenA, fun i v q h1 h2 => ?_, h.pw, h.lenP, fun i p q h1 h2 => ?_, h.below.trans (hb.mono hz)⟩
  · obtain ⟨x, y, z⟩ := h.each i v q h1 h2
    exact ⟨own_later x hb, y, z⟩
  · rcases h.want i p q h1 h2 with ⟨x, y⟩ | x
    · exact .inl ⟨own_later x hb, y⟩
    · exact .inr x
theorem get_snoc {α : Type} {l m : List α} {i : Nat} {a : α} (h : (l ++ m)[i]? = some a) : (i < l.length ∧ l[i]? = some a) ∨ (l.length ≤ i ∧ m[i - l.length]? = some a) := by
  rcases Nat.lt_or_ge i l.length with c | c
  · rw [List.getElem?_append_left c] at h; exact .inl ⟨c, h⟩
  · rw [List.getElem?_append_right c] at h; exact .inr ⟨c, h⟩
/-- append(all, ..). -/
theorem G1.addA {w wr w' : World} {base : Nat} {fv av av' pv : Value} {vs ps news : List Value} {qs rs nq : List (List Int)} {o : Obj} (h : G1 w wr base fv av pv vs ps qs rs) (hz : base ≤ wr.heap.size) (O : w'.ownsRow base 23 1 av' (vs ++ news).length (vs ++ news)) (C : Grw (wr.alloc o) w' av.ownBlock av'.ownBlock)
    (hl : news.length = nq.length) (hn : ∀ (i : Nat) v q, news[i]? = some v → nq[i]? = some q → Own wr base v q ∧ Byt q ∧ q.length ≤ 10000) (hp : (fv :: (vs ++ news)).Pairwise Apart) : G1 w w' base fv av' pv (vs ++ news) ps (qs ++ nq) rs := by
  have hAa := World.ownsRow.alloc h.A o
  have ke : ∀ v q, Own wr base v q → Own w' base v q := fun v q hv => own_at (World.ownsRow.alloc hv o) hAa (by decide) C
  have hb2 : Below base wr w' := ((Below.refl _ wr).alloc hz o).trans (C.below (base := base) (fun k hk => (World.ownsRow.lt h.A k hk).1) (by simp; omega))
  refine ⟨O, ?_, ?_, by simp [h.lenA, hl], ?_, hp, h.lenP, ?_, h.below.trans hb2⟩
  · exact owns_keep (World.ownsRow.alloc h.P o) fun k hk => C.by'.block k (by have := (World.ownsRow.lt h.P k hk).2; simp; omega) (fun c => h.ap k c.symm hk)
  · intro k hk hk'
    rcases C.new with e | e
    · exact h.ap k (e ▸ hk) hk'
    · have := e k hk
      have := (World.ownsRow.lt h.P k hk').2
      simp at *
      omega
  · intro i v q h1 h2
    rcases get_snoc h1 with ⟨c, h1⟩ | ⟨c, h1⟩
    · rw [List.getElem?_append_left (by rw [← h.lenA]; exact c)] at h2
      obtain ⟨x, y, z⟩ := h.each i v q h1 h2
      exact ⟨ke _ _ x, y, z⟩
    · rw [List.getElem?_append_right (by rw [← h.lenA]; exact c), ← h.lenA] at h2
      obtain ⟨x, y, z⟩ := hn _ v q h1 h2
      exact ⟨ke _ _ x, y, z⟩
  · intro i p q h1 h2
    rcases h.want i p q h1 h2 with ⟨x, y⟩ | x
    · exact .inl ⟨ke _ _ x, y⟩
    · exact .inr x
/-- append(want, ..). -/
theorem G1.addP {w wr w' : World} {base : Nat} {fv av pv pv' : Value} {vs ps news : List Value} {qs rs nq : List (List Int)} {o : Obj} (h : G1 w wr base fv av pv vs ps qs rs) (hz : base ≤ wr.heap.size) (O : w'.ownsRow base 23 1 pv' (ps ++ news).length (ps ++ news)) (C : Grw (wr.alloc o) w' pv.ownBlock pv'.ownBlock)
    (hl : news.length = nq.length) (hn : ∀ (i : Nat) p q, news[i]? = some p → nq[i]? = some q → Reads w wr base p q) : G1 w w' base fv av pv' vs (ps ++ news) qs (rs ++ nq) := by
  have hPa := World.ownsRow.alloc h.P o
  have ke : ∀ v q, Own wr base v q → Own w' base v q := fun v q hv => own_at (World.ownsRow.alloc hv o) hPa (by decide) C
  have kr : ∀ p q, Reads w wr base p q → Reads w w' base p q := fun p q hp => by
    rcases hp with ⟨x, y⟩ | x
    · exact .inl ⟨ke _ _ x, y⟩
    · exact .inr x
  have hb2 : Below base wr w' := ((Below.refl _ wr).alloc hz o).trans (C.below (base := base) (fun k hk => (World.ownsRow.lt h.P k hk).1) (by simp; omega))
  refine ⟨?_, O, ?_, h.lenA, ?_, h.pw, by simp [h.lenP, hl], ?_, h.below.trans hb2⟩
  · exact owns_keep (World.ownsRow.alloc h.A o) fun k hk => C.by'.block k (by have := (World.ownsRow.lt h.A k hk).2; simp; omega) (fun c => h.ap k hk c.symm)
  · intro k hk hk'
    rcases C.new with e | e
    · exact h.ap k hk (e ▸ hk')
    · have := e k hk'
      have := (World.ownsRow.lt h.A k hk).2
      simp at *
      omega
  · intro i v q h1 h2
    obtain ⟨x, y, z⟩ := h.each i v q h1 h2
    exact ⟨ke _ _ x, y, z⟩
  · intro i p q h1 h2
    rcases get_snoc h1 with ⟨c, h1⟩ | ⟨c, h1⟩
    · rw [List.getElem?_append_left (by rw [← h.lenP]; exact c)] at h2
      exact kr _ _ (h.want i p q h1 h2)
    · rw [List.getElem?_append_right (by rw [← h.lenP]; exact c), ← h.lenP] at h2
      exact kr _ _ (hn _ p q h1 h2)
/-- While lists are taken: i of them are. -/
structure G3 (w wr : World) (base B : Nat) (fv av Lv Mv : Value) (fq : List Int) (all es : List Value) (ms : List Int) (i : Nat) : Prop where
  bk : BkOk wr base B Lv Mv es ms
  apM : ∀ e ∈ es, Apart e Mv
  A : OwnV wr base av all
  apL : Apart av Lv
  F : Own wr base fv fq
  apF : Apart fv Mv
  rest : ∀ j, i ≤ j → j < all.length → ∃ v q, all[j]? = some v ∧ Own wr base v q ∧ q.length ≤ 10000 ∧ Apart v Mv ∧ ∀ e ∈ es, Apart v e
  pw : (fv :: all).Pairwise Apart
  below : Below base w wr
  le : base ≤ B
theorem pw_get {l : List Value} (h : l.Pairwise Apart) {i j : Nat} {a b : Value} (hij : i ≠ j) (ha : l[i]? = some a) (hb : l[j]? = some b) : Apart a b := by
  have key : ∀ (i j : Nat) (a b : Value), i < j → l[i]? = some a → l[j]? = some b → Apart a b := by
    intro i j a b hlt ha hb
    obtain ⟨h1, rfl⟩ := List.getElem?_eq_some_iff.1 ha
    obtain ⟨h2, rfl⟩ := List.getElem?_eq_some_iff.1 hb
    exact List.pairwise_iff_getElem.1 h i j h1 h2 hlt
  rcases Nat.lt_or_gt_of_ne hij with c | c
  · exact key i j a b c ha hb
  · exact (key j i b a c hb ha).symm
theorem G3.step {w wr w' : World} {base B : Nat} {fv av Lv Mv Lv' Mv' l v2 v3 : Value} {fq q : List Int} {all es : List Value} {ms : List Int} {i m : Nat} (h : G3 w wr base B fv av Lv Mv fq all es ms i) (hl : all[i]? = some l) (hq : Own wr base l q) (hq1 : q.length ≤ 10000) (hq2 : Apart l Mv) (hq3 : ∀ e ∈ es, Apart l e)
    (T : Taken wr w' base B Lv Mv l Lv' Mv' v2 v3 es ms q.length m) : G3 w w' base B fv av Lv' Mv' fq all (es ++ [l, v2, v3]) (ms ++ [(m : Int), (m : Int), (m : Int)]) (i + 1) := by
  have hB := h.bk.blk
  have hi : i < all.length := (List.getElem?_eq_some_iff.1 hl).1
  have ne : ∀ (E : TypeId) (n : Nat) (v : Value) (xs : List Value), wr.ownsRow base E 1 v n xs → E = 5 → Apart v l → Apart v Mv → w'.ownsRow base E 1 v n xs := by
    intro E n v xs hv hE h1 h2
    subst hE
    exact owns_keep hv fun k hk => T.keep k (World.ownsRow.lt hv k hk).2 (fun e => by subst e; exact own_neB hv hB (by decide) hk) (h1 k hk) (fun c => own_ne hv h.bk.L (by decide) k hk c) (h2 k hk)
  have apM' : ∀ v : Value, (∀ k, v.ownBlock = some k → k < wr.heap.size) → Apart v Mv → Apart v Mv' := by
    intro v hv h1 k hk hk'
    rcases T.atM with e | e
    · exact h1 k hk (e ▸ hk')
    · have := e k hk'
      have := hv k hk
      omega
  have apN : ∀ v u : Value, (∀ k, v.ownBlock = some k → k < wr.heap.size) → Apart v l → (u.ownBlock = l.ownBlock ∨ ∀ k, u.ownBlock = some k → wr.heap.size ≤ k) → Apart v u := by
    intro v u hv h1 hu k hk hk'
    rcases hu with e | e
    · exact h1 k hk (e ▸ hk')
    · have := e k hk'
      have := hv k hk
      omega
  have hfl : Apart fv l := pw_get h.pw (i := 0) (j := i + 1) (by omega) rfl (by simpa using hl)
  refine ⟨⟨T.blk, T.L, T.M, by simp [h.bk.len], ?_⟩, ?_, ?_, ?_, ne _ _ _ _ h.F rfl hfl h.apF, ?_, ?_, h.pw, h.below.trans T.below, h.le⟩
  · intro j hj
    rcases Nat.lt_or_ge j es.length with c | c
    · obtain ⟨v, n, m', a1, a2, a3, a4⟩ := h.bk.full j c
      have hv := List.mem_of_getElem? a1
      exact ⟨v, n, m', by rw [List.getElem?_append_left c]; exact a1, by rw [List.getElem?_append_left (by rw [h.bk.len]; exact c)]; exact a2, ne _ _ _ _ a3 rfl (hq3 v hv).symm (h.apM v hv), a4⟩
    · have hlen := h.bk.len
      simp at hj
      obtain rfl | rfl | rfl : j = es.length ∨ j = es.length + 1 ∨ j = es.length + 2 := by omega
      · exact ⟨l, q.length, m, by rw [List.getElem?_append_right (by omega)]; simp, by rw [List.getElem?_append_right (by omega)]; simp [hlen], T.a, by omega⟩
      · exact ⟨v2, _, m, by rw [List.getElem?_append_right (by omega), show es.length + 1 - es.length = 1 by omega]; rfl, by rw [List.getElem?_append_right (by omega), show es.length + 1 - ms.length = 1 by omega]; rfl, T.b, by omega⟩
      · exact ⟨v3, _, m, by rw [List.getElem?_append_right (by omega), show es.length + 2 - es.length = 2 by omega]; rfl, by rw [List.getElem?_append_right (by omega), show es.length + 2 - ms.length = 2 by omega]; rfl, T.c, by omega⟩
  · intro e he
    rcases List.mem_append.1 he with he | he
    · obtain ⟨j, hj⟩ := List.getElem?_of_mem he
      have hjl : j < es.length := (List.getElem?_eq_some_iff.1 hj).1
      obtain ⟨v, n, m', a1, a2, a3, a4⟩ := h.bk.full j hjl
      rw [hj] at a1
      cases a1
      exact apM' e (fun k hk => (World.ownsRow.lt a3 k hk).2) (h.apM e he)
    · simp at he
      rcases he with rfl | rfl | rfl
      · exact T.ap1
      · exact T.ap2
      · exact T.ap3
  · exact owns_keep h.A fun k hk => T.keep k (World.ownsRow.lt h.A k hk).2 (fun e => by subst e; exact own_neB h.A hB (by decide) hk) (fun c => own_ne h.A hq (by decide) k hk c) (h.apL k hk) (fun c => own_ne h.A h.bk.M (by decide) k hk c)
  · intro k hk hk'
    rcases T.atL with e | e
    · exact h.apL k hk (e ▸ hk')
    · have := e k hk'
      have := (World.ownsRow.lt h.A k hk).2
      omega
  · exact apM' fv (fun k hk => (World.ownsRow.lt h.F k hk).2) h.apF
  · intro j hj hjl
    obtain ⟨v, q', a1, a2, a3, a4, a5⟩ := h.rest j (by omega) hjl
    have hvl : Apart v l := pw_get h.pw (i := j + 1) (j := i + 1) (by omega) (by simpa using a1) (by simpa using hl)
    have hlt : ∀ k, v.ownBlock = some k → k < wr.heap.size := fun k hk => (World.ownsRow.lt a2 k hk).2
    refine ⟨v, q', a1, ne _ _ _ _ a2 rfl hvl a4, a3, apM' v hlt a4, fun e he => ?_⟩
    rcases List.mem_append.1 he with he | he
    · exact a5 e he
    · simp at he
      rcases he with rfl | rfl | rfl
      · exact hvl
      · exact apN v _ hlt hvl T.at2
      · exact apN v _ hlt hvl T.at3
end Go.Proofs.YtpinpcefgbhdmaaDoor
