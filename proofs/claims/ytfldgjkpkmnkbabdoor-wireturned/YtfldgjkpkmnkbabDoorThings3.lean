import Derived.Test.YtfldgjkpkmnkbabDoorThings2
namespace Go.Proofs.YtfldgjkpkmnkbabDoor
open Go.RowKit
set_option linter.unusedVariables false

/-- A thing that may be written. -/
structure May (m u : Nat) (s : ByteArray) (xs : List Int) : Prop where
  hm : m < 9223372036854775808
  hu : u < 18446744073709551616
  num : isNum u = true
  txt : ∃ k, rn s = some k
  size : s.size ≤ 1048576
  len : xs.length ≤ 1048576
  byt : Byt xs
theorem wroteB_byt {q : Int} {m u : Nat} {s : ByteArray} {xs : List Int} (h : May m u s xs) : Byt (wroteB q m u s xs) := by
  unfold wroteB
  repeat' split
  · exact grp_byt _
  · exact low8_byt _ _
  · exact (grp_byt _).append (strL_byt _)
  · exact frame_byt h.byt
theorem wroteB_pos {q : Int} {m u : Nat} {s : ByteArray} {xs : List Int} (h : May m u s xs) : 1 ≤ (wroteB q m u s xs).length ∧ (wroteB q m u s xs).length ≤ 1048600 := by
  have g1 := grp_pos m
  have g2 := grp_len 9 m (by have := h.hm; omega) (by omega)
  have g3 := grp_pos s.size
  have g4 := grp_len 9 s.size (by have := h.size; omega) (by omega)
  have := h.size
  have := h.len
  unfold wroteB
  repeat' split
  · omega
  · rw [low8_len]; omega
  · rw [List.length_append, strL_len]; omega
  · rw [frame_len]; omega

theorem wrote_any (kd q : Int) (hk : bits .and .i64 kd 3 = q) (hq0 : 0 ≤ q) (hq3 : q ≤ 3) (m u : Nat) (s : ByteArray) (ao : Option Addr) (len cap : Nat) (xs : List Int) (w : World) (h : May m u s xs) (hr : Rd w ao len cap xs) (hT : U8 w) :
    Calls Tryd.prog 10 #[.agg #[.int .i64 kd, .int .i64 m, .int .u64 u, .string s, .slice ao len cap]] w fun e w' => ∃ v, e = .returned (.tuple #[v, .bool true]) ∧ Own w' w.heap.size v (wroteB q m u s xs) ∧ Below w.heap.size w w' := by
  obtain ⟨k, hkk⟩ := h.txt
  have h1 := h.size
  have h2 := h.len
  rw [hr.length] at h2
  unfold wroteB
  by_cases h0 : q = 0
  · rw [if_pos h0]; exact wrote_0 kd (hk.trans h0) m u s ao len cap xs w h.hm
  by_cases h1' : q = 1
  · rw [if_neg h0, if_pos h1']; exact wrote_1 kd (hk.trans h1') m u s ao len cap xs w h.hu h.num
  by_cases h2' : q = 2
  · rw [if_neg h0, if_neg h1', if_pos h2']; exact wrote_2 kd (hk.trans h2') m u s ao len cap xs w (by omega) k hkk hT
  rw [if_neg h0, if_neg h1', if_neg h2']
  exact wrote_3 kd (by rw [hk]; simp [h0]) (by rw [hk]; simp [h1']) (by rw [hk]; simp [h2']) m u s ao len cap xs w hr h2

/-- What a read of a kind tells. -/
def ReadAs (q : Int) (xs : List Int) (p : Int) (n : Int) (u : Nat) (s : ByteArray) (bs : List Int) (p' e' : Int) : Prop :=
  (q = 0 ∧ rdU xs p = (n, p', e') ∧ u = 0 ∧ s = ⟨#[]⟩ ∧ bs = []) ∨ (q = 1 ∧ rdF xs p = (u, p', e') ∧ n = 0 ∧ s = ⟨#[]⟩ ∧ bs = []) ∨
  (q = 2 ∧ rdT xs p 1048576 = (s, p', e') ∧ n = 0 ∧ u = 0 ∧ bs = []) ∨ (q = 3 ∧ rdR xs p = (bs, p', e') ∧ n = 0 ∧ u = 0 ∧ s = ⟨#[]⟩)

theorem nil_rd (w : World) : Rd w none 0 0 [] := ⟨rfl, Nat.le_refl _, by decide, Byt.nil, fun _ => rfl, .inl rfl⟩
theorem reads_any (kd q : Int) (hk : bits .and .i64 kd 3 = q) (hq0 : 0 ≤ q) (hq3 : q ≤ 3) (p : Int) (ao : Option Addr) (len cap : Nat) (xs : List Int) (w : World) (hr : Rd w ao len cap xs) (hT : U8 w) :
    Calls Tryd.prog 12 #[.int .i64 kd, .slice ao len cap, .int .i64 p] w fun e w' => ∃ (n : Int) (u : Nat) (s : ByteArray) (a' : Option Addr) (l' c' : Nat) (bs : List Int) (p' e' : Int),
      e = .returned (.tuple #[.agg #[.int .i64 q, .int .i64 n, .int .u64 u, .string s, .slice a' l' c'], .int .i64 p', .int .i64 e']) ∧ Rd w' a' l' c' bs ∧ ReadAs q xs p n u s bs p' e' ∧ Below w.heap.size w w' := by
  by_cases h0 : q = 0
  · subst h0
    refine (reads_0 kd hk p ao len cap xs w hr).mono ?_
    rintro e w' ⟨rfl, hb⟩
    exact ⟨(rdU xs p).1, 0, ⟨#[]⟩, none, 0, 0, [], _, _, rfl, nil_rd _, .inl ⟨rfl, rfl, rfl, rfl, rfl⟩, hb⟩
  by_cases h1 : q = 1
  · subst h1
    refine (reads_1 kd hk p ao len cap xs w hr).mono ?_
    rintro e w' ⟨rfl, hb⟩
    exact ⟨0, (rdF xs p).1, ⟨#[]⟩, none, 0, 0, [], _, _, rfl, nil_rd _, .inr (.inl ⟨rfl, rfl, rfl, rfl, rfl⟩), hb⟩
  by_cases h2 : q = 2
  · subst h2
    refine (reads_2 kd hk p ao len cap xs w hr hT).mono ?_
    rintro e w' ⟨rfl, hb⟩
    exact ⟨0, 0, (rdT xs p 1048576).1, none, 0, 0, [], _, _, rfl, nil_rd _, .inr (.inr (.inl ⟨rfl, rfl, rfl, rfl, rfl⟩)), hb⟩
  refine (reads_3 kd q hk (by simp [h0]) (by simp [h1]) (by simp [h2]) p ao len cap xs w hr).mono ?_
  rintro e w' ⟨v, rfl, hO, hb⟩
  obtain ⟨a', l', c', rfl, hr'⟩ := hO.rd' (rdR_byt _ _ hr.byt)
  exact ⟨0, 0, ⟨#[]⟩, a', l', c', (rdR xs p).1, _, _, rfl, hr', .inr (.inr (.inr ⟨by omega, rfl, rfl, rfl, rfl⟩)), hb⟩

theorem rn_nil : rn ⟨#[]⟩ = some 0 := rfl
/-- What is written is read, wherever it stands. -/
theorem there (q : Int) (hs ts : List Int) (m u : Nat) (s : ByteArray) (xs : List Int) (h : May m u s xs) (n' : Int) (u' : Nat) (s' : ByteArray) (bs' : List Int) (p' e' : Int)
    (hR : ReadAs q (hs ++ wroteB q m u s xs ++ ts) hs.length n' u' s' bs' p' e') :
    e' = 0 ∧ p' = (hs.length : Int) + (wroteB q m u s xs).length ∧ (q = 0 → n' = m) ∧ (q = 1 → u' = u) ∧ (q = 2 → s' = s) ∧ (q = 3 → bs' = xs) := by
  rcases hR with ⟨rfl, hR, _⟩ | ⟨rfl, hR, _⟩ | ⟨rfl, hR, _⟩ | ⟨rfl, hR, _⟩
  · have hw : wroteB 0 m u s xs = grp m := rfl
    rw [hw] at hR ⊢
    rw [rdU_grp hs ts m (by have := h.hm; omega)] at hR
    simp only [Prod.mk.injEq] at hR
    exact ⟨hR.2.2.symm, hR.2.1.symm, fun _ => hR.1.symm, (fun h => by omega), (fun h => by omega), (fun h => by omega)⟩
  · have hw : wroteB 1 m u s xs = low8 u 8 := rfl
    rw [hw] at hR ⊢
    rw [rdF_float hs ts u h.hu h.num] at hR
    simp only [Prod.mk.injEq] at hR
    exact ⟨hR.2.2.symm, by rw [low8_len]; exact hR.2.1.symm, (fun h => by omega), fun _ => hR.1.symm, (fun h => by omega), (fun h => by omega)⟩
  · have hw : wroteB 2 m u s xs = grp s.size ++ strL s := rfl
    rw [hw] at hR ⊢
    obtain ⟨k, hk⟩ := h.txt
    have hz := h.size
    rw [rdT_text hs ts s 1048576 k hk (by omega) (by omega)] at hR
    simp only [Prod.mk.injEq] at hR
    exact ⟨hR.2.2.symm, by rw [List.length_append, strL_len]; omega, (fun h => by omega), (fun h => by omega), fun _ => hR.1.symm, (fun h => by omega)⟩
  · have hw : wroteB 3 m u s xs = frameB xs := rfl
    rw [hw] at hR ⊢
    rw [rdR_frame hs xs ts h.len] at hR
    simp only [Prod.mk.injEq] at hR
    exact ⟨hR.2.2.symm, by rw [frame_len]; omega, (fun h => by omega), (fun h => by omega), (fun h => by omega), fun _ => hR.1.symm⟩
theorem alikeB_of {q m m' u u' : Int} {s s' : ByteArray} {xs xs' : List Int} (h0 : q = 0 → m' = m) (h1 : q = 1 → u' = u) (h2 : q = 2 → s' = s) (h3 : q = 3 → xs' = xs) (hq0 : 0 ≤ q) (hq3 : q ≤ 3) : alikeB q m m' u u' s s' xs xs' = true := by
  unfold alikeB
  by_cases k0 : q = 0
  · rw [if_pos k0, h0 k0]; simp
  by_cases k1 : q = 1
  · rw [if_neg k0, if_pos k1, h1 k1]; simp
  by_cases k2 : q = 2
  · rw [if_neg k0, if_neg k1, if_pos k2, h2 k2]; exact beq_self_eq_true _
  rw [if_neg k0, if_neg k1, if_neg k2, h3 (by omega)]
  simp
/-- What was read is written just so. -/
theorem back (q : Int) (xs : List Int) (p n : Int) (u : Nat) (s : ByteArray) (bs : List Int) (p' : Int) (hb : Byt xs) (hx : xs.length ≤ 1048576) (hR : ReadAs q xs p n u s bs p' 0) :
    ∃ (m Q : Nat), n = (m : Int) ∧ May m u s bs ∧ p' = (Q : Int) ∧ p.toNat ≤ Q ∧ Q ≤ xs.length ∧ wroteB q m u s bs = (xs.take Q).drop p.toNat := by
  rcases hR with ⟨rfl, hR, rfl, rfl, rfl⟩ | ⟨rfl, hR, rfl, rfl, rfl⟩ | ⟨rfl, hR, rfl, rfl, rfl⟩ | ⟨rfl, hR, rfl, rfl, rfl⟩
  · have he : (rdU xs p).2.2 = 0 := by rw [hR]
    obtain ⟨m, Q, h1, h2, h3, h4, h5⟩ := rdU_back xs p hb he
    have hok := rdU_ok xs p hb he
    rw [hR] at h1 h2 hok
    simp only at h1 h2 hok
    exact ⟨m, Q, h1, ⟨by omega, by omega, by decide, ⟨0, rn_nil⟩, by decide, by simp, Byt.nil⟩, h2, h3, h4, h5⟩
  · have he : (rdF xs p).2.2 = 0 := by rw [hR]
    obtain ⟨h0, h1, h2, h3, h4, h5⟩ := rdF_back xs p hb he
    rw [hR] at h1 h3 h4 h5
    simp only at h1 h3 h4 h5
    exact ⟨0, p.toNat + 8, rfl, ⟨by omega, h4, h3, ⟨0, rn_nil⟩, by decide, by simp, Byt.nil⟩, by omega, by omega, by omega, h5⟩
  · have he : (rdT xs p 1048576).2.2 = 0 := by rw [hR]
    obtain ⟨Q, h0, h1, h2, h3, h4, h5, h6⟩ := rdT_back xs p 1048576 hb he
    rw [hR] at h1 h4 h5 h6
    simp only at h1 h4 h5 h6
    exact ⟨0, Q, rfl, ⟨by omega, by omega, by decide, h4, by omega, by simp, Byt.nil⟩, h1, h2, h3, h5⟩
  · have he : (rdR xs p).2.2 = 0 := by rw [hR]
    obtain ⟨Q, h0, h1, h2, h3, h4, h5⟩ := rdR_back xs p hb he
    have hby := rdR_byt xs p hb
    rw [hR] at h1 h4 h5 hby
    simp only at h1 h4 h5 hby
    exact ⟨0, Q, rfl, ⟨by omega, by omega, by decide, ⟨0, rn_nil⟩, by decide, h4, hby⟩, h1, h2, h3, h5⟩
end Go.Proofs.YtfldgjkpkmnkbabDoor
