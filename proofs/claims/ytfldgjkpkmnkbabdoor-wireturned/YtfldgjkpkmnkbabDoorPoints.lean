import Derived.Test.YtfldgjkpkmnkbabDoorRefRunes
import Derived.Test.YtfldgjkpkmnkbabDoorTripV
namespace Go.Proofs.YtfldgjkpkmnkbabDoor
open Go.RowKit
set_option linter.unusedVariables false

set_option maxRecDepth 100000 in
set_option maxHeartbeats 1000000 in
theorem row_any (s : ByteArray) (w : World) (hs : s.size ≤ 2305843009213693952) :
    Calls Tryd.prog 21 #[.string s] w fun e w' => e = .returned (rnV (rn s)) ∧ Below w.heap.size w w' := by
  go_enter Tryd.func21, Tryd.ntmps21
  go_wp2
  go_loopg [4, 5] s.size (fun g v u wx => ∃ (pos n : Nat), v = .int .i64 n ∧ u = .int .i64 pos ∧ n ≤ pos ∧ pos ≤ s.size ∧ Below w.heap.size w wx ∧ Hid (rnF s g pos n = rn s) ∧ s.size ≤ pos + g)
  case atStart => exact ⟨0, 0, rfl, rfl, by omega, by omega, Below.refl _ _, rfl, by omega⟩
  case round =>
    obtain ⟨pos, n, rfl, rfl, hn, hps, hbw, HR, hfu⟩ := hrel
    by_cases hp : pos < s.size
    · obtain ⟨g, rfl⟩ : ∃ g, gk = g + 1 := ⟨gk - 1, by omega⟩
      have hwd := Lib.width_pos s pos
      have hwl := width_fits s pos hp
      have HR1 := HR.out
      simp only [rnF] at HR1
      rw [if_pos hp, badAt_eq s pos hp] at HR1
      clear HR
      have HA : Hid _ := refAt_any s pos hp hs wr
      go_wp2_with fail
      refine Calls.mono HA.out ?_
      clear HA
      rintro e W ⟨rfl, hb⟩
      by_cases hbad : Utf8.decode s pos = (65533, 1)
      · rw [good_bad s pos hbad]
        have H1 : Hid (rn s = none) := by
          unfold Hid
          rw [← HR1, if_pos (decide_eq_true hbad)]
        clear HR1 hbad
        unfold atV
        go_wp2
        go_ret2
        exact ⟨by rw [H1.out]; rfl, hbw.trans (hb.mono hbw.size)⟩
      · have hg : goodAt s pos = (((Utf8.decode s pos).1 : Int), ((Utf8.decode s pos).2 : Int)) := by unfold goodAt; rw [if_neg hbad]
        rw [hg]
        have H1 : Hid (rnF s g (pos + (Utf8.decode s pos).2) (n + 1) = rn s) := by
          unfold Hid
          rw [← HR1, if_neg (by simp [hbad])]
        clear HR1 hbad hg
        unfold atV
        generalize (Utf8.decode s pos).1 = R at *
        generalize (Utf8.decode s pos).2 = K at *
        have hK : ((K : Int) == 0) = false := by simp; omega
        go_wp2
        go_roundg g
        case measure => omega
        case rel => exact ⟨pos + K, n + 1, by go_num, by go_num, by omega, by omega, hbw.trans (hb.mono hbw.size), H1.out, by omega⟩
    · have H1 : Hid (rn s = some n) := by unfold Hid; rw [← HR.out, rnF_end s gk pos n hp]
      clear HR
      go_wp2
      go_ret2
      exact ⟨by rw [H1.out]; rfl, hbw⟩

/-! ### rows of code points -/
theorem by'_strL (s : ByteArray) (i : Nat) (h : i < s.size) : (by' s i : Int) = (strL s)[i]?.getD 0 := by
  rw [by'_eq s i h]
  unfold strL
  have h' : i < s.data.toList.length := by simpa using h
  rw [List.getElem?_map, List.getElem?_eq_getElem h']
  rfl
theorem good_pt (s : ByteArray) (pre post : List Int) (p : Int) (h : ptB p ≠ []) (hs : strL s = pre ++ (ptB p ++ post)) : goodAt s pre.length = (p, ((ptB p).length : Int)) := by
  have hsz : s.size = pre.length + ((ptB p).length + post.length) := by rw [← strL_len s, hs, List.length_append, List.length_append]
  have hby : ∀ j, j < (ptB p).length → (by' s (pre.length + j) : Int) = (ptB p)[j]?.getD 0 := by
    intro j hj
    rw [by'_strL s _ (by omega), hs, List.getElem?_append_right (by omega), show pre.length + j - pre.length = j from by omega, List.getElem?_append_left hj]
  have key : atRes s pre.length p (ptB p).length = (p, ((ptB p).length : Int)) := atRes_eq s _ p _ (by omega) rfl (strB_extract (ptB p) s pre.length _ rfl (ptB_byt p) (by omega) (fun j hj => (hby j hj).symm))
  have h0 : ¬ (p < 0 ∨ 1114111 < p ∨ (55296 ≤ p ∧ p ≤ 57343)) := fun k => h (ptB_neg p k)
  generalize hi : pre.length = i at *
  by_cases c1 : p < 128
  · have e := ptB_1 p (by omega) c1
    rw [e] at key hby hsz ⊢
    have b0 := hby 0 (by simp)
    simp at b0
    obtain ⟨c, hc⟩ : ∃ c : Nat, by' s i = c := ⟨_, rfl⟩
    rw [hc] at b0
    have := res_one s i (by simp at hsz; omega) c hc (by omega)
    rw [b0] at this
    rw [← this]
    exact key
  by_cases c2 : p < 2048
  · have e := ptB_2 p (by omega) c2
    rw [e] at key hby hsz ⊢
    have b0 := hby 0 (by simp)
    have b1 := hby 1 (by simp)
    simp at b0 b1 hsz
    obtain ⟨c, hc⟩ : ∃ c : Nat, by' s i = c := ⟨_, rfl⟩
    rw [hc] at b0
    have hr := res_two s i (by omega) c hc (by omega) (by omega)
    rw [lowV_some s (i + 1) (by omega) (by omega) (by omega), b1, b0, show (192 + p / 64 - 192) * 64 + (128 + p % 64 - 128) = p from by omega] at hr
    rw [← hr]
    exact key
  by_cases c3 : p < 65536
  · have e := ptB_3 p (by omega) c3 (by omega)
    rw [e] at key hby hsz ⊢
    have b0 := hby 0 (by simp)
    have b1 := hby 1 (by simp)
    have b2 := hby 2 (by simp)
    simp at b0 b1 b2 hsz
    obtain ⟨c, hc⟩ : ∃ c : Nat, by' s i = c := ⟨_, rfl⟩
    rw [hc] at b0
    have hr := res_three s i (by omega) c hc (by omega) (by omega)
    rw [lowV_some s (i + 1) (by omega) (by omega) (by omega), lowV_some s (i + 2) (by omega) (by omega) (by omega), b1, b2, b0, show (224 + p / 4096 - 224) * 4096 + (128 + p / 64 % 64 - 128) * 64 + (128 + p % 64 - 128) = p from by omega] at hr
    rw [← hr]
    exact key
  · have e := ptB_4 p (by omega) (by omega)
    rw [e] at key hby hsz ⊢
    have b0 := hby 0 (by simp)
    have b1 := hby 1 (by simp)
    have b2 := hby 2 (by simp)
    have b3 := hby 3 (by simp)
    simp at b0 b1 b2 b3 hsz
    obtain ⟨c, hc⟩ : ∃ c : Nat, by' s i = c := ⟨_, rfl⟩
    rw [hc] at b0
    have hr := res_four s i (by omega) c hc (by omega) (by omega)
    rw [lowV_some s (i + 1) (by omega) (by omega) (by omega), lowV_some s (i + 2) (by omega) (by omega) (by omega), lowV_some s (i + 3) (by omega) (by omega) (by omega), b1, b2, b3, b0, show (240 + p / 262144 - 240) * 262144 + (128 + p / 4096 % 64 - 128) * 4096 + (128 + p / 64 % 64 - 128) * 64 + (128 + p % 64 - 128) = p from by omega] at hr
    rw [← hr]
    exact key

def ptsB : List Int → List Int
  | [] => []
  | p :: ps => ptB p ++ ptsB ps
def ptsN : List Int → Nat
  | [] => 0
  | p :: ps => (if (ptB p).length = 0 then 0 else 1) + ptsN ps
theorem ptsB_append (ps qs : List Int) : ptsB (ps ++ qs) = ptsB ps ++ ptsB qs := by
  induction ps with
  | nil => rfl
  | cons p ps ih => simp only [List.cons_append, ptsB, ih, List.append_assoc]
theorem ptsN_append (ps qs : List Int) : ptsN (ps ++ qs) = ptsN ps + ptsN qs := by
  induction ps with
  | nil => simp [ptsN]
  | cons p ps ih => simp only [List.cons_append, ptsN, ih]; omega
theorem ptsB_byt (ps : List Int) : Byt (ptsB ps) := by
  induction ps with
  | nil => exact Byt.nil
  | cons p ps ih => exact (ptB_byt p).append ih
theorem ptB_len (p : Int) : (ptB p).length ≤ 4 := by
  unfold ptB
  repeat' split
  all_goals simp
theorem ptsB_len (ps : List Int) : (ptsB ps).length ≤ 4 * ps.length := by
  induction ps with
  | nil => simp [ptsB]
  | cons p ps ih => have := ptB_len p; simp only [ptsB, List.length_append, List.length_cons]; omega
theorem ptsN_len (ps : List Int) : ptsN ps ≤ ps.length := by
  induction ps with
  | nil => simp [ptsN]
  | cons p ps ih => simp only [ptsN, List.length_cons]; split <;> omega
theorem pts_snoc (ps : List Int) (k : Nat) (hk : k < ps.length) : ptsB (ps.take (k + 1)) = ptsB (ps.take k) ++ ptB (ps[k]?.getD 0) ∧ ptsN (ps.take (k + 1)) = ptsN (ps.take k) + (if (ptB (ps[k]?.getD 0)).length = 0 then 0 else 1) := by
  rw [List.take_succ_eq_append_getElem hk, ptsB_append, ptsN_append, List.getElem?_eq_getElem hk]
  simp only [ptsB, ptsN, List.append_nil, Option.getD_some, Nat.add_zero, and_self]
theorem rnF_pts (s : ByteArray) : ∀ (ps pre : List Int) (f n : Nat), strL s = pre ++ ptsB ps → (ptsB ps).length ≤ f → rnF s f pre.length n = some (n + ptsN ps) := by
  intro ps
  induction ps with
  | nil =>
    intro pre f n hs hf
    simp only [ptsB, List.append_nil] at hs
    rw [rnF_end s f _ n (by rw [← strL_len s, hs]; omega)]
    rfl
  | cons p ps ih =>
    intro pre f n hs hf
    simp only [ptsB, List.length_append] at hs hf
    by_cases h : ptB p = []
    · rw [h, List.nil_append] at hs
      rw [ih pre f n hs (by omega)]
      simp [ptsN, h]
    · have hl : 0 < (ptB p).length := List.length_pos_iff.2 h
      have hg := good_pt s pre (ptsB ps) p h hs
      have hsz : s.size = pre.length + ((ptB p).length + (ptsB ps).length) := by rw [← strL_len s, hs, List.length_append, List.length_append]
      obtain ⟨f, rfl⟩ : ∃ g, f = g + 1 := ⟨f - 1, by omega⟩
      have hbad : ¬ Utf8.decode s pre.length = (65533, 1) := by
        intro hb
        rw [good_bad s _ hb] at hg
        simp only [Prod.mk.injEq] at hg
        omega
      have hd : (Utf8.decode s pre.length).2 = (ptB p).length := by
        unfold goodAt at hg
        rw [if_neg hbad] at hg
        simp only [Prod.mk.injEq] at hg
        omega
      simp only [rnF]
      rw [if_pos (by omega), badAt_eq s _ (by omega), if_neg (by simp [hbad]), hd]
      have := ih (pre ++ ptB p) f (n + 1) (by rw [hs, List.append_assoc]) (by omega)
      rw [List.length_append] at this
      rw [this]
      simp only [ptsN]
      rw [if_neg (by omega)]
      congr 1
      omega
/-- A row of code points, each in its form, has so many. -/
theorem rn_pts (ps : List Int) : rn (strB (ptsB ps)) = some (ptsN ps) := by
  unfold rn
  have hs : strL (strB (ptsB ps)) = [] ++ ptsB ps := by rw [strL_strB _ (ptsB_byt ps), List.nil_append]
  have := rnF_pts (strB (ptsB ps)) ps [] (strB (ptsB ps)).size 0 hs (by rw [strB_size]; omega)
  simpa using this
end Go.Proofs.YtfldgjkpkmnkbabDoor
