import Derived.Test.YtkfmffikfpmgdabIA
import Derived.Test.YtkfmffikfpmgdabHG
import Derived.ArgAppend
namespace Go.Proofs.Ytkfmffikfpmgdab
open Go.RowKit
set_option linter.unusedVariables false

theorem rdn2 {W : World} {B cap : Nat} {n1 : Bool} {o1 : Option Addr} {l1 c1 : Nat} {e1 : Int} {n2 : Bool} {o2 : Option Addr} {l2 c2 : Nat} {e2 : Int} {s : Nat} {T z1 z2 : Int} (hcap : 2 ≤ cap) (hmax : cap ≤ maxLen) (h : ∀ j u, #[Value.bool n1, Value.slice o1 l1 c1, Value.int IntKind.i64 e1, Value.bool n2, Value.slice o2 l2 c2, Value.int IntKind.i64 e2][j]? = some u → W.cell? ⟨B, j, none⟩ = some u) (h1 : NumZ W (.agg #[.bool n1, .slice o1 l1 c1, .int .i64 e1]) s T z1) (h2 : NumZ W (.agg #[.bool n2, .slice o2 l2 c2, .int .i64 e2]) s T z2) :
    RdN W (some ⟨B, 0, none⟩) 2 cap s T (fun j => if j = 0 then z1 else z2) := by
  refine ⟨hcap, hmax, B, 0, rfl, fun j hj => ?_⟩
  rcases (show j = 0 ∨ j = 1 by omega) with rfl | rfl
  · exact ⟨n1, o1, l1, c1, e1, h 0 _ rfl, h 1 _ rfl, h 2 _ rfl, h1⟩
  · exact ⟨n2, o2, l2, c2, e2, h 3 _ rfl, h 4 _ rfl, h 5 _ rfl, h2⟩
theorem rdn3 {W : World} {B cap : Nat} {n1 : Bool} {o1 : Option Addr} {l1 c1 : Nat} {e1 : Int} {n2 : Bool} {o2 : Option Addr} {l2 c2 : Nat} {e2 : Int} {n3 : Bool} {o3 : Option Addr} {l3 c3 : Nat} {e3 : Int} {s : Nat} {T z1 z2 z3 : Int} (hcap : 3 ≤ cap) (hmax : cap ≤ maxLen) (h : ∀ j u, #[Value.bool n1, Value.slice o1 l1 c1, Value.int IntKind.i64 e1, Value.bool n2, Value.slice o2 l2 c2, Value.int IntKind.i64 e2, Value.bool n3, Value.slice o3 l3 c3, Value.int IntKind.i64 e3][j]? = some u → W.cell? ⟨B, j, none⟩ = some u) (h1 : NumZ W (.agg #[.bool n1, .slice o1 l1 c1, .int .i64 e1]) s T z1) (h2 : NumZ W (.agg #[.bool n2, .slice o2 l2 c2, .int .i64 e2]) s T z2) (h3 : NumZ W (.agg #[.bool n3, .slice o3 l3 c3, .int .i64 e3]) s T z3) :
    RdN W (some ⟨B, 0, none⟩) 3 cap s T (fun j => if j = 0 then z1 else if j = 1 then z2 else z3) := by
  refine ⟨hcap, hmax, B, 0, rfl, fun j hj => ?_⟩
  rcases (show j = 0 ∨ j = 1 ∨ j = 2 by omega) with rfl | rfl | rfl
  · exact ⟨n1, o1, l1, c1, e1, h 0 _ rfl, h 1 _ rfl, h 2 _ rfl, h1⟩
  · exact ⟨n2, o2, l2, c2, e2, h 3 _ rfl, h 4 _ rfl, h 5 _ rfl, h2⟩
  · exact ⟨n3, o3, l3, c3, e3, h 6 _ rfl, h 7 _ rfl, h 8 _ rfl, h3⟩
theorem rdn4 {W : World} {B cap : Nat} {n1 : Bool} {o1 : Option Addr} {l1 c1 : Nat} {e1 : Int} {n2 : Bool} {o2 : Option Addr} {l2 c2 : Nat} {e2 : Int} {n3 : Bool} {o3 : Option Addr} {l3 c3 : Nat} {e3 : Int} {n4 : Bool} {o4 : Option Addr} {l4 c4 : Nat} {e4 : Int} {s : Nat} {T z1 z2 z3 z4 : Int} (hcap : 4 ≤ cap) (hmax : cap ≤ maxLen) (h : ∀ j u, #[Value.bool n1, Value.slice o1 l1 c1, Value.int IntKind.i64 e1, Value.bool n2, Value.slice o2 l2 c2, Value.int IntKind.i64 e2, Value.bool n3, Value.slice o3 l3 c3, Value.int IntKind.i64 e3, Value.bool n4, Value.slice o4 l4 c4, Value.int IntKind.i64 e4][j]? = some u → W.cell? ⟨B, j, none⟩ = some u) (h1 : NumZ W (.agg #[.bool n1, .slice o1 l1 c1, .int .i64 e1]) s T z1) (h2 : NumZ W (.agg #[.bool n2, .slice o2 l2 c2, .int .i64 e2]) s T z2) (h3 : NumZ W (.agg #[.bool n3, .slice o3 l3 c3, .int .i64 e3]) s T z3) (h4 : NumZ W (.agg #[.bool n4, .slice o4 l4 c4, .int .i64 e4]) s T z4) :
    RdN W (some ⟨B, 0, none⟩) 4 cap s T (fun j => if j = 0 then z1 else if j = 1 then z2 else if j = 2 then z3 else z4) := by
  refine ⟨hcap, hmax, B, 0, rfl, fun j hj => ?_⟩
  rcases (show j = 0 ∨ j = 1 ∨ j = 2 ∨ j = 3 by omega) with rfl | rfl | rfl | rfl
  · exact ⟨n1, o1, l1, c1, e1, h 0 _ rfl, h 1 _ rfl, h 2 _ rfl, h1⟩
  · exact ⟨n2, o2, l2, c2, e2, h 3 _ rfl, h 4 _ rfl, h 5 _ rfl, h2⟩
  · exact ⟨n3, o3, l3, c3, e3, h 6 _ rfl, h 7 _ rfl, h 8 _ rfl, h3⟩
  · exact ⟨n4, o4, l4, c4, e4, h 9 _ rfl, h 10 _ rfl, h 11 _ rfl, h4⟩
theorem row_cells {W : World} {B : Nat} {C : Array Value} {t : TypeId} (h : W.heap[B]? = some (.cells C t)) : ∀ j u, C[j]? = some u → W.cell? ⟨B, j, none⟩ = some u := fun j u hu => by
  rw [cell_of_row _ _ j _ _ _ h]; exact hu
theorem Try.infoNum : (Try.prog.info? 27).map (fun i => (i.zero, i.size, i.bytes)) = some (some (.agg #[.bool false, .slice none 0 0, .int .i64 0]), 3, 40) := by kernel_rfl
theorem info_parts' {P : Program} {t : TypeId} {z : Value} {s b : Nat} (h : (P.info? t).map (fun i => (i.zero, i.size, i.bytes)) = some (some z, s, b)) : ∃ i, P.info? t = some i ∧ i.zero = some z ∧ i.size = s ∧ i.bytes = b := by
  cases hi : P.info? t with
  | none => rw [hi] at h; cases h
  | some i => rw [hi] at h; simp at h; exact ⟨i, rfl, h.1, h.2.1, h.2.2⟩
/-- append(s, Num{}) of a full row of two. -/
theorem appendN {ops : Array Oper} {rest : List Oper} {o : Oper} {a : Act} {Q : Exit → Act → World → Prop} (W : World) (hgd : o.guard = none) (s x : Operand)
    (ho : o.op = .call { callee := .builtin .append, args := #[s, x], argTypes := #[47, 47] })
    (n1 : Bool) (o1 : Option Addr) (l1 c1 : Nat) (e1 : Int) (n2 : Bool) (o2 : Option Addr) (l2 c2 : Nat) (e2 : Int) (B P : Nat) (hs : a.eval s = .slice (some ⟨B, 0, none⟩) 2 2) (hB : ∀ j u, #[Value.bool n1, Value.slice o1 l1 c1, Value.int IntKind.i64 e1, Value.bool n2, Value.slice o2 l2 c2, Value.int IntKind.i64 e2][j]? = some u → W.cell? ⟨B, j, none⟩ = some u)
    (hx : a.eval x = .slice (some ⟨P, 0, none⟩) 1 1) (hP : ∀ j u, #[Value.bool false, Value.slice none 0 0, Value.int IntKind.i64 0][j]? = some u → W.cell? ⟨P, j, none⟩ = some u)
    (h : ∀ g cap w', 3 ≤ cap → cap ≤ maxLen → (∀ j u, #[Value.bool n1, Value.slice o1 l1 c1, Value.int IntKind.i64 e1, Value.bool n2, Value.slice o2 l2 c2, Value.int IntKind.i64 e2, Value.bool false, Value.slice none 0 0, Value.int IntKind.i64 0][j]? = some u → w'.cell? ⟨g, j, none⟩ = some u) → Below W.heap.size W w' → wpList Try.prog ops Q rest (a.put o.dst (.slice (some ⟨g, 0, none⟩) 3 cap)) w') : wpList Try.prog ops Q (o :: rest) a W := by
  obtain ⟨i0, hi, hz0, hz1, hz2⟩ := info_parts' Try.infoNum
  refine wpList_append_grows W hgd s x 47 ho 27 i0 _ 3 40 Try.underlying47 hi hz0 hz1 hz2 rfl (by decide) (some ⟨B, 0, none⟩) 2 2 [Value.bool n1, Value.slice o1 l1 c1, Value.int IntKind.i64 e1, Value.bool n2, Value.slice o2 l2 c2, Value.int IntKind.i64 e2] hs (fun c => by cases c) rfl ?_ ⟨P, 0, none⟩ 1 1 [Value.bool false, Value.slice none 0 0, Value.int IntKind.i64 0] hx rfl ?_ ?_ (by decide) (by decide) (by decide) ?_
  · intro b hb j u hu
    cases hb
    rw [Addr.add_lit, Nat.zero_add]
    exact hB j u (by rw [← hu]; simp)
  · intro j u hu
    rw [Addr.add_lit, Nat.zero_add]
    exact hP j u (by rw [← hu]; simp)
  · intro u hu
    simp only [List.mem_cons, List.mem_nil_iff, or_false] at hu
    rcases hu with rfl | rfl | rfl <;> rfl
  · intro v' w' hown hgr
    have hb : Below W.heap.size W w' := ⟨hgr.os, hgr.tape, hgr.output, hgr.size, fun k hk => hgr.block k hk (by simp)⟩
    rcases hown.2 with ⟨_, h0⟩ | ⟨g, cap, cur, rfl, hg, hh, hc, hx', hs', ht⟩
    · cases h0
    · refine h g cap w' hc hx' (fun j u hu => ?_) hb
      have hj : j < 9 := by
        have := (Array.getElem?_eq_some_iff.1 hu).1
        simpa using this
      rw [cell_of_row _ g j _ _ _ hh, ← Array.getElem?_toList]
      have e : (cur.toList.take (3 * 3))[j]? = some u := by rw [ht, ← hu]; simp
      rw [List.getElem?_take, if_pos (by omega)] at e
      exact e
theorem bin_tight {X Y : Int} {D : Nat} (hD : 0 < D) {al ah bl bh : Nat} {ab bb : Bool} (hg : Good al ah ab ∧ Good bl bh bb) {r : Nat × Nat × Bool} (h : BinR (SpR X Y D) al ah bl bh ab bb r) (hb : r.2.2 = false) : TightE r X Y D := by
  unfold BinR at h; rw [if_pos hg] at h; exact sp_tight hD h hb
theorem mk_tight {X Y : Int} {al ah bl bh : Nat} {ab bb : Bool} (hg : Good al ah ab ∧ Good bl bh bb) {r : Nat × Nat × Bool} (h : BinR (MkR X Y) al ah bl bh ab bb r) (hb : r.2.2 = false) : TightE r X Y 1 := by
  unfold BinR MkR at h; rw [if_pos hg] at h
  split at h
  · exact sp_tight (by decide) h hb
  · rw [h] at hb; cases hb
theorem mul_tight {al ah bl bh E : Nat} {ab bb : Bool} (hg : Good al ah ab ∧ Good bl bh bb) {r : Nat × Nat × Bool} (h : MulR al ah bl bh ab bb E r) (hb : r.2.2 = false) : TightE r (min4 (fval al * fval bl) (fval al * fval bh) (fval ah * fval bl) (fval ah * fval bh)) (max4 (fval al * fval bl) (fval al * fval bh) (fval ah * fval bl) (fval ah * fval bh)) (2 ^ E) := by
  unfold MulR at h; rw [if_pos hg] at h; exact sp_tight (Nat.two_pow_pos _) h hb
theorem sq_tight {al ah E : Nat} {ab : Bool} (hg : Good al ah ab) {r : Nat × Nat × Bool} (h : UnR (SpR (sqLo al ah * sqLo al ah) (sqHi al ah * sqHi al ah) (2 ^ E)) al ah ab r) (hb : r.2.2 = false) : TightE r (sqLo al ah * sqLo al ah) (sqHi al ah * sqHi al ah) (2 ^ E) := by
  unfold UnR at h; rw [if_pos hg] at h; exact sp_tight (Nat.two_pow_pos _) h hb
theorem tl_add {p q r s : Int} {R : Nat × Nat × Bool} (h : TightE R (p + r) (q + s) 1) : TightL R (fun j => if j = 0 then p + r else q + s) 2 0 :=
  h.list (by decide) ⟨0, by decide, by simp⟩ ⟨1, by decide, by simp⟩
theorem tl_sub {p q r s : Int} {R : Nat × Nat × Bool} (h : TightE R (p - s) (q - r) 1) : TightL R (fun j => if j = 0 then p - s else q - r) 2 0 :=
  h.list (by decide) ⟨0, by decide, by simp⟩ ⟨1, by decide, by simp⟩
theorem tl_max {p q r s : Int} {R : Nat × Nat × Bool} (h : TightE R (max p r) (max q s) 1) : TightL R (fun j => if j = 0 then max p r else max q s) 2 0 :=
  h.list (by decide) ⟨0, by decide, by simp⟩ ⟨1, by decide, by simp⟩
theorem tl_hull {p q r s : Int} {R : Nat × Nat × Bool} (h : TightE R (min p r) (max q s) 1) : TightL R (fun j => if j = 0 then p else if j = 1 then q else if j = 2 then r else s) 4 0 := by
  refine h.list (by decide) ?_ ?_
  · rcases Int.le_total p r with c | c
    · exact ⟨0, by decide, by rw [Int.min_eq_left c]; simp⟩
    · exact ⟨2, by decide, by rw [Int.min_eq_right c]; simp⟩
  · rcases Int.le_total q s with c | c
    · exact ⟨3, by decide, by rw [Int.max_eq_right c]; simp⟩
    · exact ⟨1, by decide, by rw [Int.max_eq_left c]; simp⟩
theorem min4_mem (a b c d : Int) : min4 a b c d = a ∨ min4 a b c d = b ∨ min4 a b c d = c ∨ min4 a b c d = d := by unfold min4; omega
theorem max4_mem (a b c d : Int) : max4 a b c d = a ∨ max4 a b c d = b ∨ max4 a b c d = c ∨ max4 a b c d = d := by unfold max4; omega
theorem tl_mul {a b c d : Int} {E : Nat} {R : Nat × Nat × Bool} (h : TightE R (min4 a b c d) (max4 a b c d) (2 ^ E)) : TightL R (fun j => if j = 0 then a else if j = 1 then b else if j = 2 then c else d) 4 E := by
  refine h.list (Nat.two_pow_pos _) ?_ ?_
  · rcases min4_mem a b c d with k | k | k | k <;> rw [k]
    · exact ⟨0, by decide, rfl⟩
    · exact ⟨1, by decide, rfl⟩
    · exact ⟨2, by decide, rfl⟩
    · exact ⟨3, by decide, rfl⟩
  · rcases max4_mem a b c d with k | k | k | k <;> rw [k]
    · exact ⟨0, by decide, rfl⟩
    · exact ⟨1, by decide, rfl⟩
    · exact ⟨2, by decide, rfl⟩
    · exact ⟨3, by decide, rfl⟩
theorem sq_hi_mem {p q : Int} : max (-p) q * max (-p) q = p * p ∨ max (-p) q * max (-p) q = q * q := by
  rcases Int.le_total (-p) q with c | c
  · right; rw [Int.max_eq_right c]
  · left; rw [Int.max_eq_left c]; exact Int.neg_mul_neg _ _
theorem tl_sq3 {al ah E : Nat} {R : Nat × Nat × Bool} (hle : fval al ≤ fval ah) (hs : fval al ≤ 0 ∧ 0 ≤ fval ah) (h : TightE R (sqLo al ah * sqLo al ah) (sqHi al ah * sqHi al ah) (2 ^ E)) : TightL R (fun j => if j = 0 then fval al * fval al else if j = 1 then fval ah * fval ah else 0) 3 E := by
  unfold sqLo sqHi at h
  rw [sq_least hle, if_pos hs] at h
  refine h.list (Nat.two_pow_pos _) ⟨2, by decide, rfl⟩ ?_
  rcases sq_hi_mem (p := fval al) (q := fval ah) with k | k <;> rw [k]
  · exact ⟨0, by decide, rfl⟩
  · exact ⟨1, by decide, rfl⟩
theorem tl_sq2 {al ah E : Nat} {R : Nat × Nat × Bool} (hle : fval al ≤ fval ah) (hs : ¬ (fval al ≤ 0 ∧ 0 ≤ fval ah)) (h : TightE R (sqLo al ah * sqLo al ah) (sqHi al ah * sqHi al ah) (2 ^ E)) : TightL R (fun j => if j = 0 then fval al * fval al else fval ah * fval ah) 2 E := by
  unfold sqLo sqHi at h
  rw [sq_least hle, if_neg hs] at h
  refine h.list (Nat.two_pow_pos _) ?_ ?_
  · rcases Int.le_total (fval al * fval al) (fval ah * fval ah) with c | c
    · exact ⟨0, by decide, by rw [Int.min_eq_left c]; rfl⟩
    · exact ⟨1, by decide, by rw [Int.min_eq_right c]; rfl⟩
  · rcases sq_hi_mem (p := fval al) (q := fval ah) with k | k <;> rw [k]
    · exact ⟨0, by decide, rfl⟩
    · exact ⟨1, by decide, rfl⟩
end Go.Proofs.Ytkfmffikfpmgdab
