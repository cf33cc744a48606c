import Derived.Test.YtmdjoaipkbnelaaGreatPPb1
set_option maxRecDepth 100000
set_option maxHeartbeats 4000000
set_option linter.unusedVariables false
set_option linter.unusedSimpArgs false
namespace Go.Proofs.YtmdjoaipkbnelaaGreat
open Go.RowKit
theorem call_bits (u:Nat) (w:World):(callFunc 57 #[.float .f64 u]).run Tryz.prog w = .ok (.value (.int .u64 u)) w:=by kernel_rfl
theorem call_from (n:Int) (w:World):(callFunc 84 #[.int .u64 n]).run Tryz.prog w = .ok (.value (.float .f64 n.toNat)) w:=by kernel_rfl
theorem bits_any (u:Nat) (w:World):Calls Tryz.prog 31 #[.float .f64 u] w fun e w'=>e = .returned (.int .u64 u) /\ w' = w:=by
 have hcb:=call_bits
 go_enter Tryz.func31,Tryz.ntmps31
 go_wp2
 go_ret
 exact ⟨rfl,rfl⟩
theorem abs_any (u:Nat) (hu:u < 18446744073709551616) (w:World):Calls Tryz.prog 51 #[.float .f64 u] w fun e w'=>e = .returned (.float .f64 (frung u)) /\ w' = w:=by
 have hcb:=call_bits
 have hcf:=call_from
 have HE:Hid _:=u64_andNot_nat u 9223372036854775808 hu (by decide)
 go_enter Tryz.func51,Tryz.ntmps51
 go_wp2
 go_ret
 refine ⟨?_,rfl⟩
 have h:=HE.out
 rw [show ((9223372036854775808:Nat):Int) = 9223372036854775808 from rfl] at h
 rw [h,Int.toNat_natCast,show 18446744073709551615 - 9223372036854775808 = 2 ^ 63 - 1 by decide,Nat.and_two_pow_sub_one_eq_mod]
 rfl
theorem ord_le {x y:Nat}:(Ieee.double.order x y == some .lt || Ieee.double.order x y == some .eq) = decide (frung x <= infK /\ frung y <= infK /\ srung x <= srung y):=by
 by_cases hx:frung x <= infK
 ·by_cases hy:frung y <= infK
  ·rw [order_rung hx hy,icmp]
   by_cases h1:srung x < srung y
   ·have:srung x <= srung y:=by omega
    simp [h1,hx,hy,this]
   ·by_cases h2:srung x = srung y
    ·simp [h2,hx,hy]
    ·have:¬ srung x <= srung y:=by omega
     simp [h1,h2,this]
  ·rw [order_nan (.inr (by omega))];simp [hy]
 ·rw [order_nan (.inl (by omega))];simp [hx]
theorem f64_fmt:FloatKind.f64.format = Ieee.double:=rfl
structure RdF (w:World) (ao:Option Addr) (len cap:Nat) (us:List Nat):Prop where
 length:us.length = len
 max:len <= maxLen
 lt:∀ u ∈ us,u < 18446744073709551616
 cells:len = 0 \/ ∃ b off,ao = some ⟨b,off,none⟩ /\ ∀ j,j < len -> w.cell? ⟨b,off + j,none⟩ = some (.float .f64 (us[j]?.getD 0))
theorem RdF.later {w w':World} {ao:Option Addr} {len cap:Nat} {us:List Nat} (h:RdF w ao len cap us) (hb:Below w.heap.size w w'):RdF w' ao len cap us:=by
 refine ⟨h.length,h.max,h.lt,?_⟩
 rcases h.cells with h0 | ⟨b,off,ha,hc⟩
 ·exact .inl h0
 ·refine .inr ⟨b,off,ha,fun j hj=>?_⟩
  have hlt:=World.block_lt_of_cell? w _ (hc j hj)
  rw [hb.cell (p:=⟨b,off + j,none⟩) hlt]
  exact hc j hj
theorem getD_mem {us:List Nat} {j:Nat} (h:j < us.length):us[j]?.getD 0 ∈ us:=by
 rw [List.getElem?_eq_getElem h];exact List.getElem_mem h
def numsB (us:List Nat):Bool:=us.all fun u=>decide (Fin u)
theorem numsB_drop (us:List Nat) {k:Nat} (h:k < us.length):numsB (us.drop k) = (decide (Fin (us[k]?.getD 0)) && numsB (us.drop (k + 1))):=by
 unfold numsB
 rw [List.drop_eq_getElem_cons h,List.all_cons,List.getElem?_eq_getElem h]
 rfl
theorem maxLen_le:maxLen <= 9223372036854775807:=by decide
theorem float_int (n:Int) (w:World):Calls Tryz.prog 103 #[.int .u64 n] w fun e w'=>e = .returned (.float .f64 n.toNat) /\ w' = w:=by
 have hcf:=call_from
 go_enter Tryz.func103,Tryz.ntmps103
 go_wp2
 go_ret
 exact ⟨rfl,rfl⟩
theorem ord_lt {x y:Nat} (hx:frung x <= infK) (hy:frung y <= infK):(Ieee.double.order x y == some .lt) = decide (srung x < srung y):=by
 rw [order_rung hx hy,icmp]
 by_cases h1:srung x < srung y
 ·simp [h1]
 ·by_cases h2:srung x = srung y <;> simp [h1,h2]
theorem ord_gt {x y:Nat} (hx:frung x <= infK) (hy:frung y <= infK):(Ieee.double.order x y == some .gt) = decide (srung y < srung x):=by
 rw [order_rung hx hy,icmp]
 by_cases h1:srung x < srung y
 ·have:¬ srung y < srung x:=by omega
  simp [h1,this]
 ·by_cases h2:srung x = srung y
  ·simp [h2]
  ·have:srung y < srung x:=by omega
   simp [h1,h2,this]
theorem ord_eq {x y:Nat} (hx:frung x <= infK) (hy:frung y <= infK):(Ieee.double.order x y == some .eq) = decide (srung x = srung y):=by
 rw [order_rung hx hy,icmp]
 by_cases h1:srung x < srung y
 ·have:¬ srung x = srung y:=by omega
  simp [h1,this]
 ·by_cases h2:srung x = srung y <;> simp [h1,h2]
theorem number_any (u:Nat) (hu:u < 18446744073709551616) (w:World):Calls Tryz.prog 63 #[.float .f64 u] w fun e w'=>e = .returned (.bool (decide (Fin u))) /\ w' = w:=by
 have hE:(FloatKind.f64.format.order (frung u) 9218868437227405311 == some .lt || FloatKind.f64.format.order (frung u) 9218868437227405311 == some .eq) = decide (Fin u):=by
  rw [f64_fmt,ord_le]
  have h1:frung (frung u) = frung u:=by unfold frung;omega
  have h2:srung (frung u) = frung u:=by
   unfold srung fneg;rw [h1]
   have:frung u / 9223372036854775808 = 0:=by unfold frung;omega
   rw [this];rfl
  have h3:srung 9218868437227405311 = 9218868437227405311:=by decide
  have h4:frung 9218868437227405311 = 9218868437227405311:=by decide
  rw [h1,h2,h3,h4]
  unfold Fin infK
  congr 1
  apply propext
  omega
 have HE:Hid _:=hE
 clear hE
 go_enter Tryz.func63,Tryz.ntmps63
 go_wp2_with (go_at_call 51;refine (abs_any u hu _).mono ?_;rintro e w' ⟨rfl,rfl⟩)
 go_ret
 exact ⟨by rw [<- HE.out];rfl,rfl⟩
theorem plain_any (u:Nat) (hu:u < 18446744073709551616) (hn:frung u <= infK) (w:World):Calls Tryz.prog 92 #[.float .f64 u] w fun e w'=>e = .returned (.float .f64 (plainM u)) /\ w' = w:=by
 have hE:(FloatKind.f64.format.order u 0 == some .eq) = decide (srung u = 0):=ord_eq hn (by decide)
 unfold plainM
 go_enter Tryz.func92,Tryz.ntmps92
 by_cases h:srung u = 0
 ·rw [h] at hE;simp only [decide_true] at hE
  go_wp2
  go_ret
  exact ⟨rfl,rfl⟩
 ·simp only [h,decide_false] at hE
  go_wp2
  go_ret
  exact ⟨rfl,rfl⟩
theorem srung_bits {u:Nat} (hu:u < 18446744073709551616) (h:srung u < 0):9223372036854775808 < u:=by
 unfold srung fneg frung at h
 by_cases h1:u / 9223372036854775808 % 2 = 1
 ·rw [h1] at h;simp only [beq_self_eq_true,if_true] at h;omega
 ·have:(u / 9223372036854775808 % 2 == 1) = false:=by simp [h1]
  rw [this] at h;simp only [Bool.false_eq_true,if_false] at h;omega
theorem srung_bits' {u:Nat} (hu:u < 18446744073709551616) (h:0 < srung u):u < 9223372036854775808:=by
 unfold srung fneg frung at h
 by_cases h1:u / 9223372036854775808 % 2 = 1
 ·rw [h1] at h;simp only [beq_self_eq_true,if_true] at h;omega
 ·omega
theorem above_any (u:Nat) (hu:u < 18446744073709551616) (hn:frung u <= infK) (w:World):Calls Tryz.prog 91 #[.float .f64 u] w fun e w'=>e = .returned (.float .f64 (aboveM u)) /\ w' = w:=by
 have hE:(FloatKind.f64.format.order u 0 == some .eq) = decide (srung u = 0):=ord_eq hn (by decide)
 have hG:(FloatKind.f64.format.order u 0 == some .gt) = decide (0 < srung u):=ord_gt hn (by decide)
 unfold aboveM
 by_cases h:srung u = 0
 ·simp only [h,decide_true] at hE
  rw [if_pos h]
  clear hG
  go_enter Tryz.func91,Tryz.ntmps91
  go_wp2_with (go_at_call 103;refine (float_int _ _).mono ?_;rintro e w' ⟨rfl,rfl⟩)
  go_ret
  exact ⟨rfl,rfl⟩
 ·simp only [h,decide_false] at hE
  rw [if_neg h]
  by_cases h2:0 < srung u
  ·simp only [h2,decide_true] at hG
   rw [if_pos h2]
   have hb:=srung_bits' hu h2
   clear h h2
   go_enter Tryz.func91,Tryz.ntmps91
   go_wp2_with (first | (go_at_call 31;refine (bits_any u _).mono ?_;rintro e w' ⟨rfl,rfl⟩) | (go_at_call 103;refine (float_int _ _).mono ?_;rintro e w' ⟨rfl,rfl⟩))
   go_ret
   exact ⟨by congr 2,rfl⟩
  ·simp only [h2,decide_false] at hG
   rw [if_neg h2]
   have hb:=srung_bits hu (by omega)
   clear h h2
   go_enter Tryz.func91,Tryz.ntmps91
   go_wp2_with (first | (go_at_call 31;refine (bits_any u _).mono ?_;rintro e w' ⟨rfl,rfl⟩) | (go_at_call 103;refine (float_int _ _).mono ?_;rintro e w' ⟨rfl,rfl⟩))
   go_ret
   exact ⟨by congr 2,rfl⟩
theorem run_mul {x y r:Nat} (h:Ieee.double.mul x y = some r):∀ t w,(binOp .mul t (.float .f64 x) (.float .f64 y)).run Tryz.prog w = .ok (.float .f64 r) w:=fun t w=>run_float_arith w .mul t .f64 x y r h
theorem run_add {x y r:Nat} (h:Ieee.double.add x y = some r):∀ t w,(binOp .add t (.float .f64 x) (.float .f64 y)).run Tryz.prog w = .ok (.float .f64 r) w:=fun t w=>run_float_arith w .add t .f64 x y r h
theorem run_sub {x y r:Nat} (h:Ieee.double.sub x y = some r):∀ t w,(binOp .sub t (.float .f64 x) (.float .f64 y)).run Tryz.prog w = .ok (.float .f64 r) w:=fun t w=>run_float_arith w .sub t .f64 x y r h
theorem told_core {near rest:Nat} (d:Int) (hlt:near < 18446744073709551616) (hnear:frung near <= infK) (hnum:frung rest <= infK) (hup:0 < srung rest -> ¬ (fneg near = false /\ frung near = infK)) (hdown:srung rest < 0 -> ¬ (fneg (fopp near) = false /\ frung (fopp near) = infK)) (hr:rest < 18446744073709551616) (w:World) :
  Calls Tryz.prog 64 #[.int .i64 d,.float .f64 near,.float .f64 rest] w fun e w'=>e = .returned (.tuple #[.float .f64 (toldM d near rest).1,.bool (toldM d near rest).2]) /\ w' = w:=by
 have hfp:=fopp_parts hr
 have hfn:=fopp_parts hlt
 unfold toldM
 by_cases h2:d = 2
 ·subst h2
  have hm1:=run_mul (mul_neg_l hr hnum)
  have hgt:(FloatKind.f64.format.order (fopp rest) 0 == some .gt) = decide (srung rest < 0):=by
   rw [f64_fmt,ord_gt (by rw [hfp.1];exact hnum) (by decide),fopp_srung hr]
   congr 1;apply propext
   have:srung 0 = 0:=rfl
   omega
  by_cases ht:srung rest < 0
  ·simp only [ht,decide_true] at hgt
   have hm2:=run_mul (mul_neg_l hlt hnear)
   have hok:=hdown ht
   have ha:=above_lt hfn.2.2 (by rw [hfn.1];exact hnear) hok
   have hm3:=run_mul (mul_neg_l ha.1 ha.2)
   have hM:movedM 2 near rest = fopp (aboveM (fopp near)):=by unfold movedM;rw [if_pos rfl,if_pos ht]
   have hm:=fopp_parts ha.1
   rw [hM]
   have hmn:frung (fopp (aboveM (fopp near))) <= infK:=by rw [hm.1];exact ha.2
   by_cases hf:Fin (fopp (aboveM (fopp near)))
   ·rw [if_pos ⟨by simp,hf⟩]
    go_enter Tryz.func64,Tryz.ntmps64
    go_wp2_with (first
     | (go_at_call 91;refine (above_any _ hfn.2.2 (by rw [hfn.1];exact hnear) _).mono ?_;rintro e w' ⟨rfl,rfl⟩)
     | (go_at_call 63;refine (number_any _ hm.2.2 _).mono ?_;rintro e w' ⟨rfl,rfl⟩;simp only [hf,decide_true])
     | (go_at_call 92;refine (plain_any _ hm.2.2 hmn _).mono ?_;rintro e w' ⟨rfl,rfl⟩))
    go_ret2
    exact ⟨rfl,rfl⟩
   ·rw [if_neg (fun c=>hf c.2)]
    go_enter Tryz.func64,Tryz.ntmps64
    go_wp2_with (first
     | (go_at_call 91;refine (above_any _ hfn.2.2 (by rw [hfn.1];exact hnear) _).mono ?_;rintro e w' ⟨rfl,rfl⟩)
     | (go_at_call 63;refine (number_any _ hm.2.2 _).mono ?_;rintro e w' ⟨rfl,rfl⟩;simp only [hf,decide_false])
     | (go_at_call 92;refine (plain_any _ hm.2.2 hmn _).mono ?_;rintro e w' ⟨rfl,rfl⟩))
    go_ret2
    exact ⟨rfl,rfl⟩
  ·simp only [ht,decide_false] at hgt
   have hM:movedM 2 near rest = near:=by unfold movedM;rw [if_pos rfl,if_neg ht]
   rw [hM]
   by_cases hf:Fin near
   ·rw [if_pos ⟨by simp,hf⟩]
    go_enter Tryz.func64,Tryz.ntmps64
    go_wp2_with (first
     | (go_at_call 63;refine (number_any _ hlt _).mono ?_;rintro e w' ⟨rfl,rfl⟩;simp only [hf,decide_true])
     | (go_at_call 92;refine (plain_any _ hlt hnear _).mono ?_;rintro e w' ⟨rfl,rfl⟩))
    go_ret2
    exact ⟨rfl,rfl⟩
   ·rw [if_neg (fun c=>hf c.2)]
    go_enter Tryz.func64,Tryz.ntmps64
    go_wp2_with (first
     | (go_at_call 63;refine (number_any _ hlt _).mono ?_;rintro e w' ⟨rfl,rfl⟩;simp only [hf,decide_false])
     | (go_at_call 92;refine (plain_any _ hlt hnear _).mono ?_;rintro e w' ⟨rfl,rfl⟩))
    go_ret2
    exact ⟨rfl,rfl⟩
 by_cases h1:d = 1
 ·subst h1
  have hm1:=run_mul (mul_one_l hr hnum)
  have hgt:(FloatKind.f64.format.order rest 0 == some .gt) = decide (0 < srung rest):=ord_gt hnum (by decide)
  by_cases ht:0 < srung rest
  ·simp only [ht,decide_true] at hgt
   have hm2:=run_mul (mul_one_l hlt hnear)
   have hok:=hup ht
   have ha:=above_lt hlt hnear hok
   have hm3:=run_mul (mul_one_l ha.1 ha.2)
   have hM:movedM 1 near rest = aboveM near:=by unfold movedM;rw [if_neg (by decide),if_pos rfl,if_pos ht]
   rw [hM]
   by_cases hf:Fin (aboveM near)
   ·rw [if_pos ⟨by simp,hf⟩]
    go_enter Tryz.func64,Tryz.ntmps64
    go_wp2_with (first
     | (go_at_call 91;refine (above_any _ hlt hnear _).mono ?_;rintro e w' ⟨rfl,rfl⟩)
     | (go_at_call 63;refine (number_any _ ha.1 _).mono ?_;rintro e w' ⟨rfl,rfl⟩;simp only [hf,decide_true])
     | (go_at_call 92;refine (plain_any _ ha.1 ha.2 _).mono ?_;rintro e w' ⟨rfl,rfl⟩))
    go_ret2
    exact ⟨rfl,rfl⟩
   ·rw [if_neg (fun c=>hf c.2)]
    go_enter Tryz.func64,Tryz.ntmps64
    go_wp2_with (first
     | (go_at_call 91;refine (above_any _ hlt hnear _).mono ?_;rintro e w' ⟨rfl,rfl⟩)
     | (go_at_call 63;refine (number_any _ ha.1 _).mono ?_;rintro e w' ⟨rfl,rfl⟩;simp only [hf,decide_false])
     | (go_at_call 92;refine (plain_any _ ha.1 ha.2 _).mono ?_;rintro e w' ⟨rfl,rfl⟩))
    go_ret2
    exact ⟨rfl,rfl⟩
  ·simp only [ht,decide_false] at hgt
   have hM:movedM 1 near rest = near:=by unfold movedM;rw [if_neg (by decide),if_pos rfl,if_neg ht]
   rw [hM]
   by_cases hf:Fin near
   ·rw [if_pos ⟨by simp,hf⟩]
    go_enter Tryz.func64,Tryz.ntmps64
    go_wp2_with (first
     | (go_at_call 63;refine (number_any _ hlt _).mono ?_;rintro e w' ⟨rfl,rfl⟩;simp only [hf,decide_true])
     | (go_at_call 92;refine (plain_any _ hlt hnear _).mono ?_;rintro e w' ⟨rfl,rfl⟩))
    go_ret2
    exact ⟨rfl,rfl⟩
   ·rw [if_neg (fun c=>hf c.2)]
    go_enter Tryz.func64,Tryz.ntmps64
    go_wp2_with (first
     | (go_at_call 63;refine (number_any _ hlt _).mono ?_;rintro e w' ⟨rfl,rfl⟩;simp only [hf,decide_false])
     | (go_at_call 92;refine (plain_any _ hlt hnear _).mono ?_;rintro e w' ⟨rfl,rfl⟩))
    go_ret2
    exact ⟨rfl,rfl⟩
 have hM:movedM d near rest = near:=by unfold movedM;rw [if_neg h2,if_neg h1]
 rw [hM]
 by_cases h0:d = 0
 ·subst h0
  by_cases hf:Fin near
  ·rw [if_pos ⟨by simp,hf⟩]
   go_enter Tryz.func64,Tryz.ntmps64
   go_wp2_with (first
    | (go_at_call 63;refine (number_any _ hlt _).mono ?_;rintro e w' ⟨rfl,rfl⟩;simp only [hf,decide_true])
    | (go_at_call 92;refine (plain_any _ hlt hnear _).mono ?_;rintro e w' ⟨rfl,rfl⟩))
   go_ret2
   exact ⟨rfl,rfl⟩
  ·rw [if_neg (fun c=>hf c.2)]
   go_enter Tryz.func64,Tryz.ntmps64
   go_wp2_with (first
    | (go_at_call 63;refine (number_any _ hlt _).mono ?_;rintro e w' ⟨rfl,rfl⟩;simp only [hf,decide_false])
    | (go_at_call 92;refine (plain_any _ hlt hnear _).mono ?_;rintro e w' ⟨rfl,rfl⟩))
   go_ret2
   exact ⟨rfl,rfl⟩
 ·rw [if_neg (fun c=>by omega)]
  go_enter Tryz.func64,Tryz.ntmps64
  go_wp2
  go_ret2
  exact ⟨rfl,rfl⟩
theorem told_any {neg:Bool} {n D near rest:Nat} (d:Int) (hR:Rn neg n D near) (hs:Sides neg n D near rest) (hr:rest < 18446744073709551616) (w:World) :
  Calls Tryz.prog 64 #[.int .i64 d,.float .f64 near,.float .f64 rest] w fun e w'=>e = .returned (.tuple #[.float .f64 (toldM d near rest).1,.bool (toldM d near rest).2]) /\ w' = w:=by
 obtain ⟨_,-,hr1,-,hlt⟩:=hR.rung
 have hnear:frung near <= infK:=by rw [hr1];exact Nat.min_le_right ..
 exact told_core d hlt hnear hs.num (Sides.up_ok hR hs) (Sides.down_ok hR hs) hr w
theorem sumRest_any {a b s x y t r:Nat} (ha:a < 18446744073709551616) (hb:b < 18446744073709551616) (hx:(x,y) = if frung a < frung b then (b,a) else (a,b)) (h1:Ieee.double.sub s x = some t) (h2:Ieee.double.sub y t = some r)
  (hfa:Fin a) (hfb:Fin b) (w:World) :
  Calls Tryz.prog 94 #[.float .f64 a,.float .f64 b,.float .f64 s] w fun e w'=>e = .returned (.float .f64 r) /\ w' = w:=by
 have r1:=run_sub h1
 have r2:=run_sub h2
 have hsm:∀ u:Nat,frung (frung u) = frung u /\ srung (frung u) = frung u:=by
  intro u
  have h1:frung (frung u) = frung u:=by unfold frung;omega
  refine ⟨h1,?_⟩
  unfold srung fneg;rw [h1]
  have:frung u / 9223372036854775808 = 0:=by unfold frung;omega
  rw [this];rfl
 have hle:(FloatKind.f64.format.order (frung a) (frung b) == some .lt) = decide (frung a < frung b):=by
  unfold Fin at hfa hfb
  rw [f64_fmt,ord_lt (by rw [(hsm a).1];omega) (by rw [(hsm b).1];omega),(hsm a).2,(hsm b).2]
  congr 1;apply propext;omega
 clear hsm
 by_cases h:frung a < frung b
 ·rw [if_pos h] at hx
  simp only [Prod.mk.injEq] at hx
  obtain ⟨rfl,rfl⟩:=hx
  simp only [h,decide_true] at hle
  clear h
  go_enter Tryz.func94,Tryz.ntmps94
  go_wp2_with (first
   | (go_at_call_of 51 (Value.float FloatKind.f64 y);refine (abs_any y ha _).mono ?_;rintro e w' ⟨rfl,rfl⟩)
   | (go_at_call_of 51 (Value.float FloatKind.f64 x);refine (abs_any x hb _).mono ?_;rintro e w' ⟨rfl,rfl⟩))
  all_goals (go_ret;exact ⟨rfl,rfl⟩)
 ·rw [if_neg h] at hx
  simp only [Prod.mk.injEq] at hx
  obtain ⟨rfl,rfl⟩:=hx
  simp only [h,decide_false] at hle
  clear h
  go_enter Tryz.func94,Tryz.ntmps94
  go_wp2_with (first
   | (go_at_call_of 51 (Value.float FloatKind.f64 x);refine (abs_any x ha _).mono ?_;rintro e w' ⟨rfl,rfl⟩)
   | (go_at_call_of 51 (Value.float FloatKind.f64 y);refine (abs_any y hb _).mono ?_;rintro e w' ⟨rfl,rfl⟩))
  all_goals (go_ret;exact ⟨rfl,rfl⟩)
theorem sum_all {a b:Nat} (hfa:Fin a) (hfb:Fin b):∃ s x y t r g,Ieee.double.add a b = some s /\ (x,y) = (if frung a < frung b then (b,a) else (a,b)) /\ Ieee.double.sub s x = some t /\ Ieee.double.sub y t = some r ∧
  Rn g (fval a + fval b).natAbs 1 s /\ (fval a + fval b ≠ 0 -> g = decide (fval a + fval b < 0)) /\ Sides g (fval a + fval b).natAbs 1 s r /\ r < 18446744073709551616 /\ (Fin s -> Fin r /\ fval r = fval a + fval b - fval s):=by
 obtain ⟨s,hs,g,hg,hsg⟩:=add_fin hfa hfb
 obtain ⟨R,hR,hf1,hf2,hslt⟩:=hg.rung
 have key:∀ x y,Fin x -> Fin y -> frung y <= frung x -> fval x + fval y = fval a + fval b -> Ieee.double.add x y = some s -> ∃ t r,Ieee.double.sub s x = some t /\ Ieee.double.sub y t = some r /\ Sides g (fval a + fval b).natAbs 1 s r /\ (Fin s -> Fin r /\ fval r = fval a + fval b - fval s):=by
  intro x y hx hy hle hsum hadd
  by_cases hf:Fin s
  ·obtain ⟨t,r,h1,h2,h3,h4⟩:=sum_rest hx hy hle hadd hf
   rw [hsum] at h4
   exact ⟨t,r,h1,h2,sum_sides hg hsg (.inl ⟨hf,h3,h4⟩),fun _=>⟨h3,h4⟩⟩
  ·have hi:frung s = infK:=by unfold Fin at hf;have:=Nat.min_le_right (nearK (fval a + fval b).natAbs 1 R) infK;omega
   obtain ⟨t,r,h1,h2,h3,h4⟩:=sum_rest_inf hx hy hi
   exact ⟨t,r,h1,h2,sum_sides hg hsg (.inr ⟨hi,h3,h4⟩),fun h=>absurd h hf⟩
 by_cases h:frung a < frung b
 ·have hcomm:Ieee.double.add b a = some s:=by
   obtain ⟨s',hs',g',hg',hsg'⟩:=add_fin hfb hfa
   have e:fval b + fval a = fval a + fval b:=Int.add_comm ..
   rw [e] at hg' hsg'
   by_cases h0:fval a + fval b = 0
   ·exfalso
    have h1:=fval_abs a
    have h2:=fval_abs b
    have h3:=rmag_lt h
    omega
   ·have hgg:g' = g:=by rw [hsg h0,hsg' h0]
    subst hgg
    rw [hs',hg'.uniq hg]
  obtain ⟨t,r,h1,h2,h3,h4⟩:=key b a hfb hfa (by omega) (Int.add_comm ..) hcomm
  exact ⟨s,b,a,t,r,g,hs,by rw [if_pos h],h1,h2,hg,hsg,h3,Ieee.Format.sub_lt _ h2,h4⟩
 ·obtain ⟨t,r,h1,h2,h3,h4⟩:=key a b hfa hfb (by omega) rfl hs
  exact ⟨s,a,b,t,r,g,hs,by rw [if_neg h],h1,h2,hg,hsg,h3,Ieee.Format.sub_lt _ h2,h4⟩
theorem add_any (d:Int) (a b:Nat) (ha:a < 18446744073709551616) (hb:b < 18446744073709551616):∃ p,(Fin a -> Fin b -> RndZ d (fval a + fval b) 1 p) /\ (¬ (Fin a /\ Fin b) -> p = (0,false)) ∧
  ∀ w,Calls Tryz.prog 93 #[.int .i64 d,.float .f64 a,.float .f64 b] w fun e w'=>e = .returned (.tuple #[.float .f64 p.1,.bool p.2]) /\ w' = w:=by
 by_cases hf:Fin a /\ Fin b
 ·obtain ⟨hfa,hfb⟩:=hf
  obtain ⟨s,x,y,t,r,g,hs,hxy,h1,h2,hg,hsg,hS,hr,_⟩:=sum_all hfa hfb
  refine ⟨toldM d s r,fun _ _=>(told_rnd d hg hS).toZ hsg,fun h=>absurd ⟨hfa,hfb⟩ h,fun w=>?_⟩
  have ra:=run_add hs
  have H1:Hid _:=h1
  have H2:Hid _:=h2
  have HS:Hid _:=hS
  have HG:Hid _:=hg
  have HX:Hid _:=hxy
  have hda:decide (Fin a) = true:=decide_eq_true hfa
  have hdb:decide (Fin b) = true:=decide_eq_true hfb
  clear h1 h2 hS hg hxy hsg hs
  go_enter Tryz.func93,Tryz.ntmps93
  go_wp2_with (first
   | (go_at_call_of 63 (Value.float FloatKind.f64 a);refine (number_any a ha _).mono ?_;rintro e w' ⟨rfl,rfl⟩;rw [hda])
   | (go_at_call_of 63 (Value.float FloatKind.f64 b);refine (number_any b hb _).mono ?_;rintro e w' ⟨rfl,rfl⟩;rw [hdb])
   | (go_at_call 94;refine (sumRest_any ha hb HX.out H1.out H2.out hfa hfb _).mono ?_;rintro e w' ⟨rfl,rfl⟩)
   | (go_at_call 64;refine (told_any d HG.out HS.out hr _).mono ?_;rintro e w' ⟨rfl,rfl⟩))
  all_goals (go_ret2;exact ⟨rfl,rfl⟩)
 ·refine ⟨(0,false),fun h1 h2=>absurd ⟨h1,h2⟩ hf,fun _=>rfl,fun w=>?_⟩
  by_cases hfa:Fin a
  ·have hda:decide (Fin a) = true:=decide_eq_true hfa
   have hdb:decide (Fin b) = false:=decide_eq_false (fun h=>hf ⟨hfa,h⟩)
   go_enter Tryz.func93,Tryz.ntmps93
   go_wp2_with (first
    | (go_at_call_of 63 (Value.float FloatKind.f64 a);refine (number_any a ha _).mono ?_;rintro e w' ⟨rfl,rfl⟩;rw [hda])
    | (go_at_call_of 63 (Value.float FloatKind.f64 b);refine (number_any b hb _).mono ?_;rintro e w' ⟨rfl,rfl⟩;rw [hdb]))
   all_goals (go_ret2;exact ⟨rfl,rfl⟩)
  ·have hda:decide (Fin a) = false:=decide_eq_false hfa
   go_enter Tryz.func93,Tryz.ntmps93
   go_wp2_with (first
    | (go_at_call_of 63 (Value.float FloatKind.f64 a);refine (number_any a ha _).mono ?_;rintro e w' ⟨rfl,rfl⟩;rw [hda]))
   all_goals (go_ret2;exact ⟨rfl,rfl⟩)
theorem isNaN_any (u:Nat) (hn:frung u <= infK) (w:World):Calls Tryz.prog 115 #[.float .f64 u] w fun e w'=>e = .returned (.bool false) /\ w' = w:=by
 have hE:(FloatKind.f64.format.order u u != some .eq) = false:=by
  have h:(FloatKind.f64.format.order u u == some .eq) = true:=by rw [f64_fmt,ord_eq hn hn];simp
  rw [bne,h];rfl
 go_enter Tryz.func115,Tryz.ntmps115
 go_wp2
 go_ret
 exact ⟨rfl,rfl⟩
theorem frung_twice (u:Nat):frung (frung u) = frung u /\ srung (frung u) = frung u /\ frung u < 18446744073709551616:=by
 have h1:frung (frung u) = frung u:=by unfold frung;omega
 refine ⟨h1,?_,by unfold frung;omega⟩
 unfold srung fneg;rw [h1]
 have:frung u / 9223372036854775808 = 0:=by unfold frung;omega
 rw [this];rfl
theorem isInf_any (u:Nat) (hu:u < 18446744073709551616) (hn:Fin u) (w:World):Calls Tryz.prog 114 #[.float .f64 u,.int .i64 0] w fun e w'=>e = .returned (.bool false) /\ w' = w:=by
 have hE:(FloatKind.f64.format.order (frung u) 9218868437227405311 == some .gt) = false:=by
  unfold Fin infK at hn
  have ht:=frung_twice u
  rw [f64_fmt,ord_gt (by rw [ht.1];unfold infK;omega) (by decide),ht.2.1,show srung 9218868437227405311 = 9218868437227405311 by decide]
  apply decide_eq_false;omega
 go_enter Tryz.func114,Tryz.ntmps114
 go_wp2_with (go_at_call 51;refine (abs_any u hu _).mono ?_;rintro e w' ⟨rfl,rfl⟩)
 go_ret
 exact ⟨rfl,rfl⟩
theorem isInf_inf (u:Nat) (hu:u < 18446744073709551616) (hn:frung u = infK) (w:World):Calls Tryz.prog 114 #[.float .f64 u,.int .i64 0] w fun e w'=>e = .returned (.bool true) /\ w' = w:=by
 have hE:(FloatKind.f64.format.order (frung u) 9218868437227405311 == some .gt) = true:=by
  have ht:=frung_twice u
  rw [f64_fmt,ord_gt (by rw [ht.1,hn];exact Nat.le_refl _) (by decide),ht.2.1,hn]
  decide
 go_enter Tryz.func114,Tryz.ntmps114
 go_wp2_with (go_at_call 51;refine (abs_any u hu _).mono ?_;rintro e w' ⟨rfl,rfl⟩)
 go_ret
 exact ⟨rfl,rfl⟩
theorem inf_up (w:World):Calls Tryz.prog 118 #[.int .i64 1] w fun e w'=>e = .returned (.float .f64 (Ieee.double.word false infK)) /\ w' = w:=by
 have hcf:=call_from
 go_enter Tryz.func118,Tryz.ntmps118
 go_wp2
 go_ret
 exact ⟨rfl,rfl⟩
theorem inf_down (w:World):Calls Tryz.prog 118 #[.int .i64 (-1)] w fun e w'=>e = .returned (.float .f64 (Ieee.double.word true infK)) /\ w' = w:=by
 have hcf:=call_from
 go_enter Tryz.func118,Tryz.ntmps118
 go_wp2
 go_ret
 exact ⟨rfl,rfl⟩
theorem copysign_any (u:Nat) (hu:u < 18446744073709551616) (w:World):Calls Tryz.prog 117 #[.float .f64 0,.float .f64 u] w fun e w'=>e = .returned (.float .f64 (Ieee.double.word (fneg u) 0)) /\ w' = w:=by
 have hcb:=call_bits
 have hcf:=call_from
 have h:=u64_and_nat u 9223372036854775808 hu (by decide)
 rw [show ((9223372036854775808:Nat):Int) = 9223372036854775808 from rfl,and_sign hu] at h
 go_enter Tryz.func117,Tryz.ntmps117
 go_wp2
 go_ret
 refine ⟨?_,rfl⟩
 have h0:bits .andNot .u64 0 9223372036854775808 = 0:=by decide
 have h1:=u64_or_nat 0 (u / 9223372036854775808 * 9223372036854775808) (by decide) (by omega)
 rw [Nat.zero_or] at h1
 have h2:(bits .or .u64 (bits .andNot .u64 0 9223372036854775808) ((u:Int) / 9223372036854775808 * 9223372036854775808)).toNat = Ieee.double.word (fneg u) 0:=by
  rw [h0,show (u:Int) / 9223372036854775808 * 9223372036854775808 = ((u / 9223372036854775808 * 9223372036854775808:Nat):Int) by omega,show (0:Int) = ((0:Nat):Int) from rfl,h1,Int.toNat_natCast]
  unfold Ieee.Format.word fneg
  rw [dbl_sign]
  have h3:u / 9223372036854775808 = 0 \/ u / 9223372036854775808 = 1:=by omega
  rcases h3 with h3 | h3 <;> rw [h3] <;> rfl
 rw [<- h2]
 rfl
theorem normalize_same (u:Nat) (hu:u < 18446744073709551616) (hn:frung u <= infK) (h:4503599627370496 <= frung u) (w:World):Calls Tryz.prog 116 #[.float .f64 u] w fun e w'=>e = .returned (.tuple #[.float .f64 u,.int .i64 0]) /\ w' = w:=by
 have hE:(FloatKind.f64.format.order (frung u) 4503599627370496 == some .lt) = false:=by
  have ht:=frung_twice u
  rw [f64_fmt,ord_lt (by rw [ht.1];exact hn) (by decide),ht.2.1,show srung 4503599627370496 = 4503599627370496 by decide]
  apply decide_eq_false;omega
 go_enter Tryz.func116,Tryz.ntmps116
 go_wp2_with (go_at_call 51;refine (abs_any u hu _).mono ?_;rintro e w' ⟨rfl,rfl⟩)
 go_ret2
 exact ⟨rfl,rfl⟩
theorem normalize_sub (u y:Nat) (hu:u < 18446744073709551616) (h:frung u < 4503599627370496) (hy:Ieee.double.mul u 4841369599423283200 = some y) (w:World):Calls Tryz.prog 116 #[.float .f64 u] w fun e w'=>e = .returned (.tuple #[.float .f64 y,.int .i64 (-52)]) /\ w' = w:=by
 have hE:(FloatKind.f64.format.order (frung u) 4503599627370496 == some .lt) = true:=by
  have ht:=frung_twice u
  rw [f64_fmt,ord_lt (by rw [ht.1];unfold infK;omega) (by decide),ht.2.1,show srung 4503599627370496 = 4503599627370496 by decide]
  apply decide_eq_true;omega
 have hm:=run_mul hy
 go_enter Tryz.func116,Tryz.ntmps116
 go_wp2_with (go_at_call 51;refine (abs_any u hu _).mono ?_;rintro e w' ⟨rfl,rfl⟩)
 go_ret2
 exact ⟨rfl,rfl⟩
theorem normalize_any (u:Nat) (hu:u < 18446744073709551616) (hf:Fin u) (h0:frung u ≠ 0):∃ y ee Eb f,Norm u y ee Eb f /\ ∀ w,Calls Tryz.prog 116 #[.float .f64 u] w fun e w'=>e = .returned (.tuple #[.float .f64 y,.int .i64 (-(ee:Int))]) /\ w' = w:=by
 by_cases h:frung u < 4503599627370496
 ·obtain ⟨y,Eb,f,hy,hN⟩:=norm_sub hu h h0
  exact ⟨y,52,Eb,f,hN,fun w=>normalize_sub u y hu h hy w⟩
 ·exact ⟨u,0,_,_,norm_same hu hf (by omega),fun w=>normalize_same u hu (Nat.le_of_lt hf) (by omega) w⟩
theorem i64_and2047 (n:Nat) (hn:n < 9223372036854775808):bits .and .i64 (n:Int) 2047 = ((n % 2048:Nat):Int):=by
 have h2047:(BitVec.ofInt 64 2047).toNat = 2 ^ 11 - 1:=by decide
 have key:(BitVec.ofInt 64 n &&& BitVec.ofInt 64 2047).toNat = ((n:Int) % ((2 ^ 64:Nat):Int)).toNat % 2 ^ 11:=by
  rw [BitVec.toNat_and,BitVec.toNat_ofInt,h2047,Nat.and_two_pow_sub_one_eq_mod]
 show IntKind.i64.wrap ((BitVec.ofInt 64 n &&& BitVec.ofInt 64 2047).toNat:Nat) = _
 rw [key,IntKind.wrap_i64]
 omega
theorem field_of {x y ee Eb f:Nat} (hN:Norm x y ee Eb f):bits .and .i64 ((y:Int) / 4503599627370496) 2047 = Eb:=by
 have h1:=hN.word
 have h2:=hN.lt
 have h3:=hN.eb1
 have h4:=hN.f1
 unfold frung at h1
 rw [show (y:Int) / 4503599627370496 = ((y / 4503599627370496:Nat):Int) by omega,i64_and2047 _ (by omega)]
 omega
theorem fields_set {x y ee Eb f:Nat} (hN:Norm x y ee Eb f) {k:Nat} (hk:k < 2048):(bits .or .u64 (bits .andNot .u64 (y:Int) 9218868437227405312) ((k * 4503599627370496:Nat):Int)).toNat = Ieee.double.word (fneg x) (k * 4503599627370496 + f):=by
 have h1:=hN.word
 have h2:=hN.lt
 have h3:=hN.eb1
 have h4:=hN.f1
 have h5:=hN.sgn
 unfold frung at h1
 have ha:=u64_andNot_nat y 9218868437227405312 h2 (by decide)
 rw [show ((9218868437227405312:Nat):Int) = 9218868437227405312 from rfl] at ha
 rw [ha,show 18446744073709551615 - 9218868437227405312 = 9227875636482146303 by decide,and_field h2,show y % 4503599627370496 = f by omega]
 rw [u64_or_nat _ _ (by omega) (by omega),Int.toNat_natCast,or_field (by omega) hk h4]
 unfold Ieee.Format.word
 rw [<- h5,dbl_sign]
 unfold fneg
 have h6:y / 9223372036854775808 = 0 \/ y / 9223372036854775808 = 1:=by omega
 rcases h6 with h6 | h6 <;> rw [h6] <;> simp <;> omega
theorem ord_zero {x:Nat} (hf:Fin x) (h0:frung x ≠ 0):(FloatKind.f64.format.order x 0 == some .eq) = false:=by
 rw [f64_fmt,ord_eq (Nat.le_of_lt hf) (by decide)]
 apply decide_eq_false
 unfold srung;rw [show (if fneg 0 = true then -(frung 0:Int) else (frung 0:Int)) = 0 by decide];split <;> omega
theorem ldexp_exact {x y ee Eb f:Nat} (n X:Int) (hx:x < 18446744073709551616) (hf:Fin x) (h0:frung x ≠ 0) (hN:Norm x y ee Eb f) (hcall:∀ w,Calls Tryz.prog 116 #[.float .f64 x] w fun e w'=>e = .returned (.tuple #[.float .f64 y,.int .i64 (-(ee:Int))]) /\ w' = w)
  (hn:-1000000 <= n /\ n <= 1000000) (hX:X = n - ee + Eb - 1) (hX0:0 <= X) (hX1:X <= 2045) (w:World) :
  Calls Tryz.prog 102 #[.float .f64 x,.int .i64 n] w fun e w'=>e = .returned (.float .f64 (Ieee.double.word (fneg x) ((X.toNat + 1) * 4503599627370496 + f))) /\ w' = w:=by
 have hcb:=call_bits
 have hcf:=call_from
 have hE:=ord_zero hf h0
 have he1:=hN.eb0
 have he2:=hN.eb1
 have he3:=hN.e52
 have he4:=hN.lt
 have hfd:=field_of hN
 have hS:=fields_set hN (k:=X.toNat + 1) (by omega)
 rw [show (((X.toNat + 1) * 4503599627370496:Nat):Int) = (n + -↑ee + (↑Eb - 1023) + 1023) * 4503599627370496 by omega] at hS
 have hw:=word_rung (fneg x) (k:=(X.toNat + 1) * 4503599627370496 + f) (by have:=hN.f1;omega)
 have hm:=run_mul (mul_one_l hw.2.2 (by rw [hw.1];have:=hN.f1;unfold infK;omega))
 clear hw
 have hb0:0 <= n - ee + Eb - 1:=by omega
 have hb1:n - ee + Eb - 1 <= 2045:=by omega
 generalize Ieee.double.word (fneg x) ((X.toNat + 1) * 4503599627370496 + f) = W at *
 clear hX hX0 hX1
 go_enter Tryz.func102,Tryz.ntmps102
 go_wp2_with (first
  | (go_at_call 114;refine (isInf_any x hx hf _).mono ?_;rintro e w' ⟨rfl,rfl⟩)
  | (go_at_call 115;refine (isNaN_any x (Nat.le_of_lt hf) _).mono ?_;rintro e w' ⟨rfl,rfl⟩)
  | (go_at_call 116;refine (hcall _).mono ?_;rintro e w' ⟨rfl,rfl⟩))
 go_ret
 exact ⟨rfl,rfl⟩
theorem ldexp_small {x y ee Eb f:Nat} (n X:Int) (hx:x < 18446744073709551616) (hf:Fin x) (h0:frung x ≠ 0) (hN:Norm x y ee Eb f) (hcall:∀ w,Calls Tryz.prog 116 #[.float .f64 x] w fun e w'=>e = .returned (.tuple #[.float .f64 y,.int .i64 (-(ee:Int))]) /\ w' = w)
  (hn:-1000000 <= n /\ n <= 1000000) (hX:X = n - ee + Eb - 1) (hX0:-53 <= X) (hX1:X < 0) {r:Nat} (hr:Ieee.double.mul 4368491638549381120 (Ieee.double.word (fneg x) ((X + 54).toNat * 4503599627370496 + f)) = some r) (w:World) :
  Calls Tryz.prog 102 #[.float .f64 x,.int .i64 n] w fun e w'=>e = .returned (.float .f64 (r)) /\ w' = w:=by
 have hcb:=call_bits
 have hcf:=call_from
 have hE:=ord_zero hf h0
 have he1:=hN.eb0
 have he2:=hN.eb1
 have he3:=hN.e52
 have he4:=hN.lt
 have hfd:=field_of hN
 have hS:=fields_set hN (k:=(X + 54).toNat) (by omega)
 rw [show (((X + 54).toNat * 4503599627370496:Nat):Int) = (n + -↑ee + (↑Eb - 1023) + 53 + 1023) * 4503599627370496 by omega] at hS
 have hm:=run_mul hr
 have hb0:-53 <= n - ee + Eb - 1:=by omega
 have hb1:n - ee + Eb - 1 < 0:=by omega
 generalize Ieee.double.word (fneg x) ((X + 54).toNat * 4503599627370496 + f) = W at *
 clear hX hX0 hX1 hr
 go_enter Tryz.func102,Tryz.ntmps102
 go_wp2_with (first
  | (go_at_call 114;refine (isInf_any x hx hf _).mono ?_;rintro e w' ⟨rfl,rfl⟩)
  | (go_at_call 115;refine (isNaN_any x (Nat.le_of_lt hf) _).mono ?_;rintro e w' ⟨rfl,rfl⟩)
  | (go_at_call 116;refine (hcall _).mono ?_;rintro e w' ⟨rfl,rfl⟩))
 go_ret
 exact ⟨rfl,rfl⟩
theorem ldexp_under {x y ee Eb f:Nat} (n X:Int) (hx:x < 18446744073709551616) (hf:Fin x) (h0:frung x ≠ 0) (hN:Norm x y ee Eb f) (hcall:∀ w,Calls Tryz.prog 116 #[.float .f64 x] w fun e w'=>e = .returned (.tuple #[.float .f64 y,.int .i64 (-(ee:Int))]) /\ w' = w)
  (hn:-1000000 <= n /\ n <= 1000000) (hX:X = n - ee + Eb - 1) (hX0:X < -53) (w:World) :
  Calls Tryz.prog 102 #[.float .f64 x,.int .i64 n] w fun e w'=>e = .returned (.float .f64 (Ieee.double.word (fneg x) 0)) /\ w' = w:=by
 have hcb:=call_bits
 have hcf:=call_from
 have hE:=ord_zero hf h0
 have he1:=hN.eb0
 have he2:=hN.eb1
 have he3:=hN.e52
 have he4:=hN.lt
 have hfd:=field_of hN
 have hsg:=hN.sgn
 go_enter Tryz.func102,Tryz.ntmps102
 go_wp2_with (first
  | (go_at_call 114;refine (isInf_any x hx hf _).mono ?_;rintro e w' ⟨rfl,rfl⟩)
  | (go_at_call 115;refine (isNaN_any x (Nat.le_of_lt hf) _).mono ?_;rintro e w' ⟨rfl,rfl⟩)
  | (go_at_call 117;refine (copysign_any y he4 _).mono ?_;rintro e w' ⟨rfl,rfl⟩;rw [hsg])
  | (go_at_call 116;refine (hcall _).mono ?_;rintro e w' ⟨rfl,rfl⟩))
 go_ret
 exact ⟨rfl,rfl⟩
theorem ord_neg {y:Nat} (hy:frung y <= infK) (h0:frung y ≠ 0):(FloatKind.f64.format.order y 0 == some .lt) = fneg y:=by
 rw [f64_fmt,ord_lt hy (by decide),show srung 0 = 0 by decide]
 unfold srung
 cases fneg y <;> simp <;> omega
theorem ldexp_over_neg {x y ee Eb f:Nat} (n X:Int) (hx:x < 18446744073709551616) (hf:Fin x) (h0:frung x ≠ 0) (hN:Norm x y ee Eb f) (hcall:∀ w,Calls Tryz.prog 116 #[.float .f64 x] w fun e w'=>e = .returned (.tuple #[.float .f64 y,.int .i64 (-(ee:Int))]) /\ w' = w)
  (hn:-1000000 <= n /\ n <= 1000000) (hX:X = n - ee + Eb - 1) (hX0:2045 < X) (hneg:fneg x = true) (w:World) :
  Calls Tryz.prog 102 #[.float .f64 x,.int .i64 n] w fun e w'=>e = .returned (.float .f64 (Ieee.double.word (fneg x) infK)) /\ w' = w:=by
 have hcb:=call_bits
 have hcf:=call_from
 have hE:=ord_zero hf h0
 have he1:=hN.eb0
 have he2:=hN.eb1
 have he3:=hN.e52
 have he4:=hN.lt
 have hfd:=field_of hN
 have hlt:(FloatKind.f64.format.order y 0 == some .lt) = true:=by
  have h1:=hN.word
  have h2:=hN.f1
  rw [ord_neg (by rw [h1];unfold infK;omega) (by rw [h1];omega),hN.sgn,hneg]
 rw [hneg]
 go_enter Tryz.func102,Tryz.ntmps102
 go_wp2_with (first
  | (go_at_call 114;refine (isInf_any x hx hf _).mono ?_;rintro e w' ⟨rfl,rfl⟩)
  | (go_at_call 115;refine (isNaN_any x (Nat.le_of_lt hf) _).mono ?_;rintro e w' ⟨rfl,rfl⟩)
  | (go_at_call 118;refine (inf_down _).mono ?_;rintro e w' ⟨rfl,rfl⟩)
  | (go_at_call 116;refine (hcall _).mono ?_;rintro e w' ⟨rfl,rfl⟩))
 go_ret
 exact ⟨rfl,rfl⟩
theorem ldexp_over_pos {x y ee Eb f:Nat} (n X:Int) (hx:x < 18446744073709551616) (hf:Fin x) (h0:frung x ≠ 0) (hN:Norm x y ee Eb f) (hcall:∀ w,Calls Tryz.prog 116 #[.float .f64 x] w fun e w'=>e = .returned (.tuple #[.float .f64 y,.int .i64 (-(ee:Int))]) /\ w' = w)
  (hn:-1000000 <= n /\ n <= 1000000) (hX:X = n - ee + Eb - 1) (hX0:2045 < X) (hneg:fneg x = false) (w:World) :
  Calls Tryz.prog 102 #[.float .f64 x,.int .i64 n] w fun e w'=>e = .returned (.float .f64 (Ieee.double.word (fneg x) infK)) /\ w' = w:=by
 have hcb:=call_bits
 have hcf:=call_from
 have hE:=ord_zero hf h0
 have he1:=hN.eb0
 have he2:=hN.eb1
 have he3:=hN.e52
 have he4:=hN.lt
 have hfd:=field_of hN
 have hlt:(FloatKind.f64.format.order y 0 == some .lt) = false:=by
  have h1:=hN.word
  have h2:=hN.f1
  rw [ord_neg (by rw [h1];unfold infK;omega) (by rw [h1];omega),hN.sgn,hneg]
 rw [hneg]
 go_enter Tryz.func102,Tryz.ntmps102
 go_wp2_with (first
  | (go_at_call 114;refine (isInf_any x hx hf _).mono ?_;rintro e w' ⟨rfl,rfl⟩)
  | (go_at_call 115;refine (isNaN_any x (Nat.le_of_lt hf) _).mono ?_;rintro e w' ⟨rfl,rfl⟩)
  | (go_at_call 118;refine (inf_up _).mono ?_;rintro e w' ⟨rfl,rfl⟩)
  | (go_at_call 116;refine (hcall _).mono ?_;rintro e w' ⟨rfl,rfl⟩))
 go_ret
 exact ⟨rfl,rfl⟩
theorem ldexp_zero (x:Nat) (n:Int) (h0:frung x = 0) (w:World):Calls Tryz.prog 102 #[.float .f64 x,.int .i64 n] w fun e w'=>e = .returned (.float .f64 x) /\ w' = w:=by
 have hE:(FloatKind.f64.format.order x 0 == some .eq) = true:=by
  rw [f64_fmt,ord_eq (by rw [h0];exact Nat.zero_le _) (by decide)]
  apply decide_eq_true
  unfold srung;rw [show (if fneg 0 = true then -(frung 0:Int) else (frung 0:Int)) = 0 by decide,h0];split <;> rfl
 go_enter Tryz.func102,Tryz.ntmps102
 go_wp2
 go_ret
 exact ⟨rfl,rfl⟩
theorem ldexp_inf (x:Nat) (n:Int) (hx:x < 18446744073709551616) (h0:frung x = infK) (w:World):Calls Tryz.prog 102 #[.float .f64 x,.int .i64 n] w fun e w'=>e = .returned (.float .f64 x) /\ w' = w:=by
 have hE:(FloatKind.f64.format.order x 0 == some .eq) = false:=by
  rw [f64_fmt,ord_eq (Nat.le_of_eq h0) (by decide)]
  apply decide_eq_false
  unfold srung;rw [show (if fneg 0 = true then -(frung 0:Int) else (frung 0:Int)) = 0 by decide,h0];unfold infK;split <;> omega
 go_enter Tryz.func102,Tryz.ntmps102
 go_wp2_with (go_at_call 114;refine (isInf_inf x hx h0 _).mono ?_;rintro e w' ⟨rfl,rfl⟩)
 go_ret
 exact ⟨rfl,rfl⟩
theorem ldexp_any (x:Nat) (n:Int) (hx:x < 18446744073709551616) (hn:-1000000 <= n /\ n <= 1000000) (hf:frung x <= infK):∃ r,(Fin x -> Pow x n r) /\ (frung x = infK -> r = x) /\ r < 18446744073709551616 ∧
  ∀ w,Calls Tryz.prog 90 #[.float .f64 x,.int .i64 n] w fun e w'=>e = .returned (.float .f64 r) /\ w' = w:=by
 have key:∃ r,(Fin x -> Pow x n r) /\ (frung x = infK -> r = x) /\ r < 18446744073709551616 /\ ∀ w,Calls Tryz.prog 102 #[.float .f64 x,.int .i64 n] w fun e w'=>e = .returned (.float .f64 r) /\ w' = w:=by
  rcases Nat.lt_or_eq_of_le hf with hf | hf
  ·have hni:frung x = infK -> ∀ r,r = x:=fun h=>by omega
   by_cases h0:frung x = 0
   ·exact ⟨x,fun _=>pow_zero hx h0 n,fun _=>rfl,hx,fun w=>ldexp_zero x n h0 w⟩
   ·obtain ⟨y,ee,Eb,f,hN,hcall⟩:=normalize_any x hx hf h0
    have hf1:=hN.f1
    by_cases h1:n - ee + Eb - 1 < -53
    ·exact ⟨_,fun _=>pow_under hN rfl h1,fun h=>hni h _,(word_rung (fneg x) (k:=0) (by decide)).2.2,fun w=>ldexp_under n _ hx hf h0 hN hcall hn rfl h1 w⟩
    ·by_cases h2:2045 < n - ee + Eb - 1
     ·refine ⟨_,fun _=>pow_over hN rfl h2,fun h=>hni h _,(word_rung (fneg x) (k:=infK) (by decide)).2.2,fun w=>?_⟩
      cases hb:fneg x
      ·have:=ldexp_over_pos n _ hx hf h0 hN hcall hn rfl h2 hb w
       rw [hb] at this;exact this
      ·have:=ldexp_over_neg n _ hx hf h0 hN hcall hn rfl h2 hb w
       rw [hb] at this;exact this
     ·by_cases h3:n - ee + Eb - 1 < 0
      ·obtain ⟨r,hr,hp,hl⟩:=pow_small hN (n:=n) rfl (by omega) h3
       exact ⟨r,fun _=>hp,fun h=>hni h _,hl,fun w=>ldexp_small n _ hx hf h0 hN hcall hn rfl (by omega) h3 hr w⟩
      ·exact ⟨_,fun _=>pow_exact hN rfl (by omega) (by omega),fun h=>hni h _,(word_rung (fneg x) (by omega)).2.2,fun w=>ldexp_exact n _ hx hf h0 hN hcall hn rfl (by omega) (by omega) w⟩
  ·exact ⟨x,fun h=>by unfold Fin at h;omega,fun _=>rfl,hx,fun w=>ldexp_inf x n hx hf w⟩
 obtain ⟨r,h1,h2,h3,h4⟩:=key
 refine ⟨r,h1,h2,h3,fun w=>?_⟩
 go_enter Tryz.func90,Tryz.ntmps90
 go_wp2_with (go_at_call 102;refine (h4 _).mono ?_;rintro e w' ⟨rfl,rfl⟩)
 go_ret
 exact ⟨rfl,rfl⟩
def sideOf (d:Int):Int:=if d = 1 then 1 else if d = 2 then -1 else 0
theorem next_any (d:Int) (a:Nat) (ha:a < 18446744073709551616):∃ p,(Fin a -> RndZ d (fval a * 64 + sideOf d) 64 p) /\ (¬ Fin a -> p = (0,false)) ∧
  ∀ w,Calls Tryz.prog 36 #[.int .i64 d,.float .f64 a] w fun e w'=>e = .returned (.tuple #[.float .f64 p.1,.bool p.2]) /\ w' = w:=by
 have r1:srung 4607182418800017408 = 4607182418800017408:=by decide
 have r2:srung 13830554455654793216 = -4607182418800017408:=by decide
 have r0:srung 0 = 0:=by decide
 have n1:frung 4607182418800017408 <= infK:=by decide
 have n2:frung 13830554455654793216 <= infK:=by decide
 have n0:frung 0 <= infK:=by decide
 by_cases hf:Fin a
 ·have hdf:decide (Fin a) = true:=decide_eq_true hf
  have hfi:frung a < infK:=hf
  have hup:∀ x,0 < srung x -> ¬ (fneg a = false /\ frung a = infK):=fun _ _ c=>by omega
  have hdn:∀ x,srung x < 0 -> ¬ (fneg (fopp a) = false /\ frung (fopp a) = infK):=fun _ _ c=>by rw [(fopp_parts ha).1] at c;omega
  by_cases h1:d = 1
  ·subst h1
   refine ⟨toldM 1 a 4607182418800017408,fun _=>next_rnd 1 1 (.inl rfl) _ ha hf n1 (by rw [r1];decide) (by rw [r1];decide),fun h=>absurd hf h,fun w=>?_⟩
   have H1:Hid _:=told_core 1 ha (by omega) n1 (hup _) (hdn _) (by decide)
   clear r1 r2 r0 n1 n2 n0 hup hdn
   go_enter Tryz.func36,Tryz.ntmps36
   go_wp2_with (first
    | (go_at_call 63;refine (number_any a ha _).mono ?_;rintro e w' ⟨rfl,rfl⟩;rw [hdf])
    | (go_at_call 64;refine (H1.out _).mono ?_;rintro e w' ⟨rfl,rfl⟩))
   all_goals (go_ret2;exact ⟨rfl,rfl⟩)
  by_cases h2:d = 2
  ·subst h2
   refine ⟨toldM 2 a 13830554455654793216,fun _=>next_rnd 2 (-1) (.inr (.inl rfl)) _ ha hf n2 (by rw [r2];decide) (by rw [r2];decide),fun h=>absurd hf h,fun w=>?_⟩
   have H1:Hid _:=told_core 2 ha (by omega) n2 (hup _) (hdn _) (by decide)
   clear r1 r2 r0 n1 n2 n0 hup hdn h1
   go_enter Tryz.func36,Tryz.ntmps36
   go_wp2_with (first
    | (go_at_call 63;refine (number_any a ha _).mono ?_;rintro e w' ⟨rfl,rfl⟩;rw [hdf])
    | (go_at_call 64;refine (H1.out _).mono ?_;rintro e w' ⟨rfl,rfl⟩))
   all_goals (go_ret2;exact ⟨rfl,rfl⟩)
  have hs:sideOf d = 0:=by unfold sideOf;rw [if_neg h1,if_neg h2]
  refine ⟨toldM d a 0,fun _=>by rw [hs];exact next_rnd d 0 (.inr (.inr rfl)) _ ha hf n0 (by rw [r0];decide) (by rw [r0];decide),fun h=>absurd hf h,fun w=>?_⟩
  have H1:Hid _:=told_core d ha (by omega) n0 (hup _) (hdn _) (by decide)
  have t1:(d == 1) = false:=by rw [beq_eq_false_iff_ne];exact h1
  have t2:(d == 2) = false:=by rw [beq_eq_false_iff_ne];exact h2
  clear r1 r2 r0 n1 n2 n0 hup hdn hs h1 h2
  go_enter Tryz.func36,Tryz.ntmps36
  go_wp2_with (first
   | (go_at_call 63;refine (number_any a ha _).mono ?_;rintro e w' ⟨rfl,rfl⟩;rw [hdf])
   | (go_at_call 64;refine (H1.out _).mono ?_;rintro e w' ⟨rfl,rfl⟩))
  all_goals (go_ret2;exact ⟨rfl,rfl⟩)
 ·have hdf:decide (Fin a) = false:=decide_eq_false hf
  refine ⟨(0,false),fun h=>absurd h hf,fun _=>rfl,fun w=>?_⟩
  clear r1 r2 r0 n1 n2 n0
  go_enter Tryz.func36,Tryz.ntmps36
  go_wp2_with (first
   | (go_at_call 63;refine (number_any a ha _).mono ?_;rintro e w' ⟨rfl,rfl⟩;rw [hdf]))
  all_goals (go_ret2;exact ⟨rfl,rfl⟩)
theorem cellAtJ {W:World} {B:Nat} {c:Array Value} {t:TypeId} (h:W.heap[B]? = some (.cells c t)) (o:Nat) (v:Value) (hv:c[o]? = some v):W.cell? ⟨B,o,none⟩ = some v:=(cell_of_row _ _ o _ _ _ h).trans hv
structure RdIs (w:World) (ao:Option Addr) (len cap:Nat) (is:List Int):Prop where
 length:is.length = len
 max:len <= maxLen
 cells:len = 0 \/ ∃ b off,ao = some ⟨b,off,none⟩ /\ ∀ j,j < len -> w.cell? ⟨b,off + j,none⟩ = some (.int .i64 (is[j]?.getD 0))
theorem RdIs.later {w w':World} {ao:Option Addr} {len cap:Nat} {is:List Int} (h:RdIs w ao len cap is) (hb:Below w.heap.size w w'):RdIs w' ao len cap is:=by
 refine ⟨h.length,h.max,?_⟩
 rcases h.cells with h0 | ⟨b,off,ha,hc⟩
 ·exact .inl h0
 ·refine .inr ⟨b,off,ha,fun j hj=>?_⟩
  rw [hb.cell (p:=⟨b,off + j,none⟩) (World.block_lt_of_cell? w _ (hc j hj))]
  exact hc j hj
structure RdGs (w:World) (ao:Option Addr) (len cap:Nat) (gv:Nat -> Option Addr × Nat × Nat) (gs:List (List Nat)):Prop where
 length:gs.length = len
 max:len <= maxLen
 cells:len = 0 \/ ∃ b off,ao = some ⟨b,off,none⟩ /\ ∀ j,j < len -> w.cell? ⟨b,off + j,none⟩ = some (.slice (gv j).1 (gv j).2.1 (gv j).2.2)
 each:∀ j,j < len -> RdF w (gv j).1 (gv j).2.1 (gv j).2.2 (gs[j]?.getD [])
theorem RdGs.later {w w':World} {ao:Option Addr} {len cap:Nat} {gv:Nat -> Option Addr × Nat × Nat} {gs:List (List Nat)} (h:RdGs w ao len cap gv gs) (hb:Below w.heap.size w w'):RdGs w' ao len cap gv gs:=by
 refine ⟨h.length,h.max,?_,fun j hj=>(h.each j hj).later hb⟩
 rcases h.cells with h0 | ⟨b,off,ha,hc⟩
 ·exact .inl h0
 ·refine .inr ⟨b,off,ha,fun j hj=>?_⟩
  rw [hb.cell (p:=⟨b,off + j,none⟩) (World.block_lt_of_cell? w _ (hc j hj))]
  exact hc j hj
structure ZD where
 N:Int
 co:Option Addr
 cn:Nat
 cc:Nat
 io:Option Addr
 dn:Nat
 dc:Nat
 go:Option Addr
 gn:Nat
 gc:Nat
 ro:Option Addr
 rn:Nat
 rc:Nat
 bad:Bool
 cs:List Nat
 ids:List Int
 gv:Nat -> Option Addr × Nat × Nat
 gs:List (List Nat)
 rs:List Nat
structure ZR (w:World) (z:ZD):Prop where
 c:RdF w z.co z.cn z.cc z.cs
 i:RdIs w z.io z.dn z.dc z.ids
 g:RdGs w z.go z.gn z.gc z.gv z.gs
 r:RdF w z.ro z.rn z.rc z.rs
theorem ZR.later {w w':World} {z:ZD} (h:ZR w z) (hb:Below w.heap.size w w'):ZR w' z:=⟨h.c.later hb,h.i.later hb,h.g.later hb,h.r.later hb⟩
def numN (us:List Nat) (n:Int):Bool:=decide ((us.length:Int) = n) && numsB us
theorem areNumbers_any (ao:Option Addr) (len cap:Nat) (us:List Nat) (n:Int) (w:World) (h:RdF w ao len cap us) :
  Calls Tryz.prog 47 #[.slice ao len cap,.int .i64 n] w fun e w'=>e = .returned (.bool (numN us n)) /\ w' = w:=by
 have HR:Hid _:=h
 have hmx:=Nat.le_trans h.max maxLen_le
 have hln:=h.length
 clear h
 by_cases hn:(len:Int) = n
 ·subst hn
  have HE:Hid (numN us (len:Int) = numsB us):=by unfold Hid numN;rw [hln,decide_eq_true rfl,Bool.true_and]
  go_enter Tryz.func47,Tryz.ntmps47
  go_wp2_with fail
  go_loopg [13] len (fun g iv wx=>∃ k:Nat,iv = .int .i64 k /\ k + g = len /\ Hid (wx = w) /\ Hid (numsB (us.drop k) = numsB us))
  case atStart=>exact ⟨0,rfl,by omega,rfl,rfl⟩
  case round=>
   obtain ⟨k,rfl,hk,hw,H1⟩:=hrel
   by_cases hlt:k < len
   ·have hd:decide ((k:Int) < (len:Int)) = true:=decide_eq_true (by omega)
    obtain ⟨g,rfl⟩:∃ g,gk = g + 1:=⟨gk - 1,by omega⟩
    rcases HR.out.cells with h0 | ⟨b,off,rfl,hc⟩
    ·omega
    ·have g0:=hc k hlt
     rw [<- hw.out] at g0
     have hul:=HR.out.lt _ (getD_mem (us:=us) (j:=k) (by omega))
     have h2:=H1.out
     rw [numsB_drop us (by omega)] at h2
     obtain ⟨u,hu⟩:∃ u,us[k]?.getD 0 = u:=⟨_,rfl⟩
     rw [hu] at g0 hul h2
     clear hc hu H1
     by_cases hf:Fin u
     ·have hfd:decide (Fin u) = true:=decide_eq_true hf
      have H2:Hid (numsB (us.drop (k + 1)) = numsB us):=by unfold Hid;rw [<- h2,hfd,Bool.true_and]
      clear h2
      go_wp2_with (go_at_call 63;refine (number_any u hul _).mono ?_;rintro e w' ⟨rfl,rfl⟩;rw [hfd])
      go_roundg g
      case measure=>omega
      case rel=>exact ⟨k + 1,by go_num,by omega,hw,H2⟩
     ·have hfd:decide (Fin u) = false:=decide_eq_false hf
      have H2:Hid (false = numsB us):=by unfold Hid;rw [<- h2,hfd,Bool.false_and]
      clear h2
      go_wp2_with (go_at_call 63;refine (number_any u hul _).mono ?_;rintro e w' ⟨rfl,rfl⟩;rw [hfd])
      go_ret
      exact ⟨by rw [HE.out,<- H2.out];rfl,hw.out⟩
   ·have hd:decide ((k:Int) < (len:Int)) = false:=decide_eq_false (by omega)
    have hd':decide (k < len) = false:=decide_eq_false (by omega)
    have H2:Hid (true = numsB us):=by
     unfold Hid
     rw [<- H1.out,List.drop_eq_nil_of_le (by omega)]
     rfl
    go_wp2_with fail
    go_ret
    exact ⟨by rw [HE.out,<- H2.out];rfl,hw.out⟩
 ·have HE:Hid (numN us n = false):=by unfold Hid numN;rw [hln,decide_eq_false hn,Bool.false_and]
  have hb:((len:Int) != n) = true:=by simpa using hn
  have hb2:((len:Int) == n) = false:=by simpa using hn
  go_enter Tryz.func47,Tryz.ntmps47
  go_wp2_with fail
  go_ret
  exact ⟨by rw [HE.out];rfl,rfl⟩
open Go.RowKit Go.Shelf
attribute [local go_sem] Oper.semAt_some
def KpZ (n₀ B:Nat) (W W':World):Prop:=Below n₀ W W' /\ W'.heap[B]? = W.heap[B]?
theorem KpZ.trans {n₀ B:Nat} {a b c:World} (h:KpZ n₀ B a b) (k:KpZ n₀ B b c):KpZ n₀ B a c:=⟨h.1.trans k.1,k.2.trans h.2⟩
theorem KpZ.refl (n₀ B:Nat) (a:World):KpZ n₀ B a a:=⟨Below.refl _ _,rfl⟩
theorem kpZ_b {n₀ B:Nat} {w:World} (hn:n₀ <= w.heap.size) (hB:B < w.heap.size) (W:World) (l:Nat) (o o':Obj) (hl:w.heap.size <= l) (h:W.heap[l]? = some o) (hc:o.isCells = false) (hw:o.isWalk = false):KpZ n₀ B W (W.putObj l o'):=
 ⟨belowK_b hn W l o o' hl h hc hw,by
  have:=(belowK_b (n₀:=B + 1) (w:=w) (by omega) W l o o' hl h hc hw).block B (by omega)
  exact this⟩
def encZ (z:ZD) (k:_root_.Fin z.dn):Array Value:=#[.int .i64 (z.ids[k.val]?.getD 0),.slice (z.gv k.val).1 (z.gv k.val).2.1 (z.gv k.val).2.2]
def uptoZ (z:ZD) (k:Nat):List (_root_.Fin z.dn):=(List.finRange z.dn).take k
theorem uptoZ_len (z:ZD) (k:Nat) (h:k <= z.dn):(uptoZ z k).length = k:=by unfold uptoZ;rw [List.length_take,List.length_finRange];omega
theorem uptoZ_succ (z:ZD) (k:Nat) (h:k < z.dn):uptoZ z (k + 1) = uptoZ z k ++ [⟨k,h⟩]:=by
 unfold uptoZ
 rw [List.take_add_one,List.getElem?_eq_getElem (by rw [List.length_finRange];exact h)]
 simp
theorem uptoZ_all (z:ZD):uptoZ z z.dn = List.finRange z.dn:=by unfold uptoZ;rw [List.take_of_length_le (by rw [List.length_finRange];exact Nat.le_refl _)]
theorem columns_in (F:Fence) (n:Nat) (hf:F.fn 32) (hro:F.round = none) (v:Array Value) (hv:v.size = 6) (w:World) :
  CallsIn F n Tryz.prog 32 #[.agg v] w fun e w'=>e = .returned (.func (.func 58) #[] #[.pointer (some ⟨w.heap.size,0,none⟩)]) /\ w' = w.alloc (.cells v 26):=by
 refine callsIn_of_wp Tryz.func32 rfl hf ?_ hro
 simp only [Tryz.ntmps32,List.size_toArray,List.length_cons,List.length_nil,Nat.reduceAdd,Nat.reduceSub,Array.replicate_succ,Array.replicate_zero,List.push_toArray,List.append_toArray,List.nil_append,List.cons_append]
 gi_wp2
 go_ret
 exact ⟨rfl,rfl⟩
theorem cols_in (F:Fence) (n:Nat) (hf:F.fn 58) (hro:F.round = none) (hn:1 <= n) (l B n₀:Nat) (z:ZD) (hg:z.dn <= z.gn) (J Jx:List (_root_.Fin z.dn) -> World -> Prop)
  (hY:∀ pre x W,J pre W -> pre.length < z.dn -> YieldAt F (n - 1) Tryz.prog l (encZ z x) W fun e W'=>
   (e = .returned (.bool true) /\ J (pre ++ [x]) W' /\ KpZ n₀ B W W') \/ (e = .returned (.bool false) /\ Jx (pre ++ [x]) W'))
  (W:World) (hB:W.heap[B]? = some (.cells #[.int .i64 z.N,.slice z.co z.cn z.cc,.slice z.io z.dn z.dc,.slice z.go z.gn z.gc,.slice z.ro z.rn z.rc,.bool z.bad] 26))
  (hz:∀ W',Below n₀ W W' -> ZR W' z) (h0:J [] W) :
  CallsIn F n Tryz.prog 58 #[.func (.yield l) #[] #[],.pointer (some ⟨B,0,none⟩)] W fun e W'=>(∃ v,e = .returned v) ∧
   ((∃ ys,ys = List.finRange z.dn /\ J ys W') \/ (∃ pre,(∃ k,k <= z.dn /\ pre = uptoZ z k) /\ Jx pre W')):=by
 obtain ⟨N,co,cn,cc,io,dn,dc,go,gn,gc,ro,rn,rc,bad,cs,ids,gv,gs,rs⟩:=z
 dsimp only at hg J Jx hY hB hz h0 ⊢
 have hmx:dn <= 9223372036854775807:=Nat.le_trans (hz W (Below.refl _ _)).i.max maxLen_le
 have hmx2:dn <= maxLen:=(hz W (Below.refl _ _)).i.max
 have c2:=cellAtJ hB 2 (.slice io dn dc) rfl
 refine callsIn_of_wp Tryz.func58 rfl hf ?_ hro
 simp only [Tryz.ntmps58,List.size_toArray,List.length_cons,List.length_nil,Nat.reduceAdd,Nat.reduceSub,Array.replicate_succ,Array.replicate_zero,List.push_toArray,List.append_toArray,List.nil_append,List.cons_append]
 gi_wp2
 gi_loopw [8] (fun i wr=>∃ k:Nat,k <= dn /\ i = .int .i64 k /\ J (uptoZ ⟨N,co,cn,cc,io,dn,dc,go,gn,gc,ro,rn,rc,bad,cs,ids,gv,gs,rs⟩ k) wr /\ KpZ n₀ B W wr)
  (fun i _=>dn - (intOf i).toNat)
 case atStart=>exact ⟨0,Nat.zero_le _,rfl,h0,KpZ.refl _ _ _⟩
 case round=>
  obtain ⟨k,hk,rfl,hJs,hnx⟩:=hrel
  by_cases hlt:k < dn
  ·obtain ⟨fn,tmps,assign,body,hy,hR⟩:=hY _ ⟨k,hlt⟩ wr hJs (by rw [uptoZ_len _ k hk];exact hlt)
   dsimp only [encZ] at hy
   have hzr:=hz wr hnx.1
   obtain ⟨hzc,hzi,hzg,hzr'⟩:=hzr
   dsimp only at hzi hzg
   rcases hzi.cells with h0' | ⟨ib,ioff,rfl,hic⟩
   ·omega
   rcases hzg.cells with h0' | ⟨gb,goff,rfl,hgc⟩
   ·omega
   have q1:=hic k hlt
   have q2:=hgc k (by omega)
   have c3:=cellAtJ (hnx.2.trans hB) 3 (.slice (some ⟨gb,goff,none⟩) gn gc) rfl
   have hlt':k < gn:=by omega
   have hki:(k:Int) < (dn:Int):=by omega
   gi_wp2
   refine hR.mono ?_
   rintro e W3 (⟨rfl,hJ3,hk3⟩ | ⟨rfl,hJx3⟩)
   ·gi_wp2
    go_roundw
    case rel=>exact ⟨k + 1,by omega,by simp,by rw [uptoZ_succ _ _ hlt];exact hJ3,hnx.trans hk3⟩
    case measure=>simp [intOf];omega
   ·gi_wp2
    refine bodyPost_ret (results_none rfl _ _ _) rfl ?_
    exact ⟨⟨_,rfl⟩,.inr ⟨_,⟨k + 1,by omega,(uptoZ_succ _ _ hlt).symm⟩,hJx3⟩⟩
  ·obtain rfl:k = dn:=by omega
   gi_wp2
   go_end0
   have e:uptoZ ⟨N,co,cn,cc,io,k,dc,go,gn,gc,ro,rn,rc,bad,cs,ids,gv,gs,rs⟩ k = List.finRange k:=uptoZ_all _
   rw [e] at hJs
   exact ⟨⟨_,rfl⟩,.inl ⟨_,rfl,hJs⟩⟩
theorem cols_stops (F:Fence) (n:Nat) (hf:F.fn 58) (hro:F.round = none) (hn:1 <= n) (B:Nat) (z:ZD) (hg:z.dn <= z.gn) (we w:World) (hbe:Below we.heap.size we w) (hz:ZR we z)
  (hB:w.heap[B]? = some (.cells #[.int .i64 z.N,.slice z.co z.cn z.cc,.slice z.io z.dn z.dc,.slice z.go z.gn z.gc,.slice z.ro z.rn z.rc,.bool z.bad] 26)) :
  SeqStopsK F n Tryz.prog 58 #[.pointer (some ⟨B,0,none⟩)] (encZ z) (KpZ we.heap.size B) (fun ys=>ys = List.finRange z.dn) (fun pre=>∃ k,k <= z.dn /\ pre = uptoZ z k) z.dn w:=fun l J Jx W hW _ _ hY h0=>
 cols_in F n hf hro hn l B we.heap.size z hg J Jx hY W (kept hW hB) (fun W' hb=>hz.later ((hbe.trans (hW.mono hbe.size)).trans hb)) h0
theorem f64_fmtJ:FloatKind.f64.format = Ieee.double:=rfl
theorem lt0_ord {u:Nat} (hu:Fin u):(FloatKind.f64.format.order u 0 == some Ordering.lt) = decide (srung u < 0):=by
 have ho:=order_rung (x:=u) (y:=0) (Nat.le_of_lt hu) (by decide)
 have hs:srung 0 = 0:=by decide
 rw [f64_fmtJ,ho,hs]
 by_cases h:srung u < 0
 ·rw [Int.compare_eq_lt.2 h,decide_eq_true h];rfl
 ·rw [decide_eq_false h]
  by_cases h2:srung u = 0
  ·rw [Int.compare_eq_eq.2 h2];rfl
  ·rw [Int.compare_eq_gt.2 (by omega)];rfl
def bareB (z:ZD):Bool:=decide (0 <= z.N) && decide (z.N <= 256) && decide (z.cn = 0) && decide (z.dn = 0) && decide (z.gn = 0) && decide (z.rn = 0)
theorem isBare_any (z:ZD) (w:World):Calls Tryz.prog 52 #[.agg #[.int .i64 z.N,.slice z.co z.cn z.cc,.slice z.io z.dn z.dc,.slice z.go z.gn z.gc,.slice z.ro z.rn z.rc,.bool z.bad]] w fun e w'=>e = .returned (.bool (bareB z)) /\ Below w.heap.size w w':=by
 have HB:Hid (∀ x,Below w.heap.size w (w.alloc x)):=fun x=>(Below.refl _ w).alloc (Nat.le_refl _) _
 have HE:Hid (bareB z = (decide (0 <= z.N) && decide (z.N <= 256) && decide (z.cn = 0) && decide (z.dn = 0) && decide (z.gn = 0) && decide (z.rn = 0))):=rfl
 by_cases q0:0 <= z.N
 case neg=>
  have d0:decide (0 <= z.N) = false:=decide_eq_false q0
  have HF:Hid (bareB z = false):=by unfold Hid;rw [HE.out];simp [q0]
  go_enter Tryz.func52,Tryz.ntmps52
  go_wp2_with fail
  go_ret
  exact ⟨by rw [HF.out];rfl,HB.out _⟩
 by_cases q1:z.N <= 256
 case neg=>
  have d0:decide (0 <= z.N) = true:=decide_eq_true q0
  have d1:decide (z.N <= 256) = false:=decide_eq_false q1
  have HF:Hid (bareB z = false):=by unfold Hid;rw [HE.out];simp [q0,q1]
  go_enter Tryz.func52,Tryz.ntmps52
  go_wp2_with fail
  go_ret
  exact ⟨by rw [HF.out];rfl,HB.out _⟩
 by_cases q2:z.cn = 0
 case neg=>
  have d0:decide (0 <= z.N) = true:=decide_eq_true q0
  have d1:decide (z.N <= 256) = true:=decide_eq_true q1
  have d2:((z.cn:Int) == 0) = false:=by simpa using (show ¬ ((z.cn:Nat):Int) = 0 by omega)
  have e2:decide (z.cn = 0) = false:=decide_eq_false q2
  have HF:Hid (bareB z = false):=by unfold Hid;rw [HE.out];simp [q0,q1,q2]
  go_enter Tryz.func52,Tryz.ntmps52
  go_wp2_with fail
  go_ret
  exact ⟨by rw [HF.out];rfl,HB.out _⟩
 by_cases q3:z.dn = 0
 case neg=>
  have d0:decide (0 <= z.N) = true:=decide_eq_true q0
  have d1:decide (z.N <= 256) = true:=decide_eq_true q1
  have e2:z.cn = 0:=q2
  have d3:((z.dn:Int) == 0) = false:=by simpa using (show ¬ ((z.dn:Nat):Int) = 0 by omega)
  have e3:decide (z.dn = 0) = false:=decide_eq_false q3
  have HF:Hid (bareB z = false):=by unfold Hid;rw [HE.out];simp [q0,q1,q2,q3]
  go_enter Tryz.func52,Tryz.ntmps52
  go_wp2_with fail
  go_ret
  exact ⟨by rw [HF.out];rfl,HB.out _⟩
 by_cases q4:z.gn = 0
 case neg=>
  have d0:decide (0 <= z.N) = true:=decide_eq_true q0
  have d1:decide (z.N <= 256) = true:=decide_eq_true q1
  have e2:z.cn = 0:=q2
  have e3:z.dn = 0:=q3
  have d4:((z.gn:Int) == 0) = false:=by simpa using (show ¬ ((z.gn:Nat):Int) = 0 by omega)
  have e4:decide (z.gn = 0) = false:=decide_eq_false q4
  have HF:Hid (bareB z = false):=by unfold Hid;rw [HE.out];simp [q0,q1,q2,q3,q4]
  go_enter Tryz.func52,Tryz.ntmps52
  go_wp2_with fail
  go_ret
  exact ⟨by rw [HF.out];rfl,HB.out _⟩
 by_cases q5:z.rn = 0
 case neg=>
  have d0:decide (0 <= z.N) = true:=decide_eq_true q0
  have d1:decide (z.N <= 256) = true:=decide_eq_true q1
  have e2:z.cn = 0:=q2
  have e3:z.dn = 0:=q3
  have e4:z.gn = 0:=q4
  have d5:((z.rn:Int) == 0) = false:=by simpa using (show ¬ ((z.rn:Nat):Int) = 0 by omega)
  have e5:decide (z.rn = 0) = false:=decide_eq_false q5
  have HF:Hid (bareB z = false):=by unfold Hid;rw [HE.out];simp [q0,q1,q2,q3,q4,q5]
  go_enter Tryz.func52,Tryz.ntmps52
  go_wp2_with fail
  go_ret
  exact ⟨by rw [HF.out];rfl,HB.out _⟩
 have d0:decide (0 <= z.N) = true:=decide_eq_true q0
 have d1:decide (z.N <= 256) = true:=decide_eq_true q1
 have e2:z.cn = 0:=q2
 have e3:z.dn = 0:=q3
 have e4:z.gn = 0:=q4
 have e5:z.rn = 0:=q5
 have HF:Hid (bareB z = true):=by unfold Hid;rw [HE.out];simp [q0,q1,q2,q3,q4,q5]
 go_enter Tryz.func52,Tryz.ntmps52
 go_wp2_with fail
 go_ret
 exact ⟨by rw [HF.out];rfl,HB.out _⟩
attribute [local go_sem] Oper.semAt_some
def idZ (z:ZD) (k:_root_.Fin z.dn):Int:=z.ids[k.val]?.getD 0
def colOk (z:ZD) (last:Int) (k:_root_.Fin z.dn):Bool:=decide (last < idZ z k) && decide (idZ z k <= 1073741824) && numN (z.gs[k.val]?.getD []) z.N
def colsB (z:ZD):Int -> List (_root_.Fin z.dn) -> Bool
 | _,[]=>true
 | last,k :: ks=>colOk z last k && colsB z (idZ z k) ks
def lastZ (z:ZD):Int -> List (_root_.Fin z.dn) -> Int
 | last,[]=>last
 | _,k :: ks=>lastZ z (idZ z k) ks
theorem lastZ_snoc (z:ZD):∀ (ks:List (_root_.Fin z.dn)) (last:Int) (x:_root_.Fin z.dn),lastZ z last (ks ++ [x]) = idZ z x
 | [],_,_=>rfl
 | k :: ks,_,x=>lastZ_snoc z ks _ x
theorem colsB_snoc (z:ZD):∀ (ks:List (_root_.Fin z.dn)) (last:Int) (x:_root_.Fin z.dn),colsB z last (ks ++ [x]) = (colsB z last ks && colOk z (lastZ z last ks) x)
 | [],last,x=>by show (colOk z last x && true) = (true && colOk z last x);simp
 | k :: ks,last,x=>by
  show (colOk z last k && colsB z (idZ z k) (ks ++ [x])) = (colOk z last k && colsB z (idZ z k) ks && colOk z (lastZ z (idZ z k) ks) x)
  rw [colsB_snoc z ks,Bool.and_assoc]
theorem colsB_append (z:ZD):∀ (ks js:List (_root_.Fin z.dn)) (last:Int),colsB z last ks = false -> colsB z last (ks ++ js) = false
 | [],js,last,h=>by cases h
 | k :: ks,js,last,h=>by
  show (colOk z last k && colsB z (idZ z k) (ks ++ js)) = false
  have h':(colOk z last k && colsB z (idZ z k) ks) = false:=h
  rcases Bool.and_eq_false_iff.1 h' with h1 | h1
  ·rw [h1];rfl
  ·rw [colsB_append z ks js _ h1];simp
def posB (rs:List Nat):Bool:=rs.all fun u=>decide (¬ srung u < 0)
def wholeB (z:ZD):Bool:=decide (1 <= z.N) && decide (z.N <= 256) && numN z.cs z.N && numN z.rs z.N && decide (z.dn = z.gn) && posB z.rs && colsB z (-1) (List.finRange z.dn)
theorem resB (f:Func) (i:Nat) (hf:f.results = #[ResultVar.cell i 4]) (tmps:Array Value) (W:World) (B:Nat) (b:Bool) (hp:tmps[i]? = some (.pointer (some ⟨B,0,none⟩))) (h:W.cell? ⟨B,0,none⟩ = some (.bool b)):(results f tmps).run Tryz.prog W = .ok (.bool b) W:=by
 simp [results,hf,hp,go_sem,h,asAddr]
theorem posB_drop (us:List Nat) {k:Nat} (h:k < us.length):posB (us.drop k) = (decide (¬ srung (us[k]?.getD 0) < 0) && posB (us.drop (k + 1))):=by
 unfold posB
 rw [List.drop_eq_getElem_cons h,List.all_cons,List.getElem?_eq_getElem h]
 rfl
theorem numN_fin {us:List Nat} {n:Int} (h:numN us n = true):(us.length:Int) = n /\ ∀ u ∈ us,Fin u:=by
 unfold numN numsB at h
 simp at h
 exact h
theorem cell_setJ {W:World} {p q:Addr} {v u:Value} (hne:p.block ≠ q.block) (h:W.cell? p = some v):(W.setCell q u).cell? p = some v:=by
 have e:(W.setCell q u).heap[p.block]? = W.heap[p.block]?:=heap_setCell_other W q p.block u hne
 unfold World.cell? at h ⊢
 rw [e];exact h
theorem isWhole_any (z:ZD) (w:World) (hz:ZR w z):Calls Tryz.prog 53 #[.agg #[.int .i64 z.N,.slice z.co z.cn z.cc,.slice z.io z.dn z.dc,.slice z.go z.gn z.gc,.slice z.ro z.rn z.rc,.bool z.bad]] w fun e w'=>e = .returned (.bool (wholeB z)) /\ Below w.heap.size w w':=by
 have HZ:Hid (∀ W',Below w.heap.size w W' -> ZR W' z):=fun W' hb=>hz.later hb
 obtain ⟨wb,hwb⟩:∃ wb,wholeB z = wb:=⟨_,rfl⟩
 rw [hwb]
 have HE:Hid (wb = (decide (1 <= z.N) && decide (z.N <= 256) && numN z.cs z.N && numN z.rs z.N && decide (z.dn = z.gn) && posB z.rs && colsB z (-1) (List.finRange z.dn))):=hwb.symm
 have HRL:Hid (z.rs.length = z.rn /\ z.rn <= 9223372036854775807):=⟨hz.r.length,Nat.le_trans hz.r.max maxLen_le⟩
 clear hwb
 clear hz
 obtain ⟨N,co,cn,cc,io,dn,dc,go,gn,gc,ro,rn,rc,bad,cs,ids,gv,gs,rs⟩:=z
 dsimp only at HZ HE HRL ⊢
 have B2:Below w.heap.size w ((w.alloc (.cells #[.int .i64 N,.slice co cn cc,.slice io dn dc,.slice go gn gc,.slice ro rn rc,.bool bad] 26)).alloc (.cells #[.bool false] 4)):=((Below.refl _ w).alloc (Nat.le_refl _) _).alloc (by simp) _
 have ANw:∀ (ao:Option Addr) (len cap:Nat) (us:List Nat) (n:Int) (W:World),RdF W ao len cap us -> CallsIn Fence.wide 2 Tryz.prog 47 #[.slice ao len cap,.int .i64 n] W fun e w'=>e = .returned (.bool (numN us n)) /\ w' = W:=fun ao len cap us n W h=>callsIn_wide.2 (areNumbers_any ao len cap us n W h)
 refine (callsIn_wide (n:=3)).1 ?_
 refine callsIn_of_wp_marks Tryz.func53 rfl trivial ?_ rfl
 simp only [Tryz.ntmps53,List.size_toArray,List.length_cons,List.length_nil,Nat.reduceAdd,Nat.reduceSub,Array.replicate_succ,Array.replicate_zero,List.push_toArray,List.append_toArray,List.nil_append,List.cons_append]
 by_cases q0:1 <= N
 case neg=>
  have d0:decide (N < 1) = true:=decide_eq_true (by omega)
  have HF:Hid (wb = false):=by unfold Hid;rw [HE.out];simp [q0]
  clear ANw
  gi_wp2_with (first | (refine (⟨trivial,?_⟩:Fence.wide.fn 47 /\ _);gi_at_call 47;refine (callsIn_wide.2 (areNumbers_any _ _ _ _ _ _ (by first | exact (HZ.out _ B2).c | exact (HZ.out _ B2).r))).mono ?_;rintro e w' ⟨rfl,rfl⟩) | (refine (⟨trivial,?_⟩:Fence.wide.fn 47 /\ _)))
  show ∃ v:Value,(results _ _).run _ _ = .ok v _ /\ _
  refine ⟨Value.bool false,resB _ 2 (by kernel_rfl) _ _ (w.heap.size + 1) false (by rfl) ?_,?_⟩
  ·exact cellAtJ (heap_at _ _ (w.heap.size + 1) (by simp)) 0 _ rfl
  ·exact ⟨by rw [HF.out],B2⟩
 by_cases q1:N <= 256
 case neg=>
  have d0:decide (N < 1) = false:=decide_eq_false (by omega)
  have d1:decide (256 < N) = true:=decide_eq_true (by omega)
  have HF:Hid (wb = false):=by unfold Hid;rw [HE.out];simp [q0,q1]
  clear ANw
  gi_wp2_with (first | (refine (⟨trivial,?_⟩:Fence.wide.fn 47 /\ _);gi_at_call 47;refine (callsIn_wide.2 (areNumbers_any _ _ _ _ _ _ (by first | exact (HZ.out _ B2).c | exact (HZ.out _ B2).r))).mono ?_;rintro e w' ⟨rfl,rfl⟩) | (refine (⟨trivial,?_⟩:Fence.wide.fn 47 /\ _)))
  show ∃ v:Value,(results _ _).run _ _ = .ok v _ /\ _
  refine ⟨Value.bool false,resB _ 2 (by kernel_rfl) _ _ (w.heap.size + 1) false (by rfl) ?_,?_⟩
  ·exact cellAtJ (heap_at _ _ (w.heap.size + 1) (by simp)) 0 _ rfl
  ·exact ⟨by rw [HF.out],B2⟩
 by_cases q2:numN cs N = true
 case neg=>
  have d0:decide (N < 1) = false:=decide_eq_false (by omega)
  have d1:decide (256 < N) = false:=decide_eq_false (by omega)
  have d2:numN cs N = false:=by simpa using q2
  have HF:Hid (wb = false):=by unfold Hid;rw [HE.out];simp [q0,q1,q2]
  clear ANw
  gi_wp2_with (first | (refine (⟨trivial,?_⟩:Fence.wide.fn 47 /\ _);gi_at_call 47;refine (callsIn_wide.2 (areNumbers_any _ _ _ _ _ _ (by first | exact (HZ.out _ B2).c | exact (HZ.out _ B2).r))).mono ?_;rintro e w' ⟨rfl,rfl⟩) | (refine (⟨trivial,?_⟩:Fence.wide.fn 47 /\ _)))
  show ∃ v:Value,(results _ _).run _ _ = .ok v _ /\ _
  refine ⟨Value.bool false,resB _ 2 (by kernel_rfl) _ _ (w.heap.size + 1) false (by rfl) ?_,?_⟩
  ·exact cellAtJ (heap_at _ _ (w.heap.size + 1) (by simp)) 0 _ rfl
  ·exact ⟨by rw [HF.out],B2⟩
 by_cases q3:numN rs N = true
 case neg=>
  have d0:decide (N < 1) = false:=decide_eq_false (by omega)
  have d1:decide (256 < N) = false:=decide_eq_false (by omega)
  have d2:numN cs N = true:=by simpa using q2
  have d3:numN rs N = false:=by simpa using q3
  have HF:Hid (wb = false):=by unfold Hid;rw [HE.out];simp [q0,q1,q2,q3]
  clear ANw
  gi_wp2_with (first | (refine (⟨trivial,?_⟩:Fence.wide.fn 47 /\ _);gi_at_call 47;refine (callsIn_wide.2 (areNumbers_any _ _ _ _ _ _ (by first | exact (HZ.out _ B2).c | exact (HZ.out _ B2).r))).mono ?_;rintro e w' ⟨rfl,rfl⟩) | (refine (⟨trivial,?_⟩:Fence.wide.fn 47 /\ _)))
  show ∃ v:Value,(results _ _).run _ _ = .ok v _ /\ _
  refine ⟨Value.bool false,resB _ 2 (by kernel_rfl) _ _ (w.heap.size + 1) false (by rfl) ?_,?_⟩
  ·exact cellAtJ (heap_at _ _ (w.heap.size + 1) (by simp)) 0 _ rfl
  ·exact ⟨by rw [HF.out],B2⟩
 by_cases q4:dn = gn
 case neg=>
  have d0:decide (N < 1) = false:=decide_eq_false (by omega)
  have d1:decide (256 < N) = false:=decide_eq_false (by omega)
  have d2:numN cs N = true:=by simpa using q2
  have d3:numN rs N = true:=by simpa using q3
  have d4:((dn:Int) != (gn:Int)) = true:=by simpa using (show ¬ ((dn:Int) = (gn:Int)) by omega)
  have HF:Hid (wb = false):=by unfold Hid;rw [HE.out];simp [q0,q1,q2,q3,q4]
  clear ANw
  gi_wp2_with (first | (refine (⟨trivial,?_⟩:Fence.wide.fn 47 /\ _);gi_at_call 47;refine (callsIn_wide.2 (areNumbers_any _ _ _ _ _ _ (by first | exact (HZ.out _ B2).c | exact (HZ.out _ B2).r))).mono ?_;rintro e w' ⟨rfl,rfl⟩) | (refine (⟨trivial,?_⟩:Fence.wide.fn 47 /\ _)))
  show ∃ v:Value,(results _ _).run _ _ = .ok v _ /\ _
  refine ⟨Value.bool false,resB _ 2 (by kernel_rfl) _ _ (w.heap.size + 1) false (by rfl) ?_,?_⟩
  ·exact cellAtJ (heap_at _ _ (w.heap.size + 1) (by simp)) 0 _ rfl
  ·exact ⟨by rw [HF.out],B2⟩
 have d0:decide (N < 1) = false:=decide_eq_false (by omega)
 have d1:decide (256 < N) = false:=decide_eq_false (by omega)
 have d2:numN cs N = true:=by simpa using q2
 have d3:numN rs N = true:=by simpa using q3
 have d4:((dn:Int) != (gn:Int)) = false:=by simp [q4]
 have HF:Hid (wb = (posB rs && colsB ⟨N,co,cn,cc,io,dn,dc,go,gn,gc,ro,rn,rc,bad,cs,ids,gv,gs,rs⟩ (-1) (List.finRange dn))):=by unfold Hid;rw [HE.out];simp [q0,q1,q2,q3,q4]
 have HQ4:Hid (dn = gn):=q4
 clear HE ANw q4
 gi_wp2_with (first | (refine (⟨trivial,?_⟩:Fence.wide.fn 47 /\ _);gi_at_call 47;refine (callsIn_wide.2 (areNumbers_any _ _ _ _ _ _ (by first | exact (HZ.out _ B2).c | exact (HZ.out _ B2).r))).mono ?_;rintro e w' ⟨rfl,rfl⟩) | (refine (⟨trivial,?_⟩:Fence.wide.fn 47 /\ _)))
 gi_loopw [44] (fun i wr=>∃ k:Nat,k <= rn /\ i = .int .i64 k /\ wr = ((w.alloc (.cells #[.int .i64 N,.slice co cn cc,.slice io dn dc,.slice go gn gc,.slice ro rn rc,.bool bad] 26)).alloc (.cells #[.bool false] 4)) /\ posB (rs.drop k) = posB rs) (fun i _=>rn - (intOf i).toNat)
 case atStart=>exact ⟨0,Nat.zero_le _,rfl,rfl,rfl⟩
 case round=>
  obtain ⟨k,hk,rfl,hw,hps⟩:=hrel
  subst hw
  obtain ⟨hrl,hrm⟩:=HRL.out
  by_cases hlt:k < rn
  ·have hR:=(HZ.out _ B2).r
   dsimp only at hR
   rcases hR.cells with h0' | ⟨b,off,rfl,hc⟩
   ·omega
   have g0:=hc k hlt
   have hfin:=(numN_fin q3).2 _ (getD_mem (us:=rs) (j:=k) (by omega))
   rw [posB_drop rs (by omega)] at hps
   obtain ⟨u,hu⟩:∃ u,rs[k]?.getD 0 = u:=⟨_,rfl⟩
   rw [hu] at g0 hfin hps
   have hlr:=lt0_ord hfin
   clear hc hu hR
   by_cases hs:srung u < 0
   ·rw [decide_eq_true hs] at hlr
    have HF2:Hid (wb = false):=by unfold Hid;rw [HF.out,<- hps];simp [hs]
    clear hps hs hfin
    gi_wp2
    show ∃ v:Value,(results _ _).run _ _ = .ok v _ /\ _
    refine ⟨Value.bool false,resB _ 2 (by kernel_rfl) _ _ (w.heap.size + 1) false (by rfl) ?_,?_⟩
    ·exact cellAtJ (heap_at _ _ (w.heap.size + 1) (by simp)) 0 _ rfl
    ·exact ⟨by rw [HF2.out],B2⟩
   ·rw [decide_eq_false hs] at hlr
    have HP:Hid (posB (rs.drop (k + 1)) = posB rs):=by unfold Hid;rw [<- hps];simp [hs]
    clear hps hs hfin
    gi_wp2
    exact ⟨⟨k + 1,by omega,by simp,trivial,HP.out⟩,by simp [intOf];omega⟩
  ·have hp1:posB rs = true:=by rw [<- hps,List.drop_eq_nil_of_le (by omega)];rfl
   have HF2:Hid (wb = colsB ⟨N,co,cn,cc,io,dn,dc,go,gn,gc,ro,rn,rc,bad,cs,ids,gv,gs,rs⟩ (-1) (List.finRange dn)):=by unfold Hid;rw [HF.out,hp1,Bool.true_and]
   clear hps hp1 HF
   clear B2
   gi_wp2_with (first | (refine (⟨trivial,?_⟩:Fence.wide.fn 32 /\ _);gi_at_call 32;refine (columns_in Fence.wide 2 trivial rfl _ rfl _).mono ?_;rintro e w' ⟨rfl,rfl⟩))
   have X0:(((((w.alloc (.cells #[.int .i64 N,.slice co cn cc,.slice io dn dc,.slice go gn gc,.slice ro rn rc,.bool bad] 26)).alloc (.cells #[.bool false] 4))).alloc (.cells #[.int .i64 (-1)] 3)).alloc (.cells #[.int .i64 N,.slice co cn cc,.slice io dn dc,.slice go gn gc,.slice ro rn rc,.bool bad] 26)).heap[w.heap.size]? = some (.cells #[.int .i64 N,.slice co cn cc,.slice io dn dc,.slice go gn gc,.slice ro rn rc,.bool bad] 26):=alloc_kept (alloc_kept (alloc_kept (heap_alloc_new w _) _) _) _
   have X1:(((((w.alloc (.cells #[.int .i64 N,.slice co cn cc,.slice io dn dc,.slice go gn gc,.slice ro rn rc,.bool bad] 26)).alloc (.cells #[.bool false] 4))).alloc (.cells #[.int .i64 (-1)] 3)).alloc (.cells #[.int .i64 N,.slice co cn cc,.slice io dn dc,.slice go gn gc,.slice ro rn rc,.bool bad] 26)).heap[w.heap.size + 1]? = some (.cells #[.bool false] 4):=alloc_kept (alloc_kept (heap_at _ _ (w.heap.size + 1) (by simp)) _) _
   have X2:(((((w.alloc (.cells #[.int .i64 N,.slice co cn cc,.slice io dn dc,.slice go gn gc,.slice ro rn rc,.bool bad] 26)).alloc (.cells #[.bool false] 4))).alloc (.cells #[.int .i64 (-1)] 3)).alloc (.cells #[.int .i64 N,.slice co cn cc,.slice io dn dc,.slice go gn gc,.slice ro rn rc,.bool bad] 26)).heap[w.heap.size + 1 + 1]? = some (.cells #[.int .i64 (-1)] 3):=alloc_kept (heap_at _ _ (w.heap.size + 1 + 1) (by simp)) _
   have X3:(((((w.alloc (.cells #[.int .i64 N,.slice co cn cc,.slice io dn dc,.slice go gn gc,.slice ro rn rc,.bool bad] 26)).alloc (.cells #[.bool false] 4))).alloc (.cells #[.int .i64 (-1)] 3)).alloc (.cells #[.int .i64 N,.slice co cn cc,.slice io dn dc,.slice go gn gc,.slice ro rn rc,.bool bad] 26)).heap[w.heap.size + 1 + 1 + 1]? = some (.cells #[.int .i64 N,.slice co cn cc,.slice io dn dc,.slice go gn gc,.slice ro rn rc,.bool bad] 26):=heap_at _ _ (w.heap.size + 1 + 1 + 1) (by simp)
   have X4:Below w.heap.size w (((((w.alloc (.cells #[.int .i64 N,.slice co cn cc,.slice io dn dc,.slice go gn gc,.slice ro rn rc,.bool bad] 26)).alloc (.cells #[.bool false] 4))).alloc (.cells #[.int .i64 (-1)] 3)).alloc (.cells #[.int .i64 N,.slice co cn cc,.slice io dn dc,.slice go gn gc,.slice ro rn rc,.bool bad] 26)):=((((Below.refl _ w).alloc (Nat.le_refl _) _).alloc (by simp) _).alloc (by simp;omega) _).alloc (by simp;omega) _
   obtain ⟨X,hX⟩:∃ X,(((((w.alloc (.cells #[.int .i64 N,.slice co cn cc,.slice io dn dc,.slice go gn gc,.slice ro rn rc,.bool bad] 26)).alloc (.cells #[.bool false] 4))).alloc (.cells #[.int .i64 (-1)] 3)).alloc (.cells #[.int .i64 N,.slice co cn cc,.slice io dn dc,.slice go gn gc,.slice ro rn rc,.bool bad] 26)) = X:=⟨_,rfl⟩
   rw [hX] at X0 X1 X2 X3 X4 ⊢
   clear hX
   have hxs:=blk_lt X3
   refine wpIn_rangeFunc_ownF rfl (by decide) (gf:=58) (lb:=#[.pointer (some ⟨w.heap.size + 1 + 1 + 1,0,none⟩)]) rfl trivial (enters_of Tryz.func58 (by kernel_rfl) rfl)
    (cols_stops Fence.wide 2 trivial rfl (by decide) (w.heap.size + 1 + 1 + 1) ⟨N,co,cn,cc,io,dn,dc,go,gn,gc,ro,rn,rc,bad,cs,ids,gv,gs,rs⟩ (Nat.le_of_eq HQ4.out) w X X4 (HZ.out w (Below.refl _ _)) X3) KpZ.trans (kpZ_b X4.size hxs) (Below.refl _ _) (fun _=>rfl)
    (fun pre W=>(W.cell? ⟨w.heap.size,0,none⟩ = some (.int .i64 N) /\ W.cell? ⟨w.heap.size + 1,0,none⟩ = some (.bool false) /\ W.frozen? ⟨w.heap.size + 1,0,none⟩ = false /\ W.cell? ⟨w.heap.size + 1 + 1,0,none⟩ = some (.int .i64 (lastZ ⟨N,co,cn,cc,io,dn,dc,go,gn,gc,ro,rn,rc,bad,cs,ids,gv,gs,rs⟩ (-1) pre)) /\ W.frozen? ⟨w.heap.size + 1 + 1,0,none⟩ = false /\ colsB ⟨N,co,cn,cc,io,dn,dc,go,gn,gc,ro,rn,rc,bad,cs,ids,gv,gs,rs⟩ (-1) pre = true) /\ Below w.heap.size w W)
    (fun c pre W=>(c = .ret /\ W.cell? ⟨w.heap.size + 1,0,none⟩ = some (.bool false) /\ colsB ⟨N,co,cn,cc,io,dn,dc,go,gn,gc,ro,rn,rc,bad,cs,ids,gv,gs,rs⟩ (-1) pre = false) /\ Below w.heap.size w W)
    (OwnFrom.and (Own.from (fun s A B row hs hg hr=>⟨cell_kept hs.1 hg hr,cell_kept hs.2.1 hg hr,(frozen_kept hs.2.1 hg hr).trans hs.2.2.1,cell_kept hs.2.2.2.1 hg hr,(frozen_kept hs.2.2.2.1 hg hr).trans hs.2.2.2.2.1,hs.2.2.2.2.2⟩) _) (ownFrom_below (Nat.le_refl _) X4.size))
    (fun c=>OwnFrom.and (Own.from (fun s A B row hs hg hr=>⟨hs.1,cell_kept hs.2.1 hg hr,hs.2.2⟩) _) (ownFrom_below (Nat.le_refl _) X4.size))
    ⟨⟨cellAtJ X0 0 _ rfl,cellAtJ X1 0 _ rfl,frozen_of_row _ _ 0 _ _ X1,cellAtJ X2 0 _ rfl,frozen_of_row _ _ 0 _ _ X2,rfl⟩,X4⟩
    ?a1 ?assign ?body ?done ?stop
   case assign=>
    intro l x W K hK
    dsimp only [encZ]
    gi_wp2
    exact hK
   case body=>
    rintro l pre x W ⟨⟨h1,h2,h3,h4,h5,h6⟩,hB⟩ hlen
    have hzg:=(HZ.out W hB).g.each x.val (Nat.lt_of_lt_of_le x.isLt (Nat.le_of_eq HQ4.out))
    dsimp only at hzg
    have HG:Hid _:=hzg
    have HC:Hid (colsB ⟨N,co,cn,cc,io,dn,dc,go,gn,gc,ro,rn,rc,bad,cs,ids,gv,gs,rs⟩ (-1) (pre ++ [x]) = colOk ⟨N,co,cn,cc,io,dn,dc,go,gn,gc,ro,rn,rc,bad,cs,ids,gv,gs,rs⟩ (lastZ ⟨N,co,cn,cc,io,dn,dc,go,gn,gc,ro,rn,rc,bad,cs,ids,gv,gs,rs⟩ (-1) pre) x):=by unfold Hid;rw [colsB_snoc,h6,Bool.true_and]
    have HL:Hid (lastZ ⟨N,co,cn,cc,io,dn,dc,go,gn,gc,ro,rn,rc,bad,cs,ids,gv,gs,rs⟩ (-1) (pre ++ [x]) = ids[x.val]?.getD 0):=lastZ_snoc _ _ _ _
    have HO:Hid (colOk ⟨N,co,cn,cc,io,dn,dc,go,gn,gc,ro,rn,rc,bad,cs,ids,gv,gs,rs⟩ (lastZ ⟨N,co,cn,cc,io,dn,dc,go,gn,gc,ro,rn,rc,bad,cs,ids,gv,gs,rs⟩ (-1) pre) x = (decide (lastZ ⟨N,co,cn,cc,io,dn,dc,go,gn,gc,ro,rn,rc,bad,cs,ids,gv,gs,rs⟩ (-1) pre < ids[x.val]?.getD 0) && decide (ids[x.val]?.getD 0 <= 1073741824) && numN (gs[x.val]?.getD []) N)):=rfl
    have H6:Hid _:=h6
    clear hzg h6
    generalize lastZ ⟨N,co,cn,cc,io,dn,dc,go,gn,gc,ro,rn,rc,bad,cs,ids,gv,gs,rs⟩ (-1) pre = la at h4 HC HO
    generalize ids[x.val]?.getD 0 = id at HL HO ⊢
    by_cases p1:id <= la
    ·have d1:decide (id <= la) = true:=decide_eq_true p1
     have HX:Hid (colsB ⟨N,co,cn,cc,io,dn,dc,go,gn,gc,ro,rn,rc,bad,cs,ids,gv,gs,rs⟩ (-1) (pre ++ [x]) = false):=by unfold Hid;rw [HC.out,HO.out];simp [Int.not_lt.2 p1]
     clear HC HO HL H6
     gi_wp2_with (first | (refine (⟨trivial,?_⟩:(Fence.inRound Fence.wide l).fn 47 /\ _);gi_at_call 47;refine (CallsIn.inRound l (callsIn_wide.2 (areNumbers_any _ _ _ _ _ _ HG.out))).mono ?_;rintro e w' ⟨rfl,hw⟩;rw [hw];clear hw) | (refine (⟨trivial,?_⟩:(Fence.inRound Fence.wide l).fn 47 /\ _)))
     exact ⟨KeepsOthers.setCell _ _ _,⟨rfl,World.cell?_setCell_same' _ _ _ (by rw [h2];rfl),HX.out⟩,hB.setCell (p:=⟨w.heap.size + 1,0,none⟩) (by simp) _⟩
    have d1:decide (id <= la) = false:=decide_eq_false p1
    by_cases p2:1073741824 < id
    ·have d2:decide (1073741824 < id) = true:=decide_eq_true p2
     have HX:Hid (colsB ⟨N,co,cn,cc,io,dn,dc,go,gn,gc,ro,rn,rc,bad,cs,ids,gv,gs,rs⟩ (-1) (pre ++ [x]) = false):=by unfold Hid;rw [HC.out,HO.out];simp [Int.not_le.2 p2]
     clear HC HO HL H6
     gi_wp2_with (first | (refine (⟨trivial,?_⟩:(Fence.inRound Fence.wide l).fn 47 /\ _);gi_at_call 47;refine (CallsIn.inRound l (callsIn_wide.2 (areNumbers_any _ _ _ _ _ _ HG.out))).mono ?_;rintro e w' ⟨rfl,hw⟩;rw [hw];clear hw) | (refine (⟨trivial,?_⟩:(Fence.inRound Fence.wide l).fn 47 /\ _)))
     exact ⟨KeepsOthers.setCell _ _ _,⟨rfl,World.cell?_setCell_same' _ _ _ (by rw [h2];rfl),HX.out⟩,hB.setCell (p:=⟨w.heap.size + 1,0,none⟩) (by simp) _⟩
    have d2:decide (1073741824 < id) = false:=decide_eq_false p2
    by_cases p3:numN (gs[x.val]?.getD []) N = true
    case neg=>
     have d3:numN (gs[x.val]?.getD []) N = false:=by simpa using p3
     have HX:Hid (colsB ⟨N,co,cn,cc,io,dn,dc,go,gn,gc,ro,rn,rc,bad,cs,ids,gv,gs,rs⟩ (-1) (pre ++ [x]) = false):=by unfold Hid;rw [HC.out,HO.out];simp [d3]
     clear HC HO HL H6
     gi_wp2_with (first | (refine (⟨trivial,?_⟩:(Fence.inRound Fence.wide l).fn 47 /\ _);gi_at_call 47;refine (CallsIn.inRound l (callsIn_wide.2 (areNumbers_any _ _ _ _ _ _ HG.out))).mono ?_;rintro e w' ⟨rfl,hw⟩;rw [hw];clear hw) | (refine (⟨trivial,?_⟩:(Fence.inRound Fence.wide l).fn 47 /\ _)))
     exact ⟨KeepsOthers.setCell _ _ _,⟨rfl,World.cell?_setCell_same' _ _ _ (by rw [h2];rfl),HX.out⟩,hB.setCell (p:=⟨w.heap.size + 1,0,none⟩) (by simp) _⟩
    have HX:Hid (colsB ⟨N,co,cn,cc,io,dn,dc,go,gn,gc,ro,rn,rc,bad,cs,ids,gv,gs,rs⟩ (-1) (pre ++ [x]) = true):=by unfold Hid;rw [HC.out,HO.out,decide_eq_true (show la < id by omega),decide_eq_true (show id <= 1073741824 by omega),p3];rfl
    clear HC HO H6
    gi_wp2_with (first | (refine (⟨trivial,?_⟩:(Fence.inRound Fence.wide l).fn 47 /\ _);gi_at_call 47;refine (CallsIn.inRound l (callsIn_wide.2 (areNumbers_any _ _ _ _ _ _ HG.out))).mono ?_;rintro e w' ⟨rfl,hw⟩;rw [hw];clear hw) | (refine (⟨trivial,?_⟩:(Fence.inRound Fence.wide l).fn 47 /\ _)))
    exact ⟨KeepsOthers.setCell _ _ _,⟨(Below.refl w.heap.size W).setCell (p:=⟨w.heap.size + 1 + 1,0,none⟩) (by simp;omega) _,heap_setCell_other W ⟨w.heap.size + 1 + 1,0,none⟩ _ _ (by simp)⟩,⟨cell_setJ (by show w.heap.size ≠ w.heap.size + 1 + 1;omega) h1,cell_setJ (by show w.heap.size + 1 ≠ w.heap.size + 1 + 1;omega) h2,by rw [World.frozen?_setCell];exact h3,by rw [HL.out];exact World.cell?_setCell_same' _ _ _ (by rw [h4];rfl),by rw [World.frozen?_setCell];exact h5,HX.out⟩,hB.setCell (p:=⟨w.heap.size + 1 + 1,0,none⟩) (by simp;omega) _⟩
   case done=>
    rintro D ys W hD rfl ⟨⟨h1,h2,h3,h4,h5,h6⟩,hB⟩ hK
    have HT:Hid (wb = true):=HF2.out.trans h6
    gi_wp2
    have hK':=(KeepsOthers.setCell W ⟨w.heap.size + 1,0,none⟩ (.bool true)).same D _ hK rfl
    refine ⟨by simp,.inl ⟨_,_,rfl,run_takeDeferred hK',?_⟩⟩
    have hc5:=cell_kept (World.cell?_setCell_same' W ⟨w.heap.size + 1,0,none⟩ (.bool true) (by rw [h2];rfl)) (grownBy_putObj' _ D (.deferred none)) (fun r e=>by cases e;exact ⟨_,hK',rfl⟩)
    refine ⟨Value.bool true,resB _ 2 (by kernel_rfl) _ _ (w.heap.size + 1) true (by rfl) hc5,by rw [HT.out],(hB.setCell (p:=⟨w.heap.size + 1,0,none⟩) (by simp) _).trans (belowK_b (w:=w) (Nat.le_refl _) _ D _ _ (by have:=X4.size;omega) hK' rfl rfl)⟩
   case stop=>
    rintro D c pre W hD ⟨k,hk,rfl⟩ ⟨⟨rfl,hr,hf⟩,hB⟩ hK
    have HT:Hid (wb = false):=by
     unfold Hid
     rw [HF2.out]
     have e:List.finRange dn = uptoZ ⟨N,co,cn,cc,io,dn,dc,go,gn,gc,ro,rn,rc,bad,cs,ids,gv,gs,rs⟩ k ++ (List.finRange dn).drop k:=(List.take_append_drop k (List.finRange dn)).symm
     rw [e]
     exact colsB_append _ _ _ _ hf
    gi_wp2
    refine ⟨by simp,.inl ⟨_,_,rfl,run_takeDeferred hK,?_⟩⟩
    have hc5:=cell_kept hr (grownBy_putObj' _ D (.deferred none)) (fun r e=>by cases e;exact ⟨_,hK,rfl⟩)
    refine ⟨Value.bool false,resB _ 2 (by kernel_rfl) _ _ (w.heap.size + 1) false (by rfl) hc5,by rw [HT.out],hB.trans (belowK_b (w:=w) (Nat.le_refl _) W D _ _ (by have:=X4.size;omega) hK rfl rfl)⟩
end Go.Proofs.YtmdjoaipkbnelaaGreat
namespace Go.Proofs.YtmdjoaipkbnelaaGreat
open Go.RowKit
def checkB (z:ZD):Bool:=if z.bad then bareB z else wholeB z
theorem cells6 {W:World} {B:Nat} {v0 v1 v2 v3 v4 v5:Value} {t:TypeId} (h:W.heap[B]? = some (.cells #[v0,v1,v2,v3,v4,v5] t)) :
  W.cell? ⟨B,0,none⟩ = some v0 /\ W.cell? ⟨B,1,none⟩ = some v1 /\ W.cell? ⟨B,2,none⟩ = some v2 /\ W.cell? ⟨B,3,none⟩ = some v3 /\ W.cell? ⟨B,4,none⟩ = some v4 /\ W.cell? ⟨B,5,none⟩ = some v5:=
 ⟨cellAtJ h 0 _ rfl,cellAtJ h 1 _ rfl,cellAtJ h 2 _ rfl,cellAtJ h 3 _ rfl,cellAtJ h 4 _ rfl,cellAtJ h 5 _ rfl⟩
theorem check_any (z:ZD) (w:World) (hz:ZR w z):Calls Tryz.prog 29 #[.agg #[.int .i64 z.N,.slice z.co z.cn z.cc,.slice z.io z.dn z.dc,.slice z.go z.gn z.gc,.slice z.ro z.rn z.rc,.bool z.bad]] w fun e w'=>e = .returned (.int .i64 (if checkB z then 0 else 100)) /\ Below w.heap.size w w':=by
 have HZ:Hid (∀ W',Below w.heap.size w W' -> ZR W' z):=fun W' hb=>hz.later hb
 obtain ⟨bb,hbb⟩:∃ bb,bareB z = bb:=⟨_,rfl⟩
 obtain ⟨wb,hwb⟩:∃ wb,wholeB z = wb:=⟨_,rfl⟩
 have HBa:Hid (∀ W,Calls Tryz.prog 52 #[.agg #[.int .i64 z.N,.slice z.co z.cn z.cc,.slice z.io z.dn z.dc,.slice z.go z.gn z.gc,.slice z.ro z.rn z.rc,.bool z.bad]] W fun e w'=>e = .returned (.bool bb) /\ Below W.heap.size W w'):=fun W=>hbb ▸ isBare_any z W
 have HWh:Hid (∀ W,Below w.heap.size w W -> Calls Tryz.prog 53 #[.agg #[.int .i64 z.N,.slice z.co z.cn z.cc,.slice z.io z.dn z.dc,.slice z.go z.gn z.gc,.slice z.ro z.rn z.rc,.bool z.bad]] W fun e w'=>e = .returned (.bool wb) /\ Below W.heap.size W w'):=fun W hb=>hwb ▸ isWhole_any z W (HZ.out W hb)
 have HC:Hid (checkB z = if z.bad then bb else wb):=by unfold Hid checkB;rw [hbb,hwb]
 clear hbb hwb hz HZ
 obtain ⟨N,co,cn,cc,io,dn,dc,go,gn,gc,ro,rn,rc,bad,cs,ids,gv,gs,rs⟩:=z
 dsimp only at HBa HWh HC ⊢
 have X0:Below w.heap.size w (w.alloc (.cells #[.int .i64 N,.slice co cn cc,.slice io dn dc,.slice go gn gc,.slice ro rn rc,.bool bad] 26)):=(Below.refl _ w).alloc (Nat.le_refl _) _
 cases bad with
 | true=>
  cases bb with
  | true=>
   rw [HC.out]
   go_enter Tryz.func29,Tryz.ntmps29
   go_wp2_with (first | (go_at_call 52;refine Calls.mono (HBa.out _) ?_;rintro e w1 ⟨rfl,hb⟩))
   go_ret
   exact ⟨rfl,to_call X0 hb⟩
  | false=>
   rw [HC.out]
   go_enter Tryz.func29,Tryz.ntmps29
   go_wp2_with (first | (go_at_call 52;refine Calls.mono (HBa.out _) ?_;rintro e w1 ⟨rfl,hb⟩;have c5:=(cells6 (kept hb (heap_alloc_new w _))).2.2.2.2.2))
   go_ret
   exact ⟨rfl,to_call X0 hb⟩
 | false=>
  cases wb with
  | true=>
   rw [HC.out]
   go_enter Tryz.func29,Tryz.ntmps29
   go_wp2_with (first | (go_at_call 53;refine Calls.mono (HWh.out _ X0) ?_;rintro e w1 ⟨rfl,hb⟩))
   go_ret
   exact ⟨rfl,to_call X0 hb⟩
  | false=>
   rw [HC.out]
   go_enter Tryz.func29,Tryz.ntmps29
   go_wp2_with (first | (go_at_call 53;refine Calls.mono (HWh.out _ X0) ?_;rintro e w1 ⟨rfl,hb⟩))
   go_ret
   exact ⟨rfl,to_call X0 hb⟩
theorem cells3 {W:World} {B:Nat} {v0 v1 v2:Value} {t:TypeId} (h:W.heap[B]? = some (.cells #[v0,v1,v2] t)) :
  W.cell? ⟨B,0,none⟩ = some v0 /\ W.cell? ⟨B,1,none⟩ = some v1 /\ W.cell? ⟨B,2,none⟩ = some v2:=
 ⟨cell_of_row _ _ 0 _ _ _ h,cell_of_row _ _ 1 _ _ _ h,cell_of_row _ _ 2 _ _ _ h⟩
theorem wpList_store_row {P:Program} {ops:Array Oper} {rest:List Oper} {op:Oper} {a:Act} {w:World} {Q:Exit -> Act -> World -> Prop} (hgd:op.guard = none) (ty:TypeId) (x y:Operand) (ho:op.op = .store ty x y)
  (w0:World) (base B:Nat) (c cur:Array Value) (hx:a.eval x = .pointer (some ⟨B,0,none⟩)) (hy:a.eval y = .agg c) (hB:w.heap[B]? = some (.cells cur ty)) (hb:Below base w0 w) (hbB:base <= B)
  (n:Nat) (hi:(P.info? ty).map (·.size) = some n) (hn:c.size = n) (hc:cur.size = n) (h1:c.all (·.oneCell') = true)
  (h:∀ W,W.heap[B]? = some (.cells c ty) -> Below base w0 W -> W.heap.size = w.heap.size -> (∀ k,k ≠ B -> W.heap[k]? = w.heap[k]?) -> wpList P ops Q rest (a.put op.dst undef) W):wpList P ops Q (op :: rest) a w:=by
 refine wpList_plain hgd fun K hK=>?_
 have hs:=run_storeVar_row (P:=P) _ _ ty ty cur c hB (hn ▸ hi) (hc.trans hn.symm) h1
 unfold Oper.wp execOp
 simp only [ho,hx,hy,Instr.storeAt,Instr.sureAddr,Sem.run_bind,Sem.run_pure,Result.andThen_ok,hs]
 exact hK _ _ (h _ (setRow_heap w B _ _ ty _ hB) (below_setRow hb hbB _) (by simp [World.setRow]) (fun k hk=>setRow_other w B k _ hk))
theorem wpList_store_at {P:Program} {ops:Array Oper} {rest:List Oper} {op:Oper} {a:Act} {w:World} {Q:Exit -> Act -> World -> Prop} (hgd:op.guard = none) (ty:TypeId) (x y:Operand) (ho:op.op = .store ty x y)
  (w0:World) (base B o:Nat) (v:Value) (cur c:Array Value) (t:TypeId) (hx:a.eval x = .pointer (some ⟨B,o,none⟩)) (hy:a.eval y = v) (hB:w.heap[B]? = some (.cells cur t)) (hb:Below base w0 w) (hbB:base <= B)
  (n:Nat) (hi:(P.info? ty).map (·.size) = some n) (hn:v.cells.size = n) (hl:o + n <= cur.size) (h1:∀ u ∈ v.cells.toList,u.oneCell' = true)
  (hc:(cur.toList.take o ++ v.cells.toList ++ cur.toList.drop (o + n)).toArray = c)
  (h:∀ W,W.heap[B]? = some (.cells c t) -> Below base w0 W -> W.heap.size = w.heap.size -> (∀ k,k ≠ B -> W.heap[k]? = w.heap[k]?) -> wpList P ops Q rest (a.put op.dst undef) W):wpList P ops Q (op :: rest) a w:=by
 refine wpList_plain hgd fun K hK=>?_
 have hs:=run_storeCells_at (P:=P) B o t v.cells.toList 0 cur w hB (by simp [hn];omega) h1
 simp only [Nat.add_zero,Array.length_toList,hn] at hs
 rw [hc] at hs
 have hs2:(storeVar ty ⟨B,o,none⟩ v).run P w = .ok () (w.setRow B c):=by
  cases hq:P.info? ty with
  | none=>simp [hq] at hi
  | some i=>
   have hz:v.cells.size = i.size:=by simp [hq] at hi;omega
   simp [storeVar,sizeOf,typeInfo,hq,hz,hs]
 unfold Oper.wp execOp
 simp only [ho,hx,hy,Instr.storeAt,Instr.sureAddr,Sem.run_bind,Sem.run_pure,Result.andThen_ok,hs2]
 exact hK _ _ (h _ (setRow_heap w B _ _ t _ hB) (below_setRow hb hbB _) (by simp [World.setRow]) (fun k hk=>setRow_other w B k _ hk))
theorem wpList_load_row {P:Program} {ops:Array Oper} {rest:List Oper} {op:Oper} {a:Act} {w:World} {Q:Exit -> Act -> World -> Prop} (hgd:op.guard = none) (ty:TypeId) (x:Operand) (ho:op.op = .load ty x)
  (B:Nat) (c:Array Value) (hx:a.eval x = .pointer (some ⟨B,0,none⟩)) (hB:w.heap[B]? = some (.cells c ty)) (d:TypeDesc) (hu:P.underlying ty = some d) (hd:d.isRow = true)
  (n:Nat) (hi:(P.info? ty).map (·.size) = some n) (hn:c.size = n)
  (h:wpList P ops Q rest (a.put op.dst (.agg c)) w):wpList P ops Q (op :: rest) a w:=by
 have hr:w.rangeAt B 0 c.toList:=by
  have:=World.rangeAt_of_block hB 0 c.size
  simpa using this
 refine wpList_load_mid hgd ty x ho B 0 hx c.toList d hr hu hd (by simpa [hn] using hi) ?_
 simpa using h
theorem hopV {P:Program} {ops:Array Oper} {Q:Exit -> Act -> World -> Prop} {i:Nat} {o:Oper} {K:Act -> World -> Prop} {a:Act} {w w':World} (d:Nat) {v:Value} (ho:ops[i]? = some o) (hg:o.guard = none) (hd:o.dst = some d) (hr:(execOp a.eval o).run P w = .ok (.value v) w') (h:K (a.put (some d) v) w'):wpOp P ops Q i K a w:=
 wpOp_step ho fun K' hK=>by
  rw [if_pos (by simp [Region.wanted,hg])]
  unfold Oper.wp
  rw [hr]
  rw [<- hd] at h
  exact hK _ _ h
theorem hopCd {P:Program} {ops:Array Oper} {Q:Exit -> Act -> World -> Prop} {i:Nat} {o:Oper} {K:Act -> World -> Prop} {a:Act} {w:World} {f:FuncId} {args:Array Value} (d:Nat) (ho:ops[i]? = some o) (hw:Region.wanted o (yielded ops a.tmps) = true) (hd:o.dst = some d) (hr:(execOp a.eval o).run P w = .ok (.enter f args) w) (hc:Calls P f args w fun e w''=>∃ v,e = .returned v /\ K (a.put (some d) v) w''):wpOp P ops Q i K a w:=
 wpOp_step ho fun K' hK=>by
  rw [if_pos hw]
  unfold Oper.wp
  rw [hr,Oper.upon_enter]
  refine Calls.mono hc ?_
  rintro e w'' ⟨v,rfl,h⟩
  rw [<- hd] at h
  exact hK _ _ h
theorem consH {P:Program} {md:Region.Mode} {ops:Array Oper} {Q:Exit -> Act -> World -> Prop} {S:World -> Prop} {fuel:Nat} {listed:Array Bool} {a:Act} {w:World} {i:Nat} {rs:List Nat} (l':Array Bool) (hl:listed.setIfInBounds i true = l')
  (h:wpOp P ops Q i (fun a' w'=>S w' /\ wpAnyH P md ops Q S fuel l' a' w') a w) (hs:AllReadyH P md ops Q S fuel listed a w rs):AllReadyH P md ops Q S fuel listed a w (i :: rs):=by
 subst hl
 intro j hj
 rcases List.mem_cons.1 hj with rfl | hj
 ·exact h
 ·exact hs j hj
theorem takeH {P:Program} {md:Region.Mode} {ops:Array Oper} {Q:Exit -> Act -> World -> Prop} {S:World -> Prop} (d:Nat) {i:Nat} {oi:Oper} {v:Value} {fuel:Nat} {listed:Array Bool} {a:Act} {w:World} (hi:ops[i]? = some oi) (hd:oi.dst = some d)
  (hs:Region.noSelect ops = true) (hf:Region.free md ops listed i = true) (hr:(Region.ready md ops listed).contains i = true)
  (hQ:∀ c a w,Q (.panic c) (a.put (some d) v) w -> Q (.panic c) a w) (hy:YieldsIf P ops S oi v a) (hS:S w)
  (h:wpAnyH P md ops Q S fuel (listed.setIfInBounds i true) (a.put (some d) v) w):wpAnyH P md ops Q S (fuel + 1) listed a w:=
 wpAnyH_take hi hs hf hr (by rw [hd];exact hQ) hy hS (by rw [hd];exact h)
theorem tzH {P : Program} {md : Region.Mode} {ops : Array Oper} {Q : Exit -> Act -> World -> Prop} {S : World -> Prop} (d i : Nat) (v : Value) {oi : Oper} {fuel : Nat} {listed : Array Bool} {a : Act} {w : World} (hy : YieldsIf P ops S oi v a) (hS : S w) (h : wpAnyH P md ops Q S fuel (listed.setIfInBounds i true) (a.put (some d) v) w)
    (hi:ops[i]? = some oi:=by rfl) (hd:oi.dst = some d:=by rfl) (hs:Region.noSelect ops = true:=by kernel_rfl) (hf:Region.free md ops listed i = true:=by kernel_rfl) (hr:(Region.ready md ops listed).contains i = true:=by kernel_rfl) (hQ:∀ c a w,Q (.panic c) (a.put (some d) v) w -> Q (.panic c) a w:=by exact fun _ _ _ h=>h):wpAnyH P md ops Q S (fuel + 1) listed a w:=takeH d hi hd hs hf hr hQ hy hS h
theorem tzI {P : Program} {md : Region.Mode} {ops : Array Oper} {Q : Exit -> Act -> World -> Prop} {S : World -> Prop} (d i : Nat) (v : Value) {oi : Oper} {fuel : Nat} {listed : Array Bool} {a : Act} {w : World} (hz : ∀ w, S w -> (execOp a.eval oi).run P w = .ok (.value v) w) (hS : S w) (h : wpAnyH P md ops Q S fuel (listed.setIfInBounds i true) (a.put (some d) v) w)
    (hi:ops[i]? = some oi:=by rfl) (hd:oi.dst = some d:=by rfl) (hs:Region.noSelect ops = true:=by kernel_rfl) (hf:Region.free md ops listed i = true:=by kernel_rfl) (hr:(Region.ready md ops listed).contains i = true:=by kernel_rfl) (hQ:∀ c a w,Q (.panic c) (a.put (some d) v) w -> Q (.panic c) a w:=by exact fun _ _ _ h=>h) (hw:Region.wanted oi (yielded ops a.tmps) = true:=by kernel_rfl):wpAnyH P md ops Q S (fuel + 1) listed a w:=takeH d hi hd hs hf hr hQ (Or.inl ⟨hw,hz⟩) hS h
theorem rzH {P:Program} {md:Region.Mode} {ops:Array Oper} {Q:Exit -> Act -> World -> Prop} {S:World -> Prop} (rs:List Nat) {fuel:Nat} {listed:Array Bool} {a:Act} {w:World} (h:AllReadyH P md ops Q S fuel listed a w rs) (hr:Region.ready md ops listed = rs:=by kernel_rfl) (hne:rs ≠ []:=by simp):wpAnyH P md ops Q S (fuel + 1) listed a w:=wpAnyH_ready hr hne h
theorem hzC {P:Program} {ops:Array Oper} {Q:Exit -> Act -> World -> Prop} {i:Nat} {o:Oper} {K:Act -> World -> Prop} {a:Act} {w:World} {f:FuncId} {args:Array Value} (d:Nat) (hc:Calls P f args w fun e w''=>∃ v,e = .returned v /\ K (a.put (some d) v) w'') (ho:ops[i]? = some o:=by rfl) (hw:Region.wanted o (yielded ops a.tmps) = true:=by kernel_rfl) (hd:o.dst = some d:=by rfl) (hr:(execOp a.eval o).run P w = .ok (.enter f args) w:=by kernel_rfl):wpOp P ops Q i K a w:=hopCd d ho hw hd hr hc
def QK (Q:Exit -> Act -> World -> Prop) (K:Act -> World -> Prop):Exit -> Act -> World -> Prop
 | .normal=>K
 | .exit i=>Q (.exit i)
 | .goto l=>Q (.goto l)
 | .ret=>Q .ret
 | .panic c=>Q (.panic c)
 | .outgrown=>Q .outgrown
theorem upon_QK {P:Program} {o:Oper} {a:Act} {next:Act -> World -> Prop} {Q:Exit -> Act -> World -> Prop} {K:Act -> World -> Prop} (r:Result Next) (h:o.upon P a next (QK Q K) r):o.upon P a next Q r:=by
 cases r with
 | ok n w=>cases n <;> exact h
 | halt s w=>cases s <;> exact h
theorem hopL {P:Program} {ops:Array Oper} {Q:Exit -> Act -> World -> Prop} {i:Nat} {o:Oper} {K:Act -> World -> Prop} {a:Act} {w:World} (ho:ops[i]? = some o) (h:wpList P ops (QK Q K) [o] a w):wpOp P ops Q i K a w:=by
 unfold wpOp
 rw [ho]
 unfold wpList at h
 show if Region.wanted o (yielded ops a.tmps) = true then _ else _
 split
 ·rename_i hw
  rw [if_pos hw] at h
  rcases h with h | h
  ·exact .inl (upon_QK _ h)
  ·exact .inr ⟨h.1,h.2⟩
 ·rename_i hw
  rw [if_neg hw] at h
  exact h
theorem ex_alloc {P:Program} {ρ:Operand -> Value} (o:Oper) (t:TypeId) (ho:o.op = .alloc t) (v:Value) (w w':World) (h:(Instr.alloc t true (.tuple #[])).run P w = .ok v w'):(execOp ρ o).run P w = .ok (.value v) w':=by
 unfold execOp
 simp only [ho,h,Sem.run_bind,Sem.run_pure,Result.andThen_ok]
theorem Tryz.infoZ:(Tryz.prog.info? 26).map (·.size) = some 6:=by kernel_rfl
theorem oneZ (N:Int) (a b c d:Value) (h1:a.oneCell' = true) (h2:b.oneCell' = true) (h3:c.oneCell' = true) (h4:d.oneCell' = true) (x:Bool):(#[.int .i64 N,a,b,c,d,.bool x]:Array Value).all (·.oneCell') = true:=by
 simp only [Array.all_eq_true_iff_forall_mem]
 intro v hv
 simp only [List.mem_toArray,List.mem_cons,List.not_mem_nil,or_false] at hv
 rcases hv with rfl | rfl | rfl | rfl | rfl | rfl <;> first | rfl | assumption
theorem res_oneJ (f:Func) (i:Nat) (ty:TypeId) (hf:f.results = #[ResultVar.cell i ty]) (tmps:Array Value) (W:World) (B:Nat) (c:Array Value) (hp:tmps[i]? = some (.pointer (some ⟨B,0,none⟩)))
  (d:TypeDesc) (hu:Tryz.prog.underlying ty = some d) (hd:d.isRow = true) (n:Nat) (hi:(Tryz.prog.info? ty).map (·.size) = some n) (hc:c.size = n) (h:W.heap[B]? = some (.cells c ty)):(results f tmps).run Tryz.prog W = .ok (.agg c) W:=by
 have hr:W.rangeAt B 0 c.toList:=by
  have:=World.rangeAt_of_block h 0 c.size
  simpa using this
 have hl:=run_loadVar_mid (P:=Tryz.prog) W B 0 ty c.toList d hr hu hd (by rw [hi];simp [hc])
 have hl2:(loadVar ty ⟨B,0,none⟩).run Tryz.prog W = .ok (.agg c) W:=by simpa using hl
 simp [results,hf,hp,hl2,asAddr]
theorem badZ_any (n:Int) (w:World):Calls Tryz.prog 18 #[.int .i64 n] w fun e w'=>e = .returned (.agg #[.int .i64 n,.slice none 0 0,.slice none 0 0,.slice none 0 0,.slice none 0 0,.bool true]) /\ Below w.heap.size w w':=by
 go_enter Tryz.func18,Tryz.ntmps18
 go_wp2_with (first | (refine wpList_store_row (by rfl) 26 _ _ (by rfl) w w.heap.size w.heap.size _ _ (by rfl) (by rfl) (heap_alloc_new w _) ((Below.refl _ w).alloc (Nat.le_refl _) _) (Nat.le_refl _) 6 Tryz.infoZ (by rfl) (by rfl) (oneZ _ _ _ _ _ rfl rfl rfl rfl _) ?_;intro W9 e9 b9 s9 o9))
 exact bodyPost_ret (res_oneJ _ 2 26 (by kernel_rfl) _ _ w.heap.size _ (by rfl) _ Tryz.underlying26 rfl 6 Tryz.infoZ rfl e9) rfl ⟨rfl,b9⟩
theorem taken_ok (z:ZD) (w:World) (hz:ZR w z) (hc:checkB z = true):Calls Tryz.prog 16 #[.agg #[.int .i64 z.N,.slice z.co z.cn z.cc,.slice z.io z.dn z.dc,.slice z.go z.gn z.gc,.slice z.ro z.rn z.rc,.bool z.bad]] w fun e w'=>e = .returned (.agg #[.int .i64 z.N,.slice z.co z.cn z.cc,.slice z.io z.dn z.dc,.slice z.go z.gn z.gc,.slice z.ro z.rn z.rc,.bool z.bad]) /\ Below w.heap.size w w':=by
 have HC:Hid (∀ W,Below w.heap.size w W -> Calls Tryz.prog 29 #[.agg #[.int .i64 z.N,.slice z.co z.cn z.cc,.slice z.io z.dn z.dc,.slice z.go z.gn z.gc,.slice z.ro z.rn z.rc,.bool z.bad]] W fun e w'=>e = .returned (.int .i64 0) /\ Below W.heap.size W w'):=fun W hb=>by have:=check_any z W (hz.later hb);rw [hc] at this;exact this
 clear hz hc
 have X0:Below w.heap.size w ((w.alloc (.cells #[.int .i64 z.N,.slice z.co z.cn z.cc,.slice z.io z.dn z.dc,.slice z.go z.gn z.gc,.slice z.ro z.rn z.rc,.bool z.bad] 26)).alloc (.cells #[.int .i64 0,.slice none 0 0,.slice none 0 0,.slice none 0 0,.slice none 0 0,.bool false] 26)):=((Below.refl _ w).alloc (Nat.le_refl _) _).alloc (by simp only [alloc_size];omega) _
 go_enter Tryz.func16,Tryz.ntmps16
 go_wp2_with fail
 refine Calls.mono (HC.out _ X0) ?_
 rintro e w1 ⟨rfl,hb⟩
 have B1:Hid (Below w.heap.size w w1):=to_call X0 hb
 have k0:=kept hb (alloc_kept (heap_alloc_new w _) _)
 have k1:=kept hb (heap_at _ _ (w.heap.size + 1) (by simp only [alloc_size]))
 have K:Hid _:=And.intro k0 k1
 clear hb k0 k1 X0 HC
 go_wp2_with (first
  | (refine wpList_load_row (by rfl) 26 _ (by rfl) w.heap.size _ (by rfl) K.out.1 _ Tryz.underlying26 rfl 6 Tryz.infoZ (by rfl) ?_)
  | (refine wpList_store_row (by rfl) 26 _ _ (by rfl) w w.heap.size (w.heap.size + 1) _ _ (by rfl) (by rfl) K.out.2 B1.out (by omega) 6 Tryz.infoZ (by rfl) (by rfl) (oneZ _ _ _ _ _ rfl rfl rfl rfl _) ?_;intro W9 e9 b9 s9 o9))
 exact bodyPost_ret (res_oneJ _ 2 26 (by kernel_rfl) _ _ (w.heap.size + 1) _ (by rfl) _ Tryz.underlying26 rfl 6 Tryz.infoZ rfl e9) rfl ⟨rfl,b9⟩
theorem taken_no (z:ZD) (w:World) (hz:ZR w z) (hc:checkB z = false):Calls Tryz.prog 16 #[.agg #[.int .i64 z.N,.slice z.co z.cn z.cc,.slice z.io z.dn z.dc,.slice z.go z.gn z.gc,.slice z.ro z.rn z.rc,.bool z.bad]] w fun e w'=>e = .returned (.agg #[.int .i64 0,.slice none 0 0,.slice none 0 0,.slice none 0 0,.slice none 0 0,.bool true]) /\ Below w.heap.size w w':=by
 have HC:Hid (∀ W,Below w.heap.size w W -> Calls Tryz.prog 29 #[.agg #[.int .i64 z.N,.slice z.co z.cn z.cc,.slice z.io z.dn z.dc,.slice z.go z.gn z.gc,.slice z.ro z.rn z.rc,.bool z.bad]] W fun e w'=>e = .returned (.int .i64 100) /\ Below W.heap.size W w'):=fun W hb=>by have:=check_any z W (hz.later hb);rw [hc] at this;exact this
 clear hz hc
 have X0:Below w.heap.size w ((w.alloc (.cells #[.int .i64 z.N,.slice z.co z.cn z.cc,.slice z.io z.dn z.dc,.slice z.go z.gn z.gc,.slice z.ro z.rn z.rc,.bool z.bad] 26)).alloc (.cells #[.int .i64 0,.slice none 0 0,.slice none 0 0,.slice none 0 0,.slice none 0 0,.bool false] 26)):=((Below.refl _ w).alloc (Nat.le_refl _) _).alloc (by simp only [alloc_size];omega) _
 go_enter Tryz.func16,Tryz.ntmps16
 go_wp2_with fail
 refine Calls.mono (HC.out _ X0) ?_
 rintro e w1 ⟨rfl,hb⟩
 have B1:Hid (Below w.heap.size w w1):=to_call X0 hb
 have k0:=kept hb (alloc_kept (heap_alloc_new w _) _)
 have k1:=kept hb (heap_at _ _ (w.heap.size + 1) (by simp only [alloc_size]))
 have K:Hid _:=And.intro k0 k1
 clear hb k0 k1 X0 HC
 go_wp2_with (first
  | (go_at_call 18;refine Calls.mono (badZ_any 0 _) ?_;rintro e w2 ⟨rfl,hb2⟩)
  | (refine wpList_store_row (by rfl) 26 _ _ (by rfl) w w.heap.size (w.heap.size + 1) _ _ (by rfl) (by rfl) (kept hb2 K.out.2) (to_call B1.out hb2) (by omega) 6 Tryz.infoZ (by rfl) (by rfl) (oneZ _ _ _ _ _ rfl rfl rfl rfl _) ?_;intro W9 e9 b9 s9 o9))
 exact bodyPost_ret (res_oneJ _ 2 26 (by kernel_rfl) _ _ (w.heap.size + 1) _ (by rfl) _ Tryz.underlying26 rfl 6 Tryz.infoZ rfl e9) rfl ⟨rfl,b9⟩
structure Rd4 (w:World) (ao:Option Addr) (len cap:Nat) (xs:List Nat):Prop where
 length:xs.length = len
 le:len <= cap
 max:cap <= 1000000
 lt:U4 xs
 nil:ao = none -> cap = 0
 cells:len = 0 \/ ∃ b off,ao = some ⟨b,off,none⟩ /\ ∀ j,j < len -> w.cell? ⟨b,off + j,none⟩ = some (.int .u32 ((xs[j]?.getD 0:Nat):Int))
theorem Rd4.later {w w':World} {ao:Option Addr} {len cap:Nat} {xs:List Nat} (h:Rd4 w ao len cap xs) (hb:Below w.heap.size w w'):Rd4 w' ao len cap xs:=by
 refine ⟨h.length,h.le,h.max,h.lt,h.nil,?_⟩
 rcases h.cells with h0 | ⟨b,off,ha,hc⟩
 ·exact .inl h0
 ·refine .inr ⟨b,off,ha,fun j hj=>?_⟩
  have hl:=World.block_lt_of_cell? w _ (hc j hj)
  rw [hb.cell (p:=⟨b,off + j,none⟩) hl]
  exact hc j hj
theorem Rd4.none (w:World):Rd4 w none 0 0 []:=⟨rfl,Nat.le_refl _,by decide,(fun _ h=>by cases h),fun _=>rfl,.inl rfl⟩
theorem Rd4.cut {W:World} {ao:Option Addr} {len cap:Nat} {xs:List Nat} (hr:Rd4 W ao len cap xs) (q:Nat) (hq:q <= len) :
  Rd4 W (if cap = 0 then ao else ao.map (·.add (0 * 1))) q cap (xs.take q):=by
 have hl:=hr.length
 refine ⟨by simp [hl];omega,by have:=hr.le;omega,hr.max,hr.lt.take q,?_,?_⟩
 ·intro h
  split at h
  ·assumption
  ·cases ao with
   | none=>exact hr.nil rfl
   | some a=>simp at h
 ·by_cases h0:q = 0
  ·exact .inl h0
  ·right
   rcases hr.cells with h1 | ⟨b,off,rfl,hc⟩
   ·omega
   ·refine ⟨b,off,?_,fun j hj=>?_⟩
    ·have:=hr.le;rw [if_neg (by omega),Option.map_some,Addr.add_lit,Nat.zero_mul,Nat.add_zero]
    ·rw [hc j (by omega),List.getElem?_take,if_pos (by omega)]
def v4 (x:Nat):Value:=.int .u32 (x:Int)
def Own4 (w:World) (base g n:Nat) (xs:List Nat):Prop:=xs.length = n /\ w.ownsRow base 157 1 (.slice (some ⟨g,0,none⟩) n n) n (xs.map v4)
theorem Own4.cell {w:World} {base g n:Nat} {xs:List Nat} (h:Own4 w base g n xs) (j:Nat) (hj:j < n):w.cell? ⟨g,j,none⟩ = some (.int .u32 ((xs[j]?.getD 0:Nat):Int)):=by
 rw [World.ownsRow.cellAt h.2 j (by omega),List.getElem?_map,List.getElem?_eq_getElem (by rw [h.1];exact hj)]
 rfl
theorem Own4.frozen {w:World} {base g n:Nat} {xs:List Nat} (h:Own4 w base g n xs) (j:Nat):w.frozen? ⟨g,j,none⟩ = false:=World.ownsRow.frozenAt h.2 j
theorem Own4.set {w:World} {base g n:Nat} {xs:List Nat} (h:Own4 w base g n xs) (j x:Nat):Own4 (w.setCell ⟨g,j,none⟩ (.int .u32 (x:Int))) base g n (xs.set j x):=by
 refine ⟨by rw [List.length_set];exact h.1,?_⟩
 rw [List.map_set]
 exact (World.ownsRow.stored h.2 j (v4 x)).1
theorem Own4.base {w:World} {base g n:Nat} {xs:List Nat} (h:Own4 w base g n xs):base <= g:=by
 rcases h.2.2 with ⟨h1,_⟩ | ⟨g2,cap2,cur2,hv,hg2,_⟩
 ·simp at h1
 ·simp only [Value.slice.injEq,Option.some.injEq,Addr.mk.injEq,and_true,true_and] at hv
  obtain ⟨rfl,rfl⟩:=hv
  exact hg2
theorem Own4.rd {w:World} {base g n:Nat} {xs:List Nat} (h:Own4 w base g n xs) (hu:U4 xs) (hn:n <= 1000000):Rd4 w (some ⟨g,0,none⟩) n n xs:=
 ⟨h.1,Nat.le_refl _,hn,hu,(fun h=>by cases h),.inr ⟨g,0,rfl,fun j hj=>by rw [Nat.zero_add];exact h.cell j hj⟩⟩
def nz (m:Nat):Bool:=m != 0
end Go.Proofs.YtmdjoaipkbnelaaGreat
