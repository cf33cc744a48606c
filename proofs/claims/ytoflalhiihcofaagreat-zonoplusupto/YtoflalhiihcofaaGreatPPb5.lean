import Derived.Test.YtoflalhiihcofaaGreatPPb4
set_option maxRecDepth 100000
set_option maxHeartbeats 4000000
set_option linter.unusedVariables false
set_option linter.unusedSimpArgs false
namespace Go.Proofs.YtoflalhiihcofaaGreat
open Go.RowKit
theorem alloc3_facts (w:World) (o1 o2 o3:Obj):(((w.alloc o1).alloc o2).alloc o3).heap[w.heap.size]? = some o1 /\ (((w.alloc o1).alloc o2).alloc o3).heap[w.heap.size + 1]? = some o2 /\ (((w.alloc o1).alloc o2).alloc o3).heap[w.heap.size + 1 + 1]? = some o3 /\ (((w.alloc o1).alloc o2).alloc o3).heap.size = w.heap.size + 3 /\ Below w.heap.size w (((w.alloc o1).alloc o2).alloc o3):=by
 have e1:=heap_alloc_new w o1
 have e2:=heap_alloc_new (w.alloc o1) o2
 have e3:=heap_alloc_new ((w.alloc o1).alloc o2) o3
 rw [show (w.alloc o1).heap.size = w.heap.size + 1 by simp] at e2
 rw [show ((w.alloc o1).alloc o2).heap.size = w.heap.size + 1 + 1 by simp] at e3
 refine ⟨?_,?_,e3,by simp,(((Below.refl _ _).alloc (Nat.le_refl _) _).alloc (by simp) _).alloc (by simp;omega) _⟩
 ·rw [Below.heap_alloc _ _ _ (by simp;omega),Below.heap_alloc _ _ _ (by simp),e1]
 ·rw [Below.heap_alloc _ _ _ (by simp),e2]
theorem level_bounds {mx:Nat} {ex:Int} {my:Nat} {ey:Int} {A B:Nat} {e:Int} (hL:LevelOf mx ex my ey A B e) (hex:-20000 <= ex /\ ex <= 20000) (hey:-20000 <= ey /\ ey <= 20000) (hbx:bl mx <= 40000) (hby:bl my <= 40000) :
  bl A <= 80000 /\ bl B <= 80000 /\ (mx = 0 -> A = 0) /\ (mx ≠ 0 -> A ≠ 0) /\ (mx ≠ 0 -> my = 0 -> B = 0) /\ (mx ≠ 0 -> my ≠ 0 -> B ≠ 0):=by
 rcases hL with ⟨h,hA,hB,he⟩ | ⟨h,h2,hA,hB,he⟩ | ⟨h1,h2,he,hA,hB⟩
 ·subst hA hB
  exact ⟨by rw [bl_zero];omega,by omega,fun _=>rfl,fun c=>absurd h c,fun c=>absurd h c,fun c=>absurd h c⟩
 ·subst hA hB
  exact ⟨by omega,by rw [bl_zero];omega,fun c=>c,fun c=>c,fun _ _=>rfl,fun _ c=>absurd h2 c⟩
 ·have b1:=bl_mul_pow mx (ex - e).toNat
  have b2:=bl_mul_pow my (ey - e).toNat
  rw [<- hA] at b1
  rw [<- hB] at b2
  refine ⟨by omega,by omega,fun c=>absurd c h1,fun _=>?_,fun _ c=>absurd c h2,fun _ _=>?_⟩
  ·rw [hA];exact Nat.mul_ne_zero h1 (by have:=Nat.two_pow_pos (ex - e).toNat;omega)
  ·rw [hB];exact Nat.mul_ne_zero h2 (by have:=Nat.two_pow_pos (ey - e).toNat;omega)
theorem out_facts {w w2 w4:World} {nx:Bool} {e:Int} (M:Value) (hsz:w.heap.size + 3 <= w2.heap.size) (q2:w2.heap[w.heap.size + 1 + 1]? = some (Obj.cells #[Value.bool false,Value.slice none 0 0,Value.int IntKind.i64 0] 46)) (hb4:Below (w2.alloc (Obj.cells #[Value.bool nx,Value.slice none 0 0,Value.int IntKind.i64 e] 46)).heap.size (w2.alloc (Obj.cells #[Value.bool nx,Value.slice none 0 0,Value.int IntKind.i64 e] 46)) w4) :
  w4.heap[w2.heap.size]? = some (Obj.cells #[Value.bool nx,Value.slice none 0 0,Value.int IntKind.i64 e] 46) /\ w4.heap[w.heap.size + 1 + 1]? = some (Obj.cells #[Value.bool false,Value.slice none 0 0,Value.int IntKind.i64 0] 46) ∧
  (w4.setCell ⟨w2.heap.size,1,none⟩ M).heap[w2.heap.size]? = some (Obj.cells #[Value.bool nx,M,Value.int IntKind.i64 e] 46) /\ (w4.setCell ⟨w2.heap.size,1,none⟩ M).heap[w.heap.size + 1 + 1]? = some (Obj.cells #[Value.bool false,Value.slice none 0 0,Value.int IntKind.i64 0] 46):=by
 have h1:w4.heap[w2.heap.size]? = some (Obj.cells #[Value.bool nx,Value.slice none 0 0,Value.int IntKind.i64 e] 46):=(hb4.block w2.heap.size (by simp)).trans (heap_alloc_new w2 _)
 have h2:w4.heap[w.heap.size + 1 + 1]? = some (Obj.cells #[Value.bool false,Value.slice none 0 0,Value.int IntKind.i64 0] 46):=by
  rw [hb4.block (w.heap.size + 1 + 1) (by simp;omega),Below.heap_alloc _ _ _ (by omega)];exact q2
 refine ⟨h1,h2,heap_setCell_same _ _ 1 _ _ M h1,?_⟩
 rw [heap_setCell_other _ _ _ _ (by show w.heap.size + 1 + 1 ≠ w2.heap.size;omega)];exact h2
theorem plusV_any (v u:Value) (nx ny:Bool) (mx my:Nat) (ex ey:Int) (w:World) (hx:NumV w v nx mx ex) (hy:NumV w u ny my ey) (hex:-20000 <= ex /\ ex <= 20000) (hey:-20000 <= ey /\ ey <= 20000) (hbx:bl mx <= 40000) (hby:bl my <= 40000) :
  Calls Tryz.prog 14 #[v,u] w fun e' w'=>PlusRes nx mx ex ny my ey w e' w':=by
 obtain ⟨ao,len,cap,xs,rfl,hr,hnm,hm⟩:=hx
 obtain ⟨bo,blen,bcap,ys,rfl,hr2,hnm2,hm2⟩:=hy
 obtain ⟨p0,p1,p2,pz,pb⟩:=alloc3_facts w (Obj.cells #[Value.bool nx,Value.slice ao len cap,Value.int IntKind.i64 ex] 46) (Obj.cells #[Value.bool ny,Value.slice bo blen bcap,Value.int IntKind.i64 ey] 46) (Obj.cells #[Value.bool false,Value.slice none 0 0,Value.int IntKind.i64 0] 46)
 have P0:Hid _:=p0
 have P1:Hid _:=p1
 have P2:Hid _:=p2
 have PZ:Hid _:=pz
 have PB:Hid _:=pb
 have HR:Hid _:=hr
 have HR2:Hid _:=hr2
 clear p0 p1 p2 pz pb hr hr2
 go_enter Tryz.func14,Tryz.ntmps14
 go_wp2_with fail
 refine (level_any _ _ nx ny mx my ex ey _ ⟨ao,len,cap,xs,rfl,HR.out.later PB.out,hnm,hm⟩ ⟨bo,blen,bcap,ys,rfl,HR2.out.later PB.out,hnm2,hm2⟩ hex hey (by omega) (by omega)).mono ?_
 rintro e2 w2 ⟨a1,l1,c1,xs1,a2,l2,c2,ys1,A,B,e,rfl,r1,r2,n1,n2,d1,d2,hL,hb2⟩
 have q0:=(hb2.block w.heap.size (by rw [PZ.out];omega)).trans P0.out
 have q1:=(hb2.block (w.heap.size + 1) (by rw [PZ.out];omega)).trans P1.out
 have q2:=(hb2.block (w.heap.size + 1 + 1) (by rw [PZ.out];omega)).trans P2.out
 have hsz:w.heap.size + 3 <= w2.heap.size:=by have:=hb2.size;rw [PZ.out] at this;exact this
 have HB2:Hid (Below w.heap.size w w2):=PB.out.trans (hb2.mono (by rw [PZ.out];omega))
 have R1:Hid _:=r1
 have R2:Hid _:=r2
 have HL:Hid (LevelOf mx ex my ey A B e):=hL
 obtain ⟨bA,bB,zA,nA,zB,nB⟩:=level_bounds hL hex hey hbx hby
 have hl1:l1 <= 10000:=by have:=len_bl r1.length r1.lt n1;rw [d1] at this;omega
 have hl2:l2 <= 10000:=by have:=len_bl r2.length r2.lt n2;rw [d2] at this;omega
 have lz1:=len_zero r1.length r1.lt n1
 have lz2:=len_zero r2.length r2.lt n2
 rw [d1] at lz1
 rw [d2] at lz2
 clear r1 r2 hL hb2
 have x0:=(three_cells q0).1
 have HB3:Hid (Below w.heap.size w (w2.alloc (Obj.cells #[Value.bool nx,Value.slice none 0 0,Value.int IntKind.i64 e] 46))):=HB2.out.alloc HB2.out.size _
 have o0:(w2.alloc (Obj.cells #[Value.bool nx,Value.slice none 0 0,Value.int IntKind.i64 e] 46)).heap[w.heap.size]? = some (Obj.cells #[Value.bool nx,Value.slice ao len cap,Value.int IntKind.i64 ex] 46):=by rw [Below.heap_alloc _ _ _ (by omega)];exact q0
 have o1:(w2.alloc (Obj.cells #[Value.bool nx,Value.slice none 0 0,Value.int IntKind.i64 e] 46)).heap[w.heap.size + 1]? = some (Obj.cells #[Value.bool ny,Value.slice bo blen bcap,Value.int IntKind.i64 ey] 46):=by rw [Below.heap_alloc _ _ _ (by omega)];exact q1
 have o2:(w2.alloc (Obj.cells #[Value.bool nx,Value.slice none 0 0,Value.int IntKind.i64 e] 46)).heap[w.heap.size + 1 + 1]? = some (Obj.cells #[Value.bool false,Value.slice none 0 0,Value.int IntKind.i64 0] 46):=by rw [Below.heap_alloc _ _ _ (by omega)];exact q2
 obtain ⟨u0,u1,u2⟩:=three_cells o0
 obtain ⟨y0,y1,y2⟩:=three_cells o1
 obtain ⟨z0,z1,z2⟩:=three_cells o2
 have fz:=fun j=>frozen_of_row _ _ j _ _ o2
 have O2:Hid _:=o2
 have hw2:(w2.alloc (Obj.cells #[Value.bool nx,Value.slice none 0 0,Value.int IntKind.i64 e] 46)).heap.size = w2.heap.size + 1:=by simp
 have Q0:Hid _:=q0
 have Q1:Hid _:=q1
 have Q2:Hid _:=q2
 clear q0 q1 q2 o0 o1 o2 P0 P1 P2 PZ PB
 by_cases h0:mx = 0
 ·have t1:((l1:Int) == 0) = true:=by rw [beq_iff_eq];have:=lz1.2 (zA h0);omega
  go_wp2_with fail
  refine bodyPost_ret (v:=.agg #[.bool ny,.slice bo blen bcap,.int .i64 ey]) (res_num _ 4 (by kernel_rfl) _ _ (w.heap.size + 1 + 1) _ _ _ (by rfl) (set3_heap _ _ _ O2.out)) rfl ⟨_,ny,my,ey,rfl,?_,⟨plus_left h0,fun c _ hy=>hy c⟩,?_⟩
  ·exact ⟨bo,blen,bcap,ys,rfl,rd4_set3 _ _ _ ⟨_,_,_,_,_,O2.out⟩ (HR2.out.later HB3.out),hnm2,hm2⟩
  ·exact ((HB3.out.setCell (by show w.heap.size <= w.heap.size + 1 + 1;omega) _).setCell (by show w.heap.size <= w.heap.size + 1 + 1;omega) _).setCell (by show w.heap.size <= w.heap.size + 1 + 1;omega) _
 by_cases h1:my = 0
 ·have t1:((l1:Int) == 0) = false:=by rw [beq_eq_false_iff_ne];have:=nA h0;omega
  have t2:((l2:Int) == 0) = true:=by rw [beq_iff_eq];have:=lz2.2 (zB h0 h1);omega
  go_wp2_with fail
  refine bodyPost_ret (v:=.agg #[.bool nx,.slice ao len cap,.int .i64 ex]) (res_num _ 4 (by kernel_rfl) _ _ (w.heap.size + 1 + 1) _ _ _ (by rfl) (set3_heap _ _ _ O2.out)) rfl ⟨_,nx,mx,ex,rfl,?_,⟨plus_right h1,fun c hx _=>hx c⟩,?_⟩
  ·exact ⟨ao,len,cap,xs,rfl,rd4_set3 _ _ _ ⟨_,_,_,_,_,O2.out⟩ (HR.out.later HB3.out),hnm,hm⟩
  ·exact ((HB3.out.setCell (by show w.heap.size <= w.heap.size + 1 + 1;omega) _).setCell (by show w.heap.size <= w.heap.size + 1 + 1;omega) _).setCell (by show w.heap.size <= w.heap.size + 1 + 1;omega) _
 have t1:((l1:Int) == 0) = false:=by rw [beq_eq_false_iff_ne];have:=nA h0;omega
 have t2:((l2:Int) == 0) = false:=by rw [beq_eq_false_iff_ne];have:=nB h0 h1;omega
 have R1':Hid _:=R1.out.later ((Below.refl _ _).alloc (Nat.le_refl _) (Obj.cells #[Value.bool nx,Value.slice none 0 0,Value.int IntKind.i64 e] 46))
 have R2':Hid _:=R2.out.later ((Below.refl _ _).alloc (Nat.le_refl _) (Obj.cells #[Value.bool nx,Value.slice none 0 0,Value.int IntKind.i64 e] 46))
 by_cases hs:nx = ny
 ·subst hs
  have t3:(nx == nx) = true:=by simp
  go_wp2_with fail
  refine (plus_any a1 l1 c1 xs1 a2 l2 c2 ys1 _ R1'.out R2'.out hl1 hl2).mono ?_
  rintro e4 w4 ⟨ao',k,cap',zs,rfl,r4,n4,d4,hb4,k4⟩
  have hk:((k:Int) == 0) = false:=by
   rw [beq_eq_false_iff_ne];have:=len_zero r4.length r4.lt n4;rw [d4,d1] at this;have:=nA h0;omega
  obtain ⟨g1,g2,g3,g4⟩:=out_facts (Value.slice ao' k cap') hsz Q2.out hb4
  obtain ⟨c10,c11,c12⟩:=three_cells g1
  obtain ⟨c40,c41,c42⟩:=three_cells g4
  have f1:=fun j=>frozen_of_row _ _ j _ _ g1
  obtain ⟨c30,c31,c32⟩:=three_cells g3
  have f4:=fun j=>frozen_of_row _ _ j _ _ g4
  have HB5:Hid (Below w.heap.size w (w4.setCell ⟨w2.heap.size,1,none⟩ (Value.slice ao' k cap'))):=(HB3.out.trans (hb4.mono (by rw [hw2];have:=HB2.out.size;omega))).setCell (by show w.heap.size <= w2.heap.size;omega) _
  have R5:Hid (Rd4 (w4.setCell ⟨w2.heap.size,1,none⟩ (Value.slice ao' k cap')) ao' k cap' zs):=rd4_other (w:=w4) (B:=w2.heap.size) ⟨_,_,_,_,_,g1⟩ (fun b hb=>heap_setCell_other _ _ _ _ hb) r4
  have G4:Hid _:=g4
  clear g1 g2 g3 g4 r4 hb4
  go_wp2_with fail
  refine bodyPost_ret (v:=.agg #[.bool nx,.slice ao' k cap',.int .i64 e]) (res_num _ 4 (by kernel_rfl) _ _ (w.heap.size + 1 + 1) _ _ _ (by rfl) (set3_heap _ _ _ G4.out)) rfl ⟨_,nx,A + B,e,rfl,?_,⟨plus_same HL.out h0 h1,fun c _ _=>absurd c (by have:=level_ne HL.out h0 h1;omega)⟩,?_⟩
  ·exact ⟨ao',k,cap',zs,rfl,rd4_set3 _ _ _ ⟨_,_,_,_,_,G4.out⟩ R5.out,n4,by rw [d4,d1,d2]⟩
  ·exact ((HB5.out.setCell (by show w.heap.size <= w.heap.size + 1 + 1;omega) _).setCell (by show w.heap.size <= w.heap.size + 1 + 1;omega) _).setCell (by show w.heap.size <= w.heap.size + 1 + 1;omega) _
 have hny:ny = !nx:=by cases nx <;> cases ny <;> simp at hs ⊢
 subst hny
 have t3:(nx == !nx) = false:=by cases nx <;> rfl
 by_cases hAB:B <= A
 ·have hc4:0 <= cmpN A B:=by unfold cmpN;rw [if_neg (by omega)];split <;> omega
  have hll:l2 <= l1:=by
   rcases Nat.lt_or_ge l1 l2 with h | h
   ·have:=shorter_lt R1.out.lt R2.out.lt n2 (by rw [R1.out.length,R2.out.length];exact h);omega
   ·exact h
  go_wp2_with fail
  refine (cmp_any a1 l1 c1 xs1 a2 l2 c2 ys1 _ R1'.out R2'.out n1 n2).mono ?_
  rintro e3 w3 ⟨rfl,hb3⟩
  rw [d1,d2]
  have R1'':Hid _:=R1'.out.later hb3
  have R2'':Hid _:=R2'.out.later hb3
  have hb3z:=hb3.size
  have HBW:Hid _:=hb3
  clear hb3
  go_wp2_with fail
  refine (minus_any a1 l1 c1 xs1 a2 l2 c2 ys1 _ R1''.out R2''.out hl1 hll (by rw [d1,d2];exact hAB)).mono ?_
  rintro e4 w4 ⟨ao',k,cap',zs,rfl,r4,n4,d4,hb4',k4⟩
  have hb4:Below (w2.alloc (Obj.cells #[Value.bool nx,Value.slice none 0 0,Value.int IntKind.i64 e] 46)).heap.size (w2.alloc (Obj.cells #[Value.bool nx,Value.slice none 0 0,Value.int IntKind.i64 e] 46)) w4:=HBW.out.trans (hb4'.mono hb3z)
  clear hb4'
  have lz4:=len_zero r4.length r4.lt n4
  rw [d4,d1,d2] at lz4
  obtain ⟨g1,g2,g3,g4⟩:=out_facts (Value.slice ao' k cap') hsz Q2.out hb4
  obtain ⟨c10,c11,c12⟩:=three_cells g1
  obtain ⟨c40,c41,c42⟩:=three_cells g4
  have f1:=fun j=>frozen_of_row _ _ j _ _ g1
  obtain ⟨c30,c31,c32⟩:=three_cells g3
  have f4:=fun j=>frozen_of_row _ _ j _ _ g4
  have HB5:Hid (Below w.heap.size w (w4.setCell ⟨w2.heap.size,1,none⟩ (Value.slice ao' k cap'))):=(HB3.out.trans (hb4.mono (by rw [hw2];have:=HB2.out.size;omega))).setCell (by show w.heap.size <= w2.heap.size;omega) _
  have R5:Hid (Rd4 (w4.setCell ⟨w2.heap.size,1,none⟩ (Value.slice ao' k cap')) ao' k cap' zs):=rd4_other (w:=w4) (B:=w2.heap.size) ⟨_,_,_,_,_,g1⟩ (fun b hb=>heap_setCell_other _ _ _ _ hb) r4
  have G4:Hid _:=g4
  clear g1 g2 g3 g4 r4 hb4
  by_cases heq:A = B
  ·have hk:((k:Int) == 0) = true:=by rw [beq_iff_eq];omega
   go_wp2_with fail
   refine bodyPost_ret (v:=.agg #[.bool false,.slice none 0 0,.int .i64 0]) (res_num _ 4 (by kernel_rfl) _ _ (w.heap.size + 1 + 1) _ _ _ (by rfl) (set3_heap _ _ _ G4.out)) rfl ⟨_,false,0,0,rfl,?_,⟨plus_eq HL.out h0 h1 heq,fun _ _ _=>rfl⟩,?_⟩
   ·exact ⟨none,0,0,[],rfl,rd4_none' _,.inl rfl,rfl⟩
   ·exact ((HB5.out.setCell (by show w.heap.size <= w.heap.size + 1 + 1;omega) _).setCell (by show w.heap.size <= w.heap.size + 1 + 1;omega) _).setCell (by show w.heap.size <= w.heap.size + 1 + 1;omega) _
  ·have hk:((k:Int) == 0) = false:=by rw [beq_eq_false_iff_ne];omega
   go_wp2_with fail
   refine bodyPost_ret (v:=.agg #[.bool nx,.slice ao' k cap',.int .i64 e]) (res_num _ 4 (by kernel_rfl) _ _ (w.heap.size + 1 + 1) _ _ _ (by rfl) (set3_heap _ _ _ G4.out)) rfl ⟨_,nx,A - B,e,rfl,?_,⟨plus_ge HL.out h0 h1 hAB,fun c _ _=>absurd c (by omega)⟩,?_⟩
   ·exact ⟨ao',k,cap',zs,rfl,rd4_set3 _ _ _ ⟨_,_,_,_,_,G4.out⟩ R5.out,n4,by rw [d4,d1,d2]⟩
   ·exact ((HB5.out.setCell (by show w.heap.size <= w.heap.size + 1 + 1;omega) _).setCell (by show w.heap.size <= w.heap.size + 1 + 1;omega) _).setCell (by show w.heap.size <= w.heap.size + 1 + 1;omega) _
 ·have hc4:cmpN A B = -1:=by unfold cmpN;rw [if_pos (by omega)]
  have hll:l1 <= l2:=by
   rcases Nat.lt_or_ge l2 l1 with h | h
   ·have:=shorter_lt R2.out.lt R1.out.lt n1 (by rw [R1.out.length,R2.out.length];exact h);omega
   ·exact h
  go_wp2_with fail
  refine (cmp_any a1 l1 c1 xs1 a2 l2 c2 ys1 _ R1'.out R2'.out n1 n2).mono ?_
  rintro e3 w3 ⟨rfl,hb3⟩
  rw [d1,d2,hc4]
  have R1'':Hid _:=R1'.out.later hb3
  have R2'':Hid _:=R2'.out.later hb3
  have hb3z:=hb3.size
  have HBW:Hid _:=hb3
  have s1:=(hb3.block w2.heap.size (by simp)).trans (heap_alloc_new w2 _)
  have s2:=(hb3.block (w.heap.size + 1) (by simp;omega)).trans ((Below.heap_alloc w2 _ _ (by omega)).trans Q1.out)
  obtain ⟨s10,s11,s12⟩:=three_cells s1
  obtain ⟨s20,s21,s22⟩:=three_cells s2
  have fs:=fun j=>frozen_of_row _ _ j _ _ s1
  have S3:Hid ((w3.setCell ⟨w2.heap.size,0,none⟩ (Value.bool (!nx))).heap[w2.heap.size]? = some (Obj.cells #[Value.bool (!nx),Value.slice none 0 0,Value.int IntKind.i64 e] 46)):=heap_setCell_same _ _ 0 _ _ _ s1
  have S1:Hid _:=s1
  clear hb3 s1 s2
  have SB:Hid (Below w.heap.size w (w3.setCell ⟨w2.heap.size,0,none⟩ (Value.bool (!nx)))):=(HB3.out.trans (HBW.out.mono (by rw [hw2];have:=HB2.out.size;omega))).setCell (by show w.heap.size <= w2.heap.size;omega) _
  have S4:Hid ((w3.setCell ⟨w2.heap.size,0,none⟩ (Value.bool (!nx))).heap[w.heap.size + 1 + 1]? = some (Obj.cells #[Value.bool false,Value.slice none 0 0,Value.int IntKind.i64 0] 46)):=by
   unfold Hid
   rw [heap_setCell_other _ _ _ _ (by show w.heap.size + 1 + 1 ≠ w2.heap.size;omega),HBW.out.block (w.heap.size + 1 + 1) (by simp;omega),Below.heap_alloc _ _ _ (by omega)];exact Q2.out
  have T1:Hid _:=rd4_other (w:=w3) (w':=w3.setCell ⟨w2.heap.size,0,none⟩ (Value.bool (!nx))) (B:=w2.heap.size) ⟨_,_,_,_,_,S1.out⟩ (fun b hb=>heap_setCell_other _ _ _ _ hb) R1''.out
  have T2:Hid _:=rd4_other (w:=w3) (w':=w3.setCell ⟨w2.heap.size,0,none⟩ (Value.bool (!nx))) (B:=w2.heap.size) ⟨_,_,_,_,_,S1.out⟩ (fun b hb=>heap_setCell_other _ _ _ _ hb) R2''.out
  have hsz3:(w3.setCell ⟨w2.heap.size,0,none⟩ (Value.bool (!nx))).heap.size = w3.heap.size:=by simp
  rw [hw2] at hb3z
  go_wp2_with fail
  refine (minus_any a2 l2 c2 ys1 a1 l1 c1 xs1 _ T2.out T1.out hl2 hll (by rw [d1,d2];omega)).mono ?_
  rintro e4 w4 ⟨ao',k,cap',zs,rfl,r4,n4,d4,hb4,k4⟩
  have lz4:=len_zero r4.length r4.lt n4
  rw [d4,d1,d2] at lz4
  have hk:((k:Int) == 0) = false:=by rw [beq_eq_false_iff_ne];omega
  have g1:=(hb4.block w2.heap.size (by rw [hsz3];omega)).trans S3.out
  have g2:=(hb4.block (w.heap.size + 1 + 1) (by rw [hsz3];omega)).trans S4.out
  have g3:=heap_setCell_same _ _ 1 _ _ (Value.slice ao' k cap') g1
  have g4:(w4.setCell ⟨w2.heap.size,1,none⟩ (Value.slice ao' k cap')).heap[w.heap.size + 1 + 1]? = _:=(heap_setCell_other w4 ⟨w2.heap.size,1,none⟩ (w.heap.size + 1 + 1) (Value.slice ao' k cap') (by show w.heap.size + 1 + 1 ≠ w2.heap.size;omega)).trans g2
  obtain ⟨c10,c11,c12⟩:=three_cells g1
  obtain ⟨c40,c41,c42⟩:=three_cells g4
  have f1:=fun j=>frozen_of_row _ _ j _ _ g1
  have g3':(w4.setCell ⟨w2.heap.size,1,none⟩ (Value.slice ao' k cap')).heap[w2.heap.size]? = some (Obj.cells #[Value.bool (!nx),Value.slice ao' k cap',Value.int IntKind.i64 e] 46):=g3
  obtain ⟨c30,c31,c32⟩:=three_cells g3'
  have f4:=fun j=>frozen_of_row _ _ j _ _ g4
  have HB5:Hid (Below w.heap.size w (w4.setCell ⟨w2.heap.size,1,none⟩ (Value.slice ao' k cap'))):=(SB.out.trans (hb4.mono (by rw [hsz3];omega))).setCell (by show w.heap.size <= w2.heap.size;omega) _
  have R5:Hid (Rd4 (w4.setCell ⟨w2.heap.size,1,none⟩ (Value.slice ao' k cap')) ao' k cap' zs):=rd4_other (w:=w4) (B:=w2.heap.size) ⟨_,_,_,_,_,g1⟩ (fun b hb=>heap_setCell_other _ _ _ _ hb) r4
  have G4:Hid _:=g4
  clear g1 g2 g3 g3' g4 r4 hb4
  go_wp2_with fail
  refine bodyPost_ret (v:=.agg #[.bool (!nx),.slice ao' k cap',.int .i64 e]) (res_num _ 4 (by kernel_rfl) _ _ (w.heap.size + 1 + 1) _ _ _ (by rfl) (set3_heap _ _ _ G4.out)) rfl ⟨_,!nx,B - A,e,rfl,?_,⟨plus_lt HL.out h0 h1 (by omega),fun c _ _=>absurd c (by omega)⟩,?_⟩
  ·exact ⟨ao',k,cap',zs,rfl,rd4_set3 _ _ _ ⟨_,_,_,_,_,G4.out⟩ R5.out,n4,by rw [d4,d1,d2]⟩
  ·exact ((HB5.out.setCell (by show w.heap.size <= w.heap.size + 1 + 1;omega) _).setCell (by show w.heap.size <= w.heap.size + 1 + 1;omega) _).setCell (by show w.heap.size <= w.heap.size + 1 + 1;omega) _
theorem plusZ_any (v u:Value) (s:Nat) (T x y:Int) (w:World) (hx:NumZ w v s T x) (hy:NumZ w u s T y) (hs:s <= 20000) (hT:0 <= T /\ T <= 20000) :
  Calls Tryz.prog 14 #[v,u] w fun e' w'=>∃ v',e' = .returned v' /\ NumZ w' v' s (T + 1) (x + y) /\ Below w.heap.size w w':=by
 obtain ⟨nx,mx,ex,h1,h2,h3,h4⟩:=hx
 obtain ⟨ny,my,ey,k1,k2,k3,k4⟩:=hy
 refine (plusV_any v u nx ny mx my ex ey w h1 k1 (by omega) (by omega) (by omega) (by omega)).mono ?_
 rintro e' w' ⟨v',neg,m,e,rfl,hN,hP,hB⟩
 obtain ⟨p1,p2,p3⟩:=hP.1 s T h2 k2 h3 k3 hT.1
 exact ⟨v',rfl,⟨neg,m,e,hN,p1,p2,by rw [p3,h4,k4]⟩,hB⟩
theorem NumZ.set3 {w:World} {B:Nat} (x y z:Value) (hB:NumB w B) {v:Value} {s:Nat} {T r:Int} (h:NumZ w v s T r):NumZ (((w.setCell ⟨B,0,none⟩ x).setCell ⟨B,1,none⟩ y).setCell ⟨B,2,none⟩ z) v s T r:=by
 obtain ⟨neg,m,e,⟨ao,len,cap,xs,h1,h2,h3⟩,h4⟩:=h
 exact ⟨neg,m,e,⟨ao,len,cap,xs,h1,rd4_set3 x y z hB h2,h3⟩,h4⟩
theorem below_set3 {w0 w:World} {base B:Nat} (x y z:Value) (h:Below base w0 w) (hB:base <= B):Below base w0 (((w.setCell ⟨B,0,none⟩ x).setCell ⟨B,1,none⟩ y).setCell ⟨B,2,none⟩ z):=
 ((h.setCell (p:=⟨B,0,none⟩) hB x).setCell (p:=⟨B,1,none⟩) hB y).setCell (p:=⟨B,2,none⟩) hB z
theorem turnedZ_any (v:Value) (s:Nat) (T x:Int) (w:World) (hx:NumZ w v s T x) :
  Calls Tryz.prog 33 #[v] w fun e' w'=>∃ v',e' = .returned v' /\ NumZ w' v' s T (-x) /\ Below w.heap.size w w':=by
 obtain ⟨nx,mx,ex,h1,h2,h3,h4⟩:=hx
 refine (turned_any v nx mx ex w h1).mono ?_
 rintro e' w' ⟨v',rfl,hN,hB⟩
 refine ⟨v',rfl,⟨_,mx,ex,hN,h2,h3,?_⟩,hB⟩
 by_cases h0:mx = 0
 ·rw [<- h4,h0,zv_zero,zv_zero];rfl
 ·rw [if_neg h0,zv_not,h4]
theorem signZ_any (v:Value) (s:Nat) (T x:Int) (w:World) (hx:NumZ w v s T x) :
  Calls Tryz.prog 17 #[v] w fun e' w'=>e' = .returned (.int .i64 (sgi x)) /\ Below w.heap.size w w':=by
 obtain ⟨nx,mx,ex,h1,h2,h3,h4⟩:=hx
 refine (sign_any v nx mx ex w h1).mono ?_
 rintro e' w' ⟨rfl,hB⟩
 exact ⟨by rw [<- h4,sgi_zv],hB⟩
theorem minusZ_any (v u:Value) (s:Nat) (T x y:Int) (w:World) (hx:NumZ w v s T x) (hy:NumZ w u s T y) (hs:s <= 20000) (hT:0 <= T /\ T <= 20000) :
  Calls Tryz.prog 13 #[v,u] w fun e' w'=>∃ v',e' = .returned v' /\ NumZ w' v' s (T + 1) (x - y) /\ Below w.heap.size w w':=by
 have HX:Hid (NumZ w v s T x):=hx
 have HY:Hid (NumZ w u s T y):=hy
 obtain ⟨nx,mx,ex,⟨ao,len,cap,xs,rfl,-⟩,-⟩:=hx
 obtain ⟨ny,my,ey,⟨bo,blen,bcap,ys,rfl,-⟩,-⟩:=hy
 obtain ⟨p0,p1,p2,pz,pb⟩:=alloc3_facts w (Obj.cells #[Value.bool nx,Value.slice ao len cap,Value.int IntKind.i64 ex] 46) (Obj.cells #[Value.bool ny,Value.slice bo blen bcap,Value.int IntKind.i64 ey] 46) (Obj.cells #[Value.bool false,Value.slice none 0 0,Value.int IntKind.i64 0] 46)
 have PZ:Hid _:=pz
 have PB:Hid _:=pb
 go_enter Tryz.func13,Tryz.ntmps13
 go_wp2_with fail
 generalize (((w.alloc (Obj.cells #[Value.bool nx,Value.slice ao len cap,Value.int IntKind.i64 ex] 46)).alloc (Obj.cells #[Value.bool ny,Value.slice bo blen bcap,Value.int IntKind.i64 ey] 46)).alloc (Obj.cells #[Value.bool false,Value.slice none 0 0,Value.int IntKind.i64 0] 46)) = wa at *
 have HY2:Hid (NumZ wa.drew _ s T y):=NumZ.later HY.out PB.out.drew
 have P2:Hid _:=p2
 obtain ⟨x0,x1,x2⟩:=three_cells p0
 obtain ⟨y0,y1,y2⟩:=three_cells p1
 have P0:Hid _:=p0
 have P1:Hid _:=p1
 clear p0 p1 p2 pz pb
 have hne1:¬ (w.heap.size + 1 + 1 = w.heap.size):=by omega
 have hne2:¬ (w.heap.size = w.heap.size + 1 + 1):=by omega
 go_region_held3 (fun w'=>w'.cell? ⟨w.heap.size,0,none⟩ = some (.bool nx) /\ w'.cell? ⟨w.heap.size,1,none⟩ = some (.slice ao len cap) /\ w'.cell? ⟨w.heap.size,2,none⟩ = some (.int .i64 ex) /\ w'.cell? ⟨w.heap.size + 1,0,none⟩ = some (.bool ny) /\ w'.cell? ⟨w.heap.size + 1,1,none⟩ = some (.slice bo blen bcap) /\ w'.cell? ⟨w.heap.size + 1,2,none⟩ = some (.int .i64 ey)) (go_keep)
  (first
   | (go_at_call 33;refine (turnedZ_any _ s T y _ HY2.out).mono ?_;rintro ee ww ⟨v1,rfl,hz1,hb1⟩;have b0:=(hb1.block w.heap.size (by show w.heap.size < wa.heap.size;rw [PZ.out];omega)).trans P0.out;have b1:=(hb1.block (w.heap.size + 1) (by show w.heap.size + 1 < wa.heap.size;rw [PZ.out];omega)).trans P1.out;have b2:=(hb1.block (w.heap.size + 1 + 1) (by show w.heap.size + 1 + 1 < wa.heap.size;rw [PZ.out];omega)).trans P2.out;obtain ⟨a0,a1,a2⟩:=three_cells b0;obtain ⟨a3,a4,a5⟩:=three_cells b1;have HBB:Hid (Below w.heap.size w ww):=PB.out.drew.trans (hb1.mono (by show w.heap.size <= wa.heap.size;rw [PZ.out];omega));have HSZ:Hid (w.heap.size + 3 <= ww.heap.size):=Nat.le_trans (Nat.le_of_eq PZ.out.symm) hb1.size;have HZ1:Hid (NumZ ww v1 s T (-y)):=hz1;have B0:Hid _:=b0;have B1:Hid _:=b1;have B2:Hid _:=b2;clear hz1 hb1 b0 b1 b2)
   | (go_at_call 14;refine (plusZ_any _ _ s T x (-y) _ (NumZ.later HX.out HBB.out) HZ1.out hs hT).mono ?_;rintro ee ww2 ⟨v2,rfl,hz2,hb2⟩;have d0:=(hb2.block w.heap.size (by have:=HSZ.out;omega)).trans B0.out;have d1:=(hb2.block (w.heap.size + 1) (by have:=HSZ.out;omega)).trans B1.out;obtain ⟨i0,i1,i2⟩:=three_cells d0;obtain ⟨i3,i4,i5⟩:=three_cells d1;have d2:=(hb2.block (w.heap.size + 1 + 1) (by have:=HSZ.out;omega)).trans B2.out;have HB3:Hid (Below w.heap.size w ww2):=HBB.out.trans (hb2.mono HBB.out.size);obtain ⟨c0,c1,c2⟩:=three_cells d2;have fc:=(fun j=>frozen_of_row _ _ j _ _ d2);have D2:Hid _:=d2;have HZ2:Hid (NumZ ww2 v2 s (T + 1) (x + -y)):=hz2;obtain ⟨n3,m3,e3,⟨a3,l3,c3,xs3,rfl,-⟩,-⟩:=hz2;clear hb2 d0 d1 d2))
 all_goals go_wp2_with fail
 all_goals
  refine bodyPost_ret (v:=.agg #[.bool n3,.slice a3 l3 c3,.int .i64 e3]) (res_num _ 4 (by kernel_rfl) _ _ (w.heap.size + 1 + 1) _ _ _ (by rfl) (set3_heap _ _ _ D2.out)) rfl ⟨_,rfl,?_,?_⟩
  ·rw [show x - y = x + -y by omega];exact NumZ.set3 _ _ _ ⟨_,_,_,_,_,D2.out⟩ HZ2.out
  ·exact below_set3 _ _ _ HB3.out (by omega)
theorem alloc2_facts (w:World) (o1 o2:Obj):((w.alloc o1).alloc o2).heap[w.heap.size]? = some o1 /\ ((w.alloc o1).alloc o2).heap[w.heap.size + 1]? = some o2 /\ ((w.alloc o1).alloc o2).heap.size = w.heap.size + 2 /\ Below w.heap.size w ((w.alloc o1).alloc o2):=by
 have e1:=heap_alloc_new w o1
 have e2:=heap_alloc_new (w.alloc o1) o2
 rw [show (w.alloc o1).heap.size = w.heap.size + 1 by simp] at e2
 exact ⟨by rw [Below.heap_alloc _ _ _ (by simp),e1],e2,by simp,((Below.refl _ _).alloc (Nat.le_refl _) _).alloc (by simp) _⟩
theorem cmpZ_any (v u:Value) (s:Nat) (T x y:Int) (w:World) (hx:NumZ w v s T x) (hy:NumZ w u s T y) (hs:s <= 20000) (hT:0 <= T /\ T <= 20000) :
  Calls Tryz.prog 15 #[v,u] w fun e' w'=>e' = .returned (.int .i64 (sgi (x - y))) /\ Below w.heap.size w w':=by
 have HX:Hid (NumZ w v s T x):=hx
 have HY:Hid (NumZ w u s T y):=hy
 obtain ⟨nx,mx,ex,⟨ao,len,cap,xs,rfl,-⟩,-⟩:=hx
 obtain ⟨ny,my,ey,⟨bo,blen,bcap,ys,rfl,-⟩,-⟩:=hy
 obtain ⟨p0,p1,pz,pb⟩:=alloc2_facts w (Obj.cells #[Value.bool nx,Value.slice ao len cap,Value.int IntKind.i64 ex] 46) (Obj.cells #[Value.bool ny,Value.slice bo blen bcap,Value.int IntKind.i64 ey] 46)
 have PZ:Hid _:=pz
 have PB:Hid _:=pb
 go_enter Tryz.func15,Tryz.ntmps15
 go_wp2_with fail
 refine (minusZ_any _ _ s T x y _ (NumZ.later HX.out PB.out) (NumZ.later HY.out PB.out) hs hT).mono ?_
 rintro ee ww ⟨v1,rfl,hz1,hb1⟩
 have HB1:Hid (Below w.heap.size w ww):=PB.out.trans (hb1.mono (by rw [PZ.out];omega))
 have HZ1:Hid (NumZ ww v1 s (T + 1) (x - y)):=hz1
 clear hz1 hb1
 go_wp2_with fail
 refine (signZ_any _ s (T + 1) (x - y) _ HZ1.out).mono ?_
 rintro ee w2 ⟨rfl,hb2⟩
 have HB2:Hid (Below w.heap.size w w2):=HB1.out.trans (hb2.mono HB1.out.size)
 clear hb2
 go_wp2_with fail
 go_ret
 exact ⟨rfl,HB2.out⟩
theorem make1_any (d:Int) (B lo hi x:Nat) (bad:Bool) (hx:(if d = 2 then lo else hi) = x) (w:World) (hB:w.heap[B]? = some (.cells #[.float .f64 lo,.float .f64 hi,.bool bad] 71)) (p:Nat × Bool)
  (hp:∀ w,Calls Tryz.prog 113 #[.int .i64 0,.float .f64 x] w fun e w'=>e = .returned (.tuple #[.float .f64 p.1,.bool p.2]) /\ w' = w) :
  Calls Tryz.prog 112 #[.int .i64 d,.pointer (some ⟨B,0,none⟩)] w fun e w'=>e = .returned (.tuple #[.float .f64 p.1,.bool p.2]) /\ Below w.heap.size w w':=by
 have HS:Hid (∀ w,Calls Tryz.prog 114 #[.int .i64 d,.agg #[.float .f64 lo,.float .f64 hi,.bool bad]] w fun e w'=>e = .returned (.float .f64 x) /\ Below w.heap.size w w'):=by
  intro w;have:=side_any d lo hi bad w;rw [hx] at this;exact this
 have HP:Hid _:=hp
 obtain ⟨c0,c1,c2⟩:=cells3 hB
 clear hB hp hx
 go_enter Tryz.func112,Tryz.ntmps112
 go_wp2_with fail
 refine Calls.mono (HS.out _) ?_
 rintro e w1 ⟨rfl,b1⟩
 have B1:Hid (Below w.heap.size w w1):=b1
 clear b1 HS
 go_wp2_with fail
 refine Calls.mono (HP.out _) ?_
 rintro e w2 ⟨rfl,rfl⟩
 go_wp2_with fail
 go_ret2
 exact ⟨rfl,B1.out⟩
theorem rds_one {W:World} {g:Nat} {lo hi:Nat} {bad:Bool} {t:TypeId} (h:W.heap[g]? = some (.cells #[.float .f64 lo,.float .f64 hi,.bool bad] t)) (hlo:lo < 18446744073709551616) (hhi:hi < 18446744073709551616):RdS W (some ⟨g,0,none⟩) 1 1 (fun _=>(lo,hi,bad)):=by
 obtain ⟨c0,c1,c2⟩:=cells3 h
 refine ⟨by omega,by decide,fun _ _=>⟨hlo,hhi⟩,.inr ⟨g,0,rfl,fun j hj=>?_⟩⟩
 obtain rfl:j = 0:=by omega
 exact ⟨c0,c1,c2⟩
theorem all_one {lo hi:Nat} {bad:Bool}:decide (AllGood (fun _=>(lo,hi,bad)) 1) = decide (Good lo hi bad):=by
 congr 1;apply propext
 exact ⟨fun h=>h 0 (by omega),fun h _ _=>h⟩
def two (a b:Nat × Nat × Bool) (j:Nat):Nat × Nat × Bool:=if j = 0 then a else b
theorem good1_any {W:World} {g:Nat} {lo hi:Nat} {bad:Bool} {t:TypeId} (h:W.heap[g]? = some (.cells #[.float .f64 lo,.float .f64 hi,.bool bad] t)) (hlo:lo < 18446744073709551616) (hhi:hi < 18446744073709551616) :
  Calls Tryz.prog 109 #[.slice (some ⟨g,0,none⟩) 1 1] W fun e w'=>e = .returned (.bool (decide (Good lo hi bad))) /\ Below W.heap.size W w':=by
 have:=good_any _ 1 1 _ W (rds_one h hlo hhi)
 rw [all_one] at this;exact this
theorem next_plain {x:Nat} (hx:x < 18446744073709551616) (hf:Fin x) (w:World) :
  Calls Tryz.prog 113 #[.int .i64 0,.float .f64 x] w fun e w'=>e = .returned (.tuple #[.float .f64 (plainM x),.bool true]) /\ w' = w:=by
 obtain ⟨p,h1,-,c⟩:=next_any 0 x hx
 have h:=h1 hf
 rw [show sideOf 0 = 0 from rfl,Int.add_zero] at h
 have:=canon_rnd (D:=64) hx hf (by decide) (.inl rfl) h
 subst this
 exact c w
def makeS (lo hi:Nat):Nat × Nat × Bool:=if Good lo hi false then (plainM lo,plainM hi,false) else (0,0,true)
theorem make_any (lo hi:Nat) (hlo:lo < 18446744073709551616) (hhi:hi < 18446744073709551616) (w:World) :
  Calls Tryz.prog 92 #[.float .f64 lo,.float .f64 hi] w fun e w'=>e = .returned (.agg #[.float .f64 (makeS lo hi).1,.float .f64 (makeS lo hi).2.1,.bool (makeS lo hi).2.2]) /\ Below w.heap.size w w':=by
 have hsf:=run_store_f
 obtain ⟨g0,g1,g2,gz,gb⟩:=alloc3_facts w (Obj.cells #[Value.float FloatKind.f64 0,Value.float FloatKind.f64 0,Value.bool false] 71) (Obj.cells #[Value.float FloatKind.f64 lo,Value.float FloatKind.f64 hi,Value.bool false] 71) (Obj.cells #[Value.float FloatKind.f64 lo,Value.float FloatKind.f64 hi,Value.bool false] 71)
 have G0:Hid _:=g0
 have G1:Hid _:=g1
 have G2:Hid _:=g2
 have GZ:Hid _:=gz
 have GB:Hid _:=gb
 clear g0 g1 g2 gz gb
 go_enter Tryz.func92,Tryz.ntmps92
 go_wp2_with fail
 generalize (((w.alloc (Obj.cells #[Value.float FloatKind.f64 0,Value.float FloatKind.f64 0,Value.bool false] 71)).alloc (Obj.cells #[Value.float FloatKind.f64 lo,Value.float FloatKind.f64 hi,Value.bool false] 71)).alloc (Obj.cells #[Value.float FloatKind.f64 lo,Value.float FloatKind.f64 hi,Value.bool false] 71)) = W at G0 G1 G2 GZ GB ⊢
 refine (good1_any G2.out hlo hhi).mono ?_
 rintro e w1 ⟨rfl,b1⟩
 have R0:Hid _:=(b1.block w.heap.size (by have:=GZ.out;omega)).trans G0.out
 have R1:Hid _:=(b1.block (w.heap.size + 1) (by have:=GZ.out;omega)).trans G1.out
 have B1:Hid (Below w.heap.size w w1):=GB.out.trans (b1.mono GB.out.size)
 have Z1:Hid (w.heap.size + 1 < w1.heap.size):=by have:=b1.size;have:=GZ.out;unfold Hid;omega
 clear b1 G0 G1 G2 GZ GB
 by_cases hg:Good lo hi false
 ·have HM:Hid (makeS lo hi = (plainM lo,plainM hi,false)):=by unfold Hid makeS;rw [if_pos hg]
  rw [decide_eq_true hg]
  have T2:Hid (Tells 112 #[.pointer (some ⟨w.heap.size + 1,0,none⟩)] w1 2 (plainM lo,true)):=fun w' hb=>make1_any 2 _ lo hi lo false rfl w' ((hb.block _ Z1.out).trans R1.out) _ (next_plain hlo hg.2.1)
  have T1:Hid (Tells 112 #[.pointer (some ⟨w.heap.size + 1,0,none⟩)] w1 1 (plainM hi,true)):=fun w' hb=>make1_any 1 _ lo hi hi false rfl w' ((hb.block _ Z1.out).trans R1.out) _ (next_plain hhi hg.2.2.1)
  clear hg
  go_wp2_with fail
  refine (spanOf_any 112 _ (enters_of Tryz.func112 (by kernel_rfl) rfl) _ (plainM lo,true) (plainM hi,true) T2.out T1.out).mono ?_
  rintro e w2 ⟨rfl,b2⟩
  rw [show spOf (plainM lo,true) (plainM hi,true) = (plainM lo,plainM hi,false) from rfl]
  have r2:=(b2.block w.heap.size (by have:=Z1.out;omega)).trans R0.out
  have B2:Hid (Below w.heap.size w w2):=B1.out.trans (b2.mono B1.out.size)
  have R2:Hid _:=r2
  obtain ⟨c0,c1,c2⟩:=cells3 r2
  have fz:=fun j=>frozen_of_row _ _ j _ _ r2
  clear b2 R0 R1 B1 Z1 T1 T2 r2
  go_wp2_with fail
  refine bodyPost_ret (v:=.agg #[.float .f64 (plainM lo),.float .f64 (plainM hi),.bool false]) (res_sp _ 4 (by kernel_rfl) _ _ w.heap.size _ _ _ ?_ (setsp_heap _ _ _ R2.out)) rfl ?_
  ·rfl
  ·exact ⟨by rw [HM.out],below_setsp _ _ _ B2.out (Nat.le_refl _)⟩
 ·have HM:Hid (makeS lo hi = (0,0,true)):=by unfold Hid makeS;rw [if_neg hg]
  rw [decide_eq_false hg]
  go_wp2_with fail
  refine (spBad_any _).mono ?_
  rintro e w2 ⟨rfl,b2⟩
  have r2:=(b2.block w.heap.size (by have:=Z1.out;omega)).trans R0.out
  have B2:Hid (Below w.heap.size w w2):=B1.out.trans (b2.mono B1.out.size)
  have R2:Hid _:=r2
  obtain ⟨c0,c1,c2⟩:=cells3 r2
  have fz:=fun j=>frozen_of_row _ _ j _ _ r2
  clear b2 R0 R1 B1 Z1 r2
  go_wp2_with fail
  refine bodyPost_ret (v:=.agg #[.float .f64 0,.float .f64 0,.bool true]) (res_sp _ 4 (by kernel_rfl) _ _ w.heap.size _ _ _ ?_ (setsp_heap _ _ _ R2.out)) rfl ?_
  ·rfl
  ·exact ⟨by rw [HM.out],below_setsp _ _ _ B2.out (Nat.le_refl _)⟩
def one1 (c:Nat):Option Int:=prodO (some 0) c 4607182418800017408 0
def AroR (c:Nat) (o:Option Int) (r:Nat × Nat × Bool):Prop:=∃ lo low hi high,RndO 2 (joinO (one1 c) o true) lo low /\ RndO 1 (joinO (one1 c) o false) hi high /\ r = (if low && high then makeS lo hi else (0,0,true))
theorem Tryz.infoSpJ:(Tryz.prog.info? 71).map (·.size) = some 3:=by kernel_rfl
theorem oneSp (a b:Nat) (x:Bool):(#[.float .f64 a,.float .f64 b,.bool x]:Array Value).all (·.oneCell') = true:=by
 simp only [Array.all_eq_true_iff_forall_mem]
 intro v hv
 simp only [List.mem_toArray,List.mem_cons,List.not_mem_nil,or_false] at hv
 rcases hv with rfl | rfl | rfl <;> rfl
theorem RndO.ltJ {d:Int} {o:Option Int} {u:Nat} {b:Bool} (h:RndO d o u b):u < 18446744073709551616:=by
 cases o with
 | none=>rw [h.1];decide
 | some z=>
  obtain ⟨a,ha⟩:∃ a:Nat,a = 1166:=⟨_,rfl⟩
  exact (tell_fin (h a ha)).2
theorem around_any (c:Nat) (hc:c < 18446744073709551616) (P:Nat) (o:Option Int) (w:World) (hA:AccO w P o) :
  Calls Tryz.prog 58 #[.float .f64 c,.pointer (some ⟨P,0,none⟩)] w fun e w'=>(∃ r:Nat × Nat × Bool,e = .returned (.agg #[.float .f64 r.1,.float .f64 r.2.1,.bool r.2.2]) /\ AroR c o r) /\ Below w.heap.size w w':=by
 have HA:Hid _:=hA
 have hPl:=hA.block
 clear hA
 go_enter Tryz.func58,Tryz.ntmps58
 go_upto_region 1 with fail
 have Z0:=heap_alloc_new w (.cells #[.float .f64 0,.float .f64 0,.bool false] 71)
 have Z1:Below w.heap.size w (w.alloc (.cells #[.float .f64 0,.float .f64 0,.bool false] 71)):=(Below.refl _ w).alloc (Nat.le_refl _) _
 have Z2:AccO (w.alloc (.cells #[.float .f64 0,.float .f64 0,.bool false] 71)) P o:=HA.out.heap (Below.heap_alloc w _ _ hPl)
 obtain ⟨X,hX⟩:∃ X,w.alloc (.cells #[.float .f64 0,.float .f64 0,.bool false] 71) = X:=⟨_,rfl⟩
 rw [hX] at Z0 Z1 Z2 ⊢
 have hxs:=blk_lt Z0
 clear hX HA
 go_wp2_with fail
 refine (new_any _).mono ?_
 rintro e w1 ⟨rfl,a1,b1,s1⟩
 go_wp2_with fail
 refine (new_any _).mono ?_
 rintro e w2 ⟨rfl,a2,b2,s2⟩
 rw [s1] at a2 s2
 have q1:AccO w2 X.heap.size (some 0):=a1.below b2 (by omega)
 have q3:AccO w2 P o:=(Z2.below b1 (by omega)).below b2 (by omega)
 go_wp2_with fail
 refine (accAdd_any X.heap.size (some 0) c hc _ q1).mono ?_
 rintro e w3 ⟨rfl,a3,c3⟩
 have q4:AccO w3 P o:=q3.chg c3 (by omega)
 have q5:AccO w3 (X.heap.size + 1) (some 0):=a2.chg c3 (by omega)
 go_wp2_with fail
 refine (accJoin_any X.heap.size P _ o true _ a3 q4).mono ?_
 rintro e w4 ⟨rfl,a4,c4⟩
 have q6:AccO w4 P o:=q4.chg c4 (by omega)
 have q7:AccO w4 (X.heap.size + 1) (some 0):=q5.chg c4 (by omega)
 go_wp2_with fail
 refine (accAdd_any (X.heap.size + 1) (some 0) c hc _ q7).mono ?_
 rintro e w5 ⟨rfl,a5,c5⟩
 have q8:AccO w5 P o:=q6.chg c5 (by omega)
 have q9:AccO w5 X.heap.size (joinO (one1 c) o true):=a4.chg c5 (by omega)
 go_wp2_with fail
 refine (accJoin_any (X.heap.size + 1) P _ o false _ a5 q8).mono ?_
 rintro e w6 ⟨rfl,a6,c6⟩
 have q10:AccO w6 X.heap.size (joinO (one1 c) o true):=q9.chg c6 (by omega)
 have z6:Below w.heap.size w w6:=Z1.trans ((b1.mono (by omega)).trans ((b2.mono (by omega)).trans ((c3.below.mono (by omega)).trans ((c4.below.mono (by omega)).trans ((c5.below.mono (by omega)).trans (c6.below.mono (by omega)))))))
 have k6:w6.heap[w.heap.size]? = some (.cells #[.float .f64 0,.float .f64 0,.bool false] 71):=by
  have h3:=c3.below.size
  have h4:=c4.below.size
  have h5:=c5.below.size
  rw [c6.other _ (by omega) (by omega),c5.other _ (by omega) (by omega),c4.other _ (by omega) (by omega),c3.other _ (by omega) (by omega),b2.block _ (by omega),b1.block _ (by omega)]
  exact Z0
 have HQ:Hid _:=And.intro a6 (And.intro q10 (And.intro z6 k6))
 clear a1 b1 s1 a2 b2 s2 q1 q3 a3 c3 q4 q5 a4 c4 q6 q7 a5 c5 q8 q9 a6 c6 q10 z6 k6 Z0 Z1 Z2
 go_wp2_with fail
 refine (accRound_any 2 X.heap.size _ _ HQ.out.2.1).mono ?_
 rintro e w7 ⟨lo,low,rfl,r7,b7⟩
 have HR7:Hid (RndO 2 (joinO (one1 c) o true) lo low):=r7
 clear r7
 go_wp2_with fail
 refine (accRound_any 1 (X.heap.size + 1) _ _ (HQ.out.1.below b7 HQ.out.1.block)).mono ?_
 rintro e w8 ⟨hi,high,rfl,r8,b8⟩
 have HR8:Hid (RndO 1 (joinO (one1 c) o false) hi high):=r8
 have HB8:Hid (Below w.heap.size w w8 /\ w8.heap[w.heap.size]? = some (.cells #[.float .f64 0,.float .f64 0,.bool false] 71)):=⟨to_call (to_call HQ.out.2.2.1 b7) b8,kept b8 (kept b7 HQ.out.2.2.2)⟩
 clear r8 b7 b8 HQ
 have hlo:=RndO.ltJ HR7.out
 have hhi:=RndO.ltJ HR8.out
 cases low with
 | false=>
  go_wp2_with (first
   | (refine wpList_store_row (by rfl) 71 _ _ (by rfl) w w.heap.size w.heap.size _ _ (by rfl) (by rfl) HB8.out.2 HB8.out.1 (Nat.le_refl _) 3 Tryz.infoSpJ (by rfl) (by rfl) (oneSp ..) ?_;intro W9 e9 b9 s9 o9))
  exact bodyPost_ret (res_oneJ _ 4 71 (by kernel_rfl) _ _ w.heap.size _ (by rfl) _ Tryz.underlying71 rfl 3 Tryz.infoSpJ rfl e9) rfl ⟨⟨(0,0,true),rfl,lo,false,hi,high,HR7.out,HR8.out,rfl⟩,b9⟩
 | true=>
  cases high with
  | false=>
   go_wp2_with (first
    | (refine wpList_store_row (by rfl) 71 _ _ (by rfl) w w.heap.size w.heap.size _ _ (by rfl) (by rfl) HB8.out.2 HB8.out.1 (Nat.le_refl _) 3 Tryz.infoSpJ (by rfl) (by rfl) (oneSp ..) ?_;intro W9 e9 b9 s9 o9))
   exact bodyPost_ret (res_oneJ _ 4 71 (by kernel_rfl) _ _ w.heap.size _ (by rfl) _ Tryz.underlying71 rfl 3 Tryz.infoSpJ rfl e9) rfl ⟨⟨(0,0,true),rfl,lo,true,hi,false,HR7.out,HR8.out,rfl⟩,b9⟩
  | true=>
   go_wp2_with (first
    | (go_at_call 92;refine (make_any lo hi hlo hhi _).mono ?_;rintro e w9 ⟨rfl,b9'⟩)
    | (refine wpList_store_row (by rfl) 71 _ _ (by rfl) w w.heap.size w.heap.size _ _ (by rfl) (by rfl) (kept b9' HB8.out.2) (to_call HB8.out.1 b9') (Nat.le_refl _) 3 Tryz.infoSpJ (by rfl) (by rfl) (oneSp ..) ?_;intro W9 e9 b9 s9 o9))
   exact bodyPost_ret (res_oneJ _ 4 71 (by kernel_rfl) _ _ w.heap.size _ (by rfl) _ Tryz.underlying71 rfl 3 Tryz.infoSpJ rfl e9) rfl ⟨⟨makeS lo hi,rfl,lo,true,hi,true,HR7.out,HR8.out,rfl⟩,b9⟩
theorem Tryz.infoSp3:(Tryz.prog.info? 71).map (fun i=>(i.zero,i.size,i.bytes)) = some (some (.agg #[.float .f64 0,.float .f64 0,.bool false]),3,24):=by kernel_rfl
def spN (n:Nat):Array Value:=madeCells #[.float .f64 0,.float .f64 0,.bool false] (n * 3)
theorem spN_size (n:Nat):(spN n).size = n * 3:=by unfold spN madeCells;simp
theorem makeSp (n:Nat) (hn:n <= 1000000) (w:World) :
  (Instr.makeSlice 66 (.int .i64 (n:Int)) (.int .i64 (n:Int))).run Tryz.prog w = .ok (.slice (some ⟨w.heap.size,0,none⟩) n n) (w.alloc (.cells (spN n) 71)):=by
 obtain ⟨i0,hi,hz0,hz1,hz2⟩:=info3J Tryz.infoSp3
 have h:=run_makeSlice (P:=Tryz.prog) w 66 71 i0 (.agg #[.float .f64 0,.float .f64 0,.bool false]) Tryz.underlying66 hi hz0 .i64 .i64 (n:Int) (n:Int) (by omega) (by omega) (by rw [hz1,Int.toNat_natCast];omega) (by rw [hz2];omega) (by omega)
 rw [Int.toNat_natCast,hz1] at h
 exact h
def put3 (arr:Array Value) (o:Nat) (a b c:Value):Array Value:=(arr.toList.take o ++ [a,b,c] ++ arr.toList.drop (o + 3)).toArray
theorem put3_size (arr:Array Value) (o:Nat) (a b c:Value) (h:o + 3 <= arr.size):(put3 arr o a b c).size = arr.size:=by unfold put3;simp;omega
theorem put3_at (arr:Array Value) (o:Nat) (a b c:Value) (h:o + 3 <= arr.size):(put3 arr o a b c)[o]? = some a /\ (put3 arr o a b c)[o + 1]? = some b /\ (put3 arr o a b c)[o + 2]? = some c:=by
 have hl:(arr.toList.take o).length = o:=by simp;omega
 unfold put3
 simp only [List.getElem?_toArray,List.append_assoc]
 refine ⟨?_,?_,?_⟩
 ·rw [List.getElem?_append_right (by omega),hl,Nat.sub_self];rfl
 ·rw [List.getElem?_append_right (by omega),hl,show o + 1 - o = 1 by omega];rfl
 ·rw [List.getElem?_append_right (by omega),hl,show o + 2 - o = 2 by omega];rfl
theorem put3_lo (arr:Array Value) (o:Nat) (a b c:Value) (h:o + 3 <= arr.size) (i:Nat) (hi:i < o):(put3 arr o a b c)[i]? = arr[i]?:=by
 unfold put3
 simp only [List.getElem?_toArray,List.append_assoc]
 rw [List.getElem?_append_left (by simp;omega),List.getElem?_take_of_lt hi]
 simp
structure SpL (w:World) (g n k:Nat) (R:Nat -> Nat × Nat × Bool -> Prop):Prop where
 ex:∃ arr:Array Value,w.heap[g]? = some (.cells arr 71) /\ arr.size = n * 3 /\ ∀ j,j < k -> ∃ r,R j r /\ arr[j * 3]? = some (.float .f64 r.1) /\ arr[j * 3 + 1]? = some (.float .f64 r.2.1) /\ arr[j * 3 + 2]? = some (.bool r.2.2)
theorem SpL.heap {w w':World} {g n k:Nat} {R:Nat -> Nat × Nat × Bool -> Prop} (h:SpL w g n k R) (hk:w'.heap[g]? = w.heap[g]?):SpL w' g n k R:=by obtain ⟨arr,h1,h2⟩:=h.ex;exact ⟨arr,hk.trans h1,h2⟩
theorem bounds_ok (z:ZD) (w:World) (hz:ZR w z) (hc:checkB z = true) (hb:z.bad = false) (hN:z.N = (z.rn:Int)) (hrn:z.rn <= 100000) (hdg:z.dn <= z.gn) (hcn:z.cn = z.rn) (hw:∀ k,k < z.dn -> (z.gs[k]?.getD []).length = z.rn) :
  Calls Tryz.prog 27 #[.agg #[.int .i64 z.N,.slice z.co z.cn z.cc,.slice z.io z.dn z.dc,.slice z.go z.gn z.gc,.slice z.ro z.rn z.rc,.bool z.bad]] w fun e w'=>(∃ g,e = .returned (.slice (some ⟨g,0,none⟩) z.rn z.rn) /\ w.heap.size <= g /\ SpL w' g z.rn z.rn (fun j r=>AroR (z.cs[j]?.getD 0) (farZ z j) r)) /\ Below w.heap.size w w':=by
 have HZ:Hid (∀ W',Below w.heap.size w W' -> ZR W' z):=fun W' hb=>hz.later hb
 have HT:Hid (∀ W',Below w.heap.size w W' -> Calls Tryz.prog 19 #[.agg #[.int .i64 z.N,.slice z.co z.cn z.cc,.slice z.io z.dn z.dc,.slice z.go z.gn z.gc,.slice z.ro z.rn z.rc,.bool z.bad]] W' fun e w'=>e = .returned (.agg #[.int .i64 z.N,.slice z.co z.cn z.cc,.slice z.io z.dn z.dc,.slice z.go z.gn z.gc,.slice z.ro z.rn z.rc,.bool z.bad]) /\ Below W'.heap.size W' w'):=fun W' hb=>taken_ok z W' (hz.later hb) hc
 have HRe:Hid (∀ W',Below w.heap.size w W' -> _):=fun W' hb=>reaches_any z W' (hz.later hb) hrn hdg hw
 obtain ⟨fz,hfz⟩:∃ fz,farZ z = fz:=⟨_,rfl⟩
 rw [hfz] at HRe ⊢
 have HCL:Hid (z.cs.length = z.cn):=hz.c.length
 clear hz hc hw hfz
 obtain ⟨N,co,cn,cc,io,dn,dc,go,gn,gc,ro,rn,rc,bad,cs,ids,gv,gs,rs⟩:=z
 dsimp only at HZ HT HRe HCL hb hN hrn hdg hcn ⊢
 subst hb
 subst hN
 have HCN:Hid (cn = rn):=hcn
 clear hcn
 have X0:Below w.heap.size w (w.alloc (.cells #[.int .i64 (rn:Int),.slice co cn cc,.slice io dn dc,.slice go gn gc,.slice ro rn rc,.bool false] 26)):=(Below.refl _ w).alloc (Nat.le_refl _) _
 have hmk:=makeSp rn (by omega)
 go_enter Tryz.func27,Tryz.ntmps27
 go_upto_region 2 with (first
  | (go_at_call 19;refine Calls.mono (HT.out _ X0) ?_;rintro e w1 ⟨rfl,hb1⟩)
  | (refine wpList_store_row (by rfl) 26 _ _ (by rfl) w w.heap.size w.heap.size _ _ (by rfl) (by rfl) (kept hb1 (heap_alloc_new w _)) (to_call X0 hb1) (Nat.le_refl _) 6 Tryz.infoZ (by rfl) (by rfl) (oneZ _ _ _ _ _ rfl rfl rfl rfl _) ?_;intro W2 e2 b2 s2 o2))
 have HK2:Hid (Below w.heap.size w W2 /\ W2.heap[w.heap.size]? = some (.cells #[.int .i64 (rn:Int),.slice co cn cc,.slice io dn dc,.slice go gn gc,.slice ro rn rc,.bool false] 26)):=⟨b2,e2⟩
 have hw2:=blk_lt e2
 clear X0 hb1 b2 s2 o2 HT e2
 obtain ⟨c0,c1,c2,c3,c4,c5⟩:=cells6 HK2.out.2
 go_upto_region 5 with fail
 have Y0:(W2.alloc (.cells (spN rn) 71)).heap[w.heap.size]? = some (.cells #[.int .i64 (rn:Int),.slice co cn cc,.slice io dn dc,.slice go gn gc,.slice ro rn rc,.bool false] 26):=alloc_kept HK2.out.2 _
 have Y1:(W2.alloc (.cells (spN rn) 71)).heap[W2.heap.size]? = some (.cells (spN rn) 71):=heap_alloc_new W2 _
 have Y2:Below w.heap.size w (W2.alloc (.cells (spN rn) 71)):=HK2.out.1.alloc HK2.out.1.size _
 obtain ⟨X,hX⟩:∃ X,W2.alloc (.cells (spN rn) 71) = X:=⟨_,rfl⟩
 rw [hX] at Y0 Y1 Y2 ⊢
 clear hX hmk c0 c1 c2 c3 c4 c5 HK2
 go_wp2_with (first
  | (refine wpList_load_row (by rfl) 26 _ (by rfl) w.heap.size _ (by rfl) Y0 _ Tryz.underlying26 rfl 6 Tryz.infoZ (by rfl) ?_)
  | (go_at_call 57;refine Calls.mono (HRe.out _ Y2) ?_;rintro e w4 ⟨rfl,⟨p,hp⟩,b4,s4⟩))
 have HP0:Hid (AcL w4 (X.heap.size + 1) rn p fz):=hp
 have H40:Hid (Below w.heap.size w w4 /\ w4.heap[w.heap.size]? = some (.cells #[.int .i64 (rn:Int),.slice co cn cc,.slice io dn dc,.slice go gn gc,.slice ro rn rc,.bool false] 26)):=⟨to_call Y2 b4,kept b4 Y0⟩
 have HL0:Hid (SpL w4 W2.heap.size rn 0 (fun j r=>AroR (cs[j]?.getD 0) (fz j) r)):=⟨_,kept b4 Y1,spN_size rn,fun j hj=>by omega⟩
 have HGX:Hid (W2.heap.size < X.heap.size):=blk_lt Y1
 have HS4:Hid (X.heap.size + 1 < w4.heap.size):=s4
 clear hp b4 s4 Y0 Y1 Y2 HRe
 go_loopg [16] rn (fun g iv wx=>∃ k:Nat,iv = .int .i64 k /\ k + g = rn /\ Hid (AcL wx (X.heap.size + 1) rn p fz) /\ Hid (Below w.heap.size w wx /\ wx.heap[w.heap.size]? = some (.cells #[.int .i64 (rn:Int),.slice co cn cc,.slice io dn dc,.slice go gn gc,.slice ro rn rc,.bool false] 26)) /\ Hid (SpL wx W2.heap.size rn k (fun j r=>AroR (cs[j]?.getD 0) (fz j) r)) /\ Hid (X.heap.size + 1 < wx.heap.size))
 case atStart=>exact ⟨0,rfl,by omega,HP0,H40,HL0,HS4⟩
 case round=>
  clear HP0 H40 HL0 HS4
  obtain ⟨k,rfl,hk,HP,H4,HL,HS⟩:=hrel
  by_cases hlt:k < rn
  ·have hd:decide ((k:Int) < (rn:Int)) = true:=decide_eq_true (by omega)
   obtain ⟨g,rfl⟩:∃ g,gk = g + 1:=⟨gk - 1,by omega⟩
   have hzc:=(HZ.out _ H4.out.1).c
   dsimp only at hzc
   rcases hzc.cells with h0 | ⟨cb,coff,rfl,hcc⟩
   ·have:=HCN.out;omega
   have hltc:k < cn:=by rw [HCN.out];exact hlt
   have gc':=hcc k hltc
   have hxl:=hzc.lt _ (getD_mem (us:=cs) (j:=k) (by have:=HCL.out;have:=HCN.out;omega))
   obtain ⟨x,hx⟩:∃ x,cs[k]?.getD 0 = x:=⟨_,rfl⟩
   have HX:Hid (cs[k]?.getD 0 = x):=hx
   rw [hx] at gc' hxl
   have gp:=HP.out.row k hlt
   obtain ⟨d0,d1,d2,d3,d4,d5⟩:=cells6 H4.out.2
   have HAr:Hid _:=around_any x hxl (p k) (fz k) wr (HP.out.acc k hlt)
   have HIG:Hid (k + (g + 1) = rn):=hk
   have hkr3:k * 3 + 3 <= rn * 3:=by omega
   obtain ⟨arr,ha1,ha2,ha3⟩:=HL.out.ex
   have HRr:Hid _:=ha3
   clear hcc hx hk hzc hxl ha3
   go_wp2_with (first
    | (go_at_call 58;refine Calls.mono HAr.out ?_;rintro e w5 ⟨⟨r,rfl,hr⟩,b5⟩)
    | (refine wpList_store_at (by rfl) 71 _ _ (by rfl) w w.heap.size W2.heap.size (k * 3) (.agg #[.float .f64 r.1,.float .f64 r.2.1,.bool r.2.2]) _ (put3 arr (k * 3) (.float .f64 r.1) (.float .f64 r.2.1) (.bool r.2.2)) 71 (by rfl) (by rfl) (kept b5 ha1) (to_call H4.out.1 b5) (by omega) 3 Tryz.infoSpJ (by rfl) (by rw [ha2];exact hkr3) (by intro u hu;simp [Value.cells] at hu;rcases hu with rfl | rfl | rfl <;> rfl) (by rfl) ?_;intro w7 e7 b7 s7 o7))
   have hgx:=HGX.out
   have hsr:=HS.out
   have h5s:=b5.size
   have HP7:Hid (AcL w7 (X.heap.size + 1) rn p fz):=(HP.out.later b5 HS.out).heap (fun i hi _=>o7 i (by omega)) (by omega)
   have H47:Hid (Below w.heap.size w w7 /\ w7.heap[w.heap.size]? = some (.cells #[.int .i64 (rn:Int),.slice (some ⟨cb,coff,none⟩) cn cc,.slice io dn dc,.slice go gn gc,.slice ro rn rc,.bool false] 26)):=⟨b7,(o7 _ (by omega)).trans (kept b5 H4.out.2)⟩
   have HL7:Hid (SpL w7 W2.heap.size rn (k + 1) (fun j r=>AroR (cs[j]?.getD 0) (fz j) r)):=by
    refine ⟨_,e7,by rw [put3_size _ _ _ _ _ (by rw [ha2];exact hkr3),ha2],fun j hj=>?_⟩
    by_cases e:j = k
    ·subst e
     exact ⟨r,by rw [HX.out];exact hr,put3_at _ _ _ _ _ (by rw [ha2];exact hkr3)⟩
    ·obtain ⟨r',h1,h2,h3,h4⟩:=HRr.out j (by omega)
     exact ⟨r',h1,(put3_lo _ _ _ _ _ (by rw [ha2];exact hkr3) _ (by omega)).trans h2,(put3_lo _ _ _ _ _ (by rw [ha2];exact hkr3) _ (by omega)).trans h3,(put3_lo _ _ _ _ _ (by rw [ha2];exact hkr3) _ (by omega)).trans h4⟩
   have HS7:Hid (X.heap.size + 1 < w7.heap.size):=by unfold Hid;omega
   clear hr b5 e7 b7 s7 o7 hgx hsr h5s ha1 ha2 gp gc' d0 d1 d2 d3 d4 d5 HX HRr HAr hkr3
   go_roundg g
   case measure=>omega
   case rel=>exact ⟨k + 1,by go_num,by have:=HIG.out;omega,HP7,H47,HL7,HS7⟩
  ·have hd:decide ((k:Int) < (rn:Int)) = false:=decide_eq_false (by omega)
   have hd':decide (k < rn) = false:=decide_eq_false (by omega)
   have hkr:k = rn:=by omega
   have HL2:Hid (SpL wr W2.heap.size rn rn (fun j r=>AroR (cs[j]?.getD 0) (fz j) r)):=hkr ▸ HL.out
   clear hkr
   go_wp2_with fail
   go_ret
   exact ⟨⟨W2.heap.size,rfl,by omega,HL2.out⟩,H4.out.1⟩
open Go.RowKit Go.Shelf
open Ieee
theorem fval_zeroJ:fval 0 = 0:=by decide +kernel
theorem fin_zeroJ:Fin 0:=by decide
structure FnZ (z:ZD):Prop where
 c:∀ j:Nat,Fin (z.cs[j]?.getD 0)
 r:∀ j:Nat,Fin (z.rs[j]?.getD 0)
 g:∀ k j:Nat,Fin ((z.gs[k]?.getD [])[j]?.getD 0)
 few:z.dn <= 1050000
open Ieee
theorem RndO.some_iff {d:Int} {x:Int} {u a:Nat} {b:Bool} (ha:a = 1166) (h:RndO d (some x) u b):RndZ d x (2 ^ a) (u,b):=h a ha
end Go.Proofs.YtoflalhiihcofaaGreat
namespace Go.Proofs.YtoflalhiihcofaaGreat
open Go.RowKit
theorem plainM_ltJ {x:Nat} (h:x < 18446744073709551616):plainM x < 18446744073709551616:=by unfold plainM;split <;> omega
theorem drop_eqI {is js:List Int} {k:Nat} (h1:k < is.length) (h2:k < js.length):decide (is.drop k = js.drop k) = (decide (is[k]?.getD 0 = js[k]?.getD 0) && decide (is.drop (k + 1) = js.drop (k + 1))):=by
 rw [List.drop_eq_getElem_cons h1,List.drop_eq_getElem_cons h2,List.getElem?_eq_getElem h1,List.getElem?_eq_getElem h2]
 simp only [List.cons.injEq,Option.getD_some,Bool.decide_and]
theorem equalI_any (ao bo:Option Addr) (al ac bl bc:Nat) (is js:List Int) (w:World) (h:RdIs w ao al ac is) (h':RdIs w bo bl bc js) :
  Calls Tryz.prog 22 #[.slice ao al ac,.slice bo bl bc] w fun e w'=>e = .returned (.bool (decide (is = js))) /\ Below w.heap.size w w':=by
 have HR:Hid _:=h
 have HR':Hid _:=h'
 have HLN:Hid (is.length = al /\ js.length = bl /\ al <= 9223372036854775807):=⟨h.length,h'.length,Nat.le_trans h.max maxLen_le⟩
 have hmx:al <= 9223372036854775807:=Nat.le_trans h.max maxLen_le
 clear h h'
 by_cases hn:al = bl
 ·subst hn
  go_enter Tryz.func22,Tryz.ntmps22
  go_wp2_with fail
  go_loopg [13] al (fun g iv wx=>∃ k:Nat,iv = .int .i64 k /\ k + g = al /\ Hid (Below w.heap.size w wx) /\ Hid (decide (is.drop k = js.drop k) = decide (is = js)))
  case atStart=>exact ⟨0,rfl,by omega,Below.refl _ w,rfl⟩
  case round=>
   obtain ⟨k,rfl,hk,HB,HD⟩:=hrel
   by_cases hlt:k < al
   ·have hd:decide ((k:Int) < (al:Int)) = true:=decide_eq_true (by omega)
    obtain ⟨g,rfl⟩:∃ g,gk = g + 1:=⟨gk - 1,by omega⟩
    rcases (HR.out.later HB.out).cells with h0 | ⟨ab,aoff,rfl,hca⟩
    ·omega
    rcases (HR'.out.later HB.out).cells with h0 | ⟨bb,boff,rfl,hcb⟩
    ·omega
    have ga:=hca k hlt
    have gb:=hcb k hlt
    have HDs:Hid (_ = _):=drop_eqI (is:=is) (js:=js) (k:=k) (by rw [HLN.out.1];exact hlt) (by rw [HLN.out.2.1];exact hlt)
    obtain ⟨x,hx⟩:∃ x,is[k]?.getD 0 = x:=⟨_,rfl⟩
    obtain ⟨y,hy⟩:∃ y,js[k]?.getD 0 = y:=⟨_,rfl⟩
    rw [hx,hy] at HDs
    rw [hx] at ga
    rw [hy] at gb
    have HIG:Hid (k + (g + 1) = al):=hk
    clear hca hcb hx hy hk
    by_cases hxy:x = y
    ·subst hxy
     go_wp2_with fail
     go_region
     go_wp2_with fail
     go_roundg g
     case measure=>omega
     case rel=>exact ⟨k + 1,by go_num,by have:=HIG.out;omega,below_drewN HB.out _,by
      have h1:=HDs.out
      rw [show decide True = true from rfl,Bool.true_and] at h1
      unfold Hid;rw [<- h1];exact HD.out⟩
    ·have hne:(x != y) = true:=by simpa using hxy
     have HE:Hid (decide (is = js) = false):=by
      have h1:=HDs.out
      rw [decide_eq_false hxy,Bool.false_and] at h1
      unfold Hid;rw [<- HD.out];exact h1
     go_wp2_with fail
     go_region
     go_wp2_with fail
     go_ret
     exact ⟨by rw [HE.out];rfl,below_drewN HB.out _⟩
   ·have hd:decide ((k:Int) < (al:Int)) = false:=decide_eq_false (by omega)
    have hd':decide (k < al) = false:=decide_eq_false (by omega)
    have HE:Hid (decide (is = js) = true):=by
     have h1:=HD.out
     rw [List.drop_eq_nil_of_le (by rw [HLN.out.1];omega),List.drop_eq_nil_of_le (by rw [HLN.out.2.1];omega),decide_eq_true rfl] at h1
     exact h1.symm
    go_wp2_with fail
    go_ret
    exact ⟨by rw [HE.out];rfl,HB.out⟩
 ·have hd:((al:Int) != (bl:Int)) = true:=by simpa using (show ¬ ((al:Int) = (bl:Int)) by omega)
  have HE:Hid (decide (is = js) = false):=by
   unfold Hid
   refine decide_eq_false fun c=>hn ?_
   rw [<- HLN.out.1,<- HLN.out.2.1,c]
  go_enter Tryz.func22,Tryz.ntmps22
  go_wp2_with fail
  go_ret
  exact ⟨by rw [HE.out];rfl,Below.refl _ w⟩
open Go.RowKit Go.Shelf
theorem neq_ord {u v:Nat} (hu:Fin u) (hv:Fin v):(FloatKind.f64.format.order u v == some Ordering.eq) = decide (srung u = srung v):=by
 have ho:=order_rung (x:=u) (y:=v) (Nat.le_of_lt hu) (Nat.le_of_lt hv)
 rw [f64_fmtJ,ho]
 by_cases h:srung u = srung v
 ·rw [Int.compare_eq_eq.2 h,decide_eq_true h];rfl
 ·rw [decide_eq_false h]
  by_cases h2:srung u < srung v
  ·rw [Int.compare_eq_lt.2 h2];rfl
  ·rw [Int.compare_eq_gt.2 (by omega)];rfl
theorem neq_ordN {u v:Nat} (hu:Fin u) (hv:Fin v):(FloatKind.f64.format.order u v != some Ordering.eq) = !decide (srung u = srung v):=by
 rw [<- neq_ord hu hv];rfl
def sameL (us vs:List Nat):Bool:=decide (us.map srung = vs.map srung)
theorem drop_eqF {us vs:List Nat} {k:Nat} (h1:k < us.length) (h2:k < vs.length):sameL (us.drop k) (vs.drop k) = (decide (srung (us[k]?.getD 0) = srung (vs[k]?.getD 0)) && sameL (us.drop (k + 1)) (vs.drop (k + 1))):=by
 unfold sameL
 rw [List.drop_eq_getElem_cons h1,List.drop_eq_getElem_cons h2,List.getElem?_eq_getElem h1,List.getElem?_eq_getElem h2]
 simp only [List.map_cons,List.cons.injEq,Option.getD_some,Bool.decide_and]
theorem equalF_any (ao bo:Option Addr) (al ac bl bc:Nat) (us vs:List Nat) (hu:∀ u ∈ us,Fin u) (hv:∀ v ∈ vs,Fin v) (w:World) (h:RdF w ao al ac us) (h':RdF w bo bl bc vs) :
  Calls Tryz.prog 23 #[.slice ao al ac,.slice bo bl bc] w fun e w'=>e = .returned (.bool (sameL us vs)) /\ Below w.heap.size w w':=by
 have HR:Hid _:=h
 have HR':Hid _:=h'
 have HLN:Hid (us.length = al /\ vs.length = bl /\ al <= 9223372036854775807):=⟨h.length,h'.length,Nat.le_trans h.max maxLen_le⟩
 have hmx:al <= 9223372036854775807:=Nat.le_trans h.max maxLen_le
 have HFu:Hid _:=hu
 have HFv:Hid _:=hv
 clear h h' hu hv
 by_cases hn:al = bl
 ·subst hn
  go_enter Tryz.func23,Tryz.ntmps23
  go_wp2_with fail
  go_loopg [13] al (fun g iv wx=>∃ k:Nat,iv = .int .i64 k /\ k + g = al /\ Hid (Below w.heap.size w wx) /\ Hid (sameL (us.drop k) (vs.drop k) = sameL us vs))
  case atStart=>exact ⟨0,rfl,by omega,Below.refl _ w,rfl⟩
  case round=>
   obtain ⟨k,rfl,hk,HB,HD⟩:=hrel
   by_cases hlt:k < al
   ·have hd:decide ((k:Int) < (al:Int)) = true:=decide_eq_true (by omega)
    obtain ⟨g,rfl⟩:∃ g,gk = g + 1:=⟨gk - 1,by omega⟩
    rcases (HR.out.later HB.out).cells with h0 | ⟨ab,aoff,rfl,hca⟩
    ·omega
    rcases (HR'.out.later HB.out).cells with h0 | ⟨bb,boff,rfl,hcb⟩
    ·omega
    have ga:=hca k hlt
    have gb:=hcb k hlt
    have HDs:Hid (_ = _):=drop_eqF (us:=us) (vs:=vs) (k:=k) (by rw [HLN.out.1];exact hlt) (by rw [HLN.out.2.1];exact hlt)
    obtain ⟨x,hx⟩:∃ x,us[k]?.getD 0 = x:=⟨_,rfl⟩
    obtain ⟨y,hy⟩:∃ y,vs[k]?.getD 0 = y:=⟨_,rfl⟩
    rw [hx,hy] at HDs
    rw [hx] at ga
    rw [hy] at gb
    have HIG:Hid (k + (g + 1) = al):=hk
    have hox:=neq_ordN (HFu.out _ (getD_mem (us:=us) (j:=k) (by rw [HLN.out.1];exact hlt))) (HFv.out _ (getD_mem (us:=vs) (j:=k) (by rw [HLN.out.2.1];exact hlt)))
    rw [hx,hy] at hox
    clear hca hcb hx hy hk
    by_cases hxy:srung x = srung y
    ·rw [decide_eq_true hxy] at hox HDs
     rw [Bool.not_true] at hox
     clear hxy
     go_wp2_with fail
     go_region
     go_wp2_with fail
     go_roundg g
     case measure=>omega
     case rel=>exact ⟨k + 1,by go_num,by have:=HIG.out;omega,below_drewN HB.out _,by
      have h1:=HDs.out
      rw [Bool.true_and] at h1
      unfold Hid;rw [<- h1];exact HD.out⟩
    ·rw [decide_eq_false hxy] at hox HDs
     rw [Bool.not_false] at hox
     clear hxy
     have HE:Hid (sameL us vs = false):=by
      have h1:=HDs.out
      rw [Bool.false_and] at h1
      unfold Hid;rw [<- HD.out];exact h1
     go_wp2_with fail
     go_region
     go_wp2_with fail
     go_ret
     exact ⟨by rw [HE.out];rfl,below_drewN HB.out _⟩
   ·have hd:decide ((k:Int) < (al:Int)) = false:=decide_eq_false (by omega)
    have hd':decide (k < al) = false:=decide_eq_false (by omega)
    have HE:Hid (sameL us vs = true):=by
     have h1:=HD.out
     rw [List.drop_eq_nil_of_le (by rw [HLN.out.1];omega),List.drop_eq_nil_of_le (by rw [HLN.out.2.1];omega)] at h1
     exact h1.symm
    go_wp2_with fail
    go_ret
    exact ⟨by rw [HE.out];rfl,HB.out⟩
 ·have hd:((al:Int) != (bl:Int)) = true:=by simpa using (show ¬ ((al:Int) = (bl:Int)) by omega)
  have HE:Hid (sameL us vs = false):=by
   unfold Hid
   refine decide_eq_false fun c=>hn ?_
   have:=congrArg List.length c
   rw [List.length_map,List.length_map,HLN.out.1,HLN.out.2.1] at this
   exact this
  go_enter Tryz.func23,Tryz.ntmps23
  go_wp2_with fail
  go_ret
  exact ⟨by rw [HE.out];rfl,Below.refl _ w⟩
def sameG (us vs:List (List Nat)):Bool:=decide (us.map (·.map srung) = vs.map (·.map srung))
theorem drop_eqG {us vs:List (List Nat)} {k:Nat} (h1:k < us.length) (h2:k < vs.length):sameG (us.drop k) (vs.drop k) = (sameL (us[k]?.getD []) (vs[k]?.getD []) && sameG (us.drop (k + 1)) (vs.drop (k + 1))):=by
 unfold sameG sameL
 rw [List.drop_eq_getElem_cons h1,List.drop_eq_getElem_cons h2,List.getElem?_eq_getElem h1,List.getElem?_eq_getElem h2]
 simp only [List.map_cons,List.cons.injEq,Option.getD_some,Bool.decide_and]
theorem getD_memG {us:List (List Nat)} {j:Nat} (h:j < us.length):us[j]?.getD [] ∈ us:=by
 rw [List.getElem?_eq_getElem h];exact List.getElem_mem h
theorem equalG_any (ao bo:Option Addr) (al ac bl bc:Nat) (gu gv:Nat -> Option Addr × Nat × Nat) (us vs:List (List Nat)) (hu:∀ l ∈ us,∀ u ∈ l,Fin u) (hv:∀ l ∈ vs,∀ v ∈ l,Fin v) (w:World) (h:RdGs w ao al ac gu us) (h':RdGs w bo bl bc gv vs) :
  Calls Tryz.prog 24 #[.slice ao al ac,.slice bo bl bc,.func (.func 23) #[] #[]] w fun e w'=>e = .returned (.bool (sameG us vs)) /\ Below w.heap.size w w':=by
 have HR:Hid _:=h
 have HR':Hid _:=h'
 have HLN:Hid (us.length = al /\ vs.length = bl /\ al <= 9223372036854775807):=⟨h.length,h'.length,Nat.le_trans h.max maxLen_le⟩
 have hmx:al <= 9223372036854775807:=Nat.le_trans h.max maxLen_le
 have HFu:Hid _:=hu
 have HFv:Hid _:=hv
 clear h h' hu hv
 by_cases hn:al = bl
 ·subst hn
  go_enter Tryz.func24,Tryz.ntmps24
  go_wp2_with fail
  go_loopg [17] al (fun g iv wx=>∃ k:Nat,iv = .int .i64 k /\ k + g = al /\ Hid (Below w.heap.size w wx) /\ Hid (sameG (us.drop k) (vs.drop k) = sameG us vs))
  case atStart=>exact ⟨0,rfl,by omega,Below.refl _ w,rfl⟩
  case round=>
   obtain ⟨k,rfl,hk,HB,HD⟩:=hrel
   by_cases hlt:k < al
   ·have hd:decide ((k:Int) < (al:Int)) = true:=decide_eq_true (by omega)
    obtain ⟨g,rfl⟩:∃ g,gk = g + 1:=⟨gk - 1,by omega⟩
    rcases (HR.out.later HB.out).cells with h0 | ⟨ab,aoff,rfl,hca⟩
    ·omega
    rcases (HR'.out.later HB.out).cells with h0 | ⟨bb,boff,rfl,hcb⟩
    ·omega
    have ga:=hca k hlt
    have gb:=hcb k hlt
    have hk1:k < us.length:=by rw [HLN.out.1];exact hlt
    have hk2:k < vs.length:=by rw [HLN.out.2.1];exact hlt
    have HDs:Hid (_ = _):=drop_eqG (us:=us) (vs:=vs) (k:=k) hk1 hk2
    have HC:Hid (Calls Tryz.prog 23 #[.slice (gu k).1 (gu k).2.1 (gu k).2.2,.slice (gv k).1 (gv k).2.1 (gv k).2.2] wr fun e w'=>e = .returned (.bool (sameL (us[k]?.getD []) (vs[k]?.getD []))) /\ Below wr.heap.size wr w'):=equalF_any _ _ _ _ _ _ _ _ (HFu.out _ (getD_memG hk1)) (HFv.out _ (getD_memG hk2)) wr ((HR.out.later HB.out).each k hlt) ((HR'.out.later HB.out).each k hlt)
    have HIG:Hid (k + (g + 1) = al):=hk
    clear hca hcb hk hk1 hk2
    cases hxy:sameL (us[k]?.getD []) (vs[k]?.getD []) with
    | true=>
     rw [hxy] at HC HDs
     clear hxy
     go_wp2_with (go_at_call 23;refine HC.out.mono ?_;rintro e w1 ⟨rfl,hb1⟩)
     have HB1:Hid (Below w.heap.size w w1):=HB.out.trans (hb1.mono HB.out.size)
     go_roundg g
     case measure=>omega
     case rel=>exact ⟨k + 1,by go_num,by have:=HIG.out;omega,HB1,by
      have h1:=HDs.out
      rw [Bool.true_and] at h1
      unfold Hid;rw [<- h1];exact HD.out⟩
    | false=>
     rw [hxy] at HC HDs
     clear hxy
     have HE:Hid (sameG us vs = false):=by
      have h1:=HDs.out
      rw [Bool.false_and] at h1
      unfold Hid;rw [<- HD.out];exact h1
     go_wp2_with (go_at_call 23;refine HC.out.mono ?_;rintro e w1 ⟨rfl,hb1⟩)
     go_ret
     exact ⟨by rw [HE.out];rfl,HB.out.trans (hb1.mono HB.out.size)⟩
   ·have hd:decide ((k:Int) < (al:Int)) = false:=decide_eq_false (by omega)
    have hd':decide (k < al) = false:=decide_eq_false (by omega)
    have HE:Hid (sameG us vs = true):=by
     have h1:=HD.out
     rw [List.drop_eq_nil_of_le (by rw [HLN.out.1];omega),List.drop_eq_nil_of_le (by rw [HLN.out.2.1];omega)] at h1
     exact h1.symm
    go_wp2_with fail
    go_ret
    exact ⟨by rw [HE.out];rfl,HB.out⟩
 ·have hd:((al:Int) != (bl:Int)) = true:=by simpa using (show ¬ ((al:Int) = (bl:Int)) by omega)
  have HE:Hid (sameG us vs = false):=by
   unfold Hid
   refine decide_eq_false fun c=>hn ?_
   have:=congrArg List.length c
   rw [List.length_map,List.length_map,HLN.out.1,HLN.out.2.1] at this
   exact this
  go_enter Tryz.func24,Tryz.ntmps24
  go_wp2_with fail
  go_ret
  exact ⟨by rw [HE.out];rfl,Below.refl _ w⟩
def badZD:ZD:=⟨0,none,0,0,none,0,0,none,0,0,none,0,0,true,[],[],fun _=>(none,0,0),[],[]⟩
def tkZ (z:ZD):ZD:=if checkB z then z else badZD
def zRow (z:ZD):Array Value:=#[.int .i64 z.N,.slice z.co z.cn z.cc,.slice z.io z.dn z.dc,.slice z.go z.gn z.gc,.slice z.ro z.rn z.rc,.bool z.bad]
theorem badZD_ZR (w:World):ZR w badZD:=⟨⟨rfl,Nat.zero_le _,fun u hu=>(by cases hu),.inl rfl⟩,⟨rfl,Nat.zero_le _,.inl rfl⟩,⟨rfl,Nat.zero_le _,.inl rfl,fun j hj=>absurd hj (Nat.not_lt_zero _)⟩,⟨rfl,Nat.zero_le _,fun u hu=>(by cases hu),.inl rfl⟩⟩
theorem tkZ_ZR {w:World} {z:ZD} (h:ZR w z):ZR w (tkZ z):=by
 unfold tkZ
 split
 ·exact h
 ·exact badZD_ZR w
theorem takenZ_any (z:ZD) (w:World) (hz:ZR w z):Calls Tryz.prog 19 #[.agg (zRow z)] w fun e w'=>e = .returned (.agg (zRow (tkZ z))) /\ Below w.heap.size w w':=by
 unfold tkZ
 cases hc:checkB z with
 | true=>exact taken_ok z w hz hc
 | false=>exact taken_no z w hz hc
theorem colsB_mem (z:ZD):∀ (ks:List (_root_.Fin z.dn)) (last:Int),colsB z last ks = true -> ∀ k ∈ ks,∃ l,colOk z l k = true
 | [],_,_,k,hk=>by cases hk
 | c :: ks,last,h,k,hk=>by
  unfold colsB at h
  rw [Bool.and_eq_true] at h
  rcases List.mem_cons.1 hk with rfl | hk
  ·exact ⟨_,h.1⟩
  ·exact colsB_mem z ks _ h.2 k hk
structure FinZ (z:ZD):Prop where
 c:∀ u ∈ z.cs,Fin u
 r:∀ u ∈ z.rs,Fin u
 g:∀ l ∈ z.gs,∀ u ∈ l,Fin u
theorem tkZ_fin {w:World} {z:ZD} (h:ZR w z):FinZ (tkZ z):=by
 unfold tkZ
 cases hc:checkB z with
 | false=>exact ⟨fun u hu=>(by cases hu),fun u hu=>(by cases hu),fun u hu=>(by cases hu)⟩
 | true=>
  simp only [if_true]
  unfold checkB at hc
  cases hb:z.bad with
  | true=>
   rw [hb] at hc
   simp only [if_true,bareB,Bool.and_eq_true,decide_eq_true_eq] at hc
   have e1:z.cs = []:=List.length_eq_zero_iff.1 (by rw [h.c.length];omega)
   have e2:z.rs = []:=List.length_eq_zero_iff.1 (by rw [h.r.length];omega)
   have e3:z.gs = []:=List.length_eq_zero_iff.1 (by rw [h.g.length];omega)
   exact ⟨fun u hu=>(by rw [e1] at hu;cases hu),fun u hu=>(by rw [e2] at hu;cases hu),fun u hu=>(by rw [e3] at hu;cases hu)⟩
  | false=>
   rw [hb] at hc
   simp only [Bool.false_eq_true,if_false,wholeB,Bool.and_eq_true,decide_eq_true_eq] at hc
   refine ⟨(numN_fin hc.1.1.1.1.2).2,(numN_fin hc.1.1.1.2).2,fun l hl=>?_⟩
   obtain ⟨j,hj,rfl⟩:=List.getElem_of_mem hl
   have hj2:j < z.dn:=by have:=h.g.length;omega
   obtain ⟨la,hok⟩:=colsB_mem z _ _ hc.2 ⟨j,hj2⟩ (List.mem_finRange _)
   unfold colOk at hok
   simp only [Bool.and_eq_true] at hok
   have:=(numN_fin hok.2).2
   rw [show z.gs[(⟨j,hj2⟩:_root_.Fin z.dn).val]? = some z.gs[j] from List.getElem?_eq_getElem hj] at this
   exact this
open Ieee
theorem fin_getD {us:List Nat} (h:∀ u ∈ us,Fin u) (j:Nat):Fin (us[j]?.getD 0):=by
 by_cases hj:j < us.length
 ·rw [List.getElem?_eq_getElem hj];exact h _ (List.getElem_mem hj)
 ·rw [List.getElem?_eq_none (by omega)];exact fin_zeroJ
theorem colsB_num {z:ZD}:∀ {ks:List (_root_.Fin z.dn)} {last:Int},colsB z last ks = true -> ∀ k ∈ ks,numN (z.gs[k.val]?.getD []) z.N = true
 | [],_,_,k,hk=>by cases hk
 | x :: ks,last,h,k,hk=>by
  have h':(colOk z last x && colsB z (idZ z x) ks) = true:=h
  rw [Bool.and_eq_true] at h'
  rcases List.mem_cons.1 hk with rfl | hk
  ·have:=h'.1
   unfold colOk at this
   simp only [Bool.and_eq_true] at this
   exact this.2
  ·exact colsB_num h'.2 k hk
structure WhF (z:ZD):Prop where
 n1:1 <= z.rn
 n2:z.rn <= 256
 N:z.N = (z.rn:Int)
 cn:z.cn = z.rn
 dg:z.dn = z.gn
 cl:z.cs.length = z.rn
 rl:z.rs.length = z.rn
 gl:∀ k,k < z.dn -> (z.gs[k]?.getD []).length = z.rn
 pos:∀ i:Nat,0 <= fval (z.rs[i]?.getD 0)
 fin:FnZ z
theorem WhF.of {w:World} {z:ZD} (hz:ZR w z) (hd:z.dn <= 1050000) (h:wholeB z = true):WhF z:=by
 unfold wholeB at h
 simp only [Bool.and_eq_true,decide_eq_true_eq] at h
 obtain ⟨⟨⟨⟨⟨⟨h1,h2⟩,h3⟩,h4⟩,h5⟩,h6⟩,h7⟩:=h
 obtain ⟨c1,c2⟩:=numN_fin h3
 obtain ⟨r1,r2⟩:=numN_fin h4
 have hl:=hz.r.length
 have hlc:=hz.c.length
 have hg:=fun (k:Nat) (hk:k < z.dn)=>numN_fin (colsB_num h7 ⟨k,hk⟩ (List.mem_finRange _))
 refine ⟨by omega,by omega,by omega,by omega,h5,by omega,hl,fun k hk=>by have:=(hg k hk).1;dsimp only at this;omega,fun i=>?_,⟨fin_getD c2,fin_getD r2,fun k j=>?_,hd⟩⟩
 ·by_cases hi:i < z.rs.length
  ·rw [List.getElem?_eq_getElem hi]
   have h8:=List.all_eq_true.1 h6 _ (List.getElem_mem hi)
   have h9:¬ srung z.rs[i] < 0:=of_decide_eq_true h8
   have h10:=srung_le 0 z.rs[i]
   rw [fval_zeroJ,show srung 0 = 0 by decide] at h10
   exact h10.1 (by omega)
  ·rw [List.getElem?_eq_none (by omega)];exact Int.le_of_eq fval_zeroJ.symm
 ·by_cases hk:k < z.dn
  ·exact fin_getD (hg k hk).2 j
  ·have e:z.gs[k]? = none:=List.getElem?_eq_none (by have:=hz.g.length;omega)
   rw [e]
   exact fin_zeroJ
theorem gt0_ord {u:Nat} (hu:Fin u):(FloatKind.f64.format.order u 0 == some Ordering.gt) = decide (0 < srung u):=by
 have ho:=order_rung (x:=u) (y:=0) (Nat.le_of_lt hu) (by decide)
 have hs:srung 0 = 0:=by decide
 rw [f64_fmtJ,ho,hs]
 by_cases h:0 < srung u
 ·rw [Int.compare_eq_gt.2 h,decide_eq_true h];rfl
 ·rw [decide_eq_false h]
  by_cases h2:srung u = 0
  ·rw [Int.compare_eq_eq.2 h2];rfl
  ·rw [Int.compare_eq_lt.2 (by omega)];rfl
def madeN (rs:List Nat):Nat:=rs.countP fun u=>decide (0 < srung u)
theorem madeN_take {rs:List Nat} {k:Nat} (h:k < rs.length):madeN (rs.take (k + 1)) = madeN (rs.take k) + (if 0 < srung (rs[k]?.getD 0) then 1 else 0):=by
 unfold madeN
 rw [List.take_add_one,List.getElem?_eq_getElem h,List.countP_append]
 simp [List.countP_cons,List.countP_nil]
def lastB (z:ZD) (next:Int):Bool:=decide (0 < z.dn) && decide (next <= z.ids[z.dn - 1]?.getD 0)
def mayB (z:ZD) (next:Int):Bool:=!(decide (next < 0) || lastB z next) && (decide (madeN z.rs = 0) || decide (next <= 1073741824 - (madeN z.rs:Int) + 1))
theorem mayNumber_any (z:ZD) (next:Int) (hnx:-9223372036854775808 <= next /\ next < 9223372036854775808) (w:World) (hz:ZR w z) (hf:∀ u ∈ z.rs,Fin u) (hrn:z.rn <= 1000000) (hdn:z.dn <= 1000000000) :
  Calls Tryz.prog 59 #[.agg #[.int .i64 z.N,.slice z.co z.cn z.cc,.slice z.io z.dn z.dc,.slice z.go z.gn z.gc,.slice z.ro z.rn z.rc,.bool z.bad],.int .i64 next] w fun e w'=>e = .returned (.bool (mayB z next)) /\ Below w.heap.size w w':=by
 have X0:Below w.heap.size w (w.alloc (.cells #[.int .i64 z.N,.slice z.co z.cn z.cc,.slice z.io z.dn z.dc,.slice z.go z.gn z.gc,.slice z.ro z.rn z.rc,.bool z.bad] 26)):=(Below.refl _ w).alloc (Nat.le_refl _) _
 have HZ:=hz.later X0
 have HE:Hid (mayB z next = (!(decide (next < 0) || lastB z next) && (decide (madeN z.rs = 0) || decide (next <= 1073741824 - (madeN z.rs:Int) + 1)))):=rfl
 obtain ⟨mb,hmb⟩:∃ mb,mayB z next = mb:=⟨_,rfl⟩
 rw [hmb] at HE ⊢
 have HL:Hid (lastB z next = (decide (0 < z.dn) && decide (next <= z.ids[z.dn - 1]?.getD 0))):=rfl
 obtain ⟨lb,hlb⟩:∃ lb,lastB z next = lb:=⟨_,rfl⟩
 rw [hlb] at HE HL
 have HRr:Hid _:=HZ.r
 have HRi:Hid _:=HZ.i
 have HXB:Hid _:=X0
 have HF:Hid _:=hf
 clear hz hmb hlb HZ hf X0
 obtain ⟨N,co,cn,cc,io,dn,dc,go,gn,gc,ro,rn,rc,bad,cs,ids,gv,gs,rs⟩:=z
 dsimp only at HE HL HRr HRi HXB HF hrn hdn ⊢
 by_cases q0:next < 0
 case pos=>
  have d0:decide (next < 0) = true:=decide_eq_true q0
  have HS:Hid (mb = false):=by unfold Hid;rw [HE.out];simp [q0]
  go_enter Tryz.func59,Tryz.ntmps59
  go_wp2_with fail
  go_ret
  exact ⟨by rw [HS.out];rfl,HXB.out⟩
 have d0:decide (next < 0) = false:=decide_eq_false q0
 by_cases q1:0 < dn
 case neg=>
  have d1:decide ((0:Int) < (dn:Int)) = false:=decide_eq_false (by omega)
  have d1':decide (0 < dn) = false:=decide_eq_false q1
  have HS:Hid (mb = (decide (madeN rs = 0) || decide (next <= 1073741824 - (madeN rs:Int) + 1))):=by unfold Hid;rw [HE.out,HL.out];simp [q0,q1]
  clear HE HL
  go_enter Tryz.func59,Tryz.ntmps59
  go_wp2_with fail
  go_loopg [5,31] rn (fun g mv iv wx=>∃ k m:Nat,iv = .int .i64 k /\ mv = .int .i64 m /\ k + g = rn /\ m <= k /\ Hid (wx = (w.alloc (.cells #[.int .i64 N,.slice co cn cc,.slice io dn dc,.slice go gn gc,.slice ro rn rc,.bool bad] 26))) /\ Hid (m = madeN (rs.take k)))
  case atStart=>exact ⟨0,0,rfl,rfl,by omega,Nat.le_refl _,rfl,rfl⟩
  case round=>
   obtain ⟨k,m,rfl,rfl,hk,hmk,HW,HM⟩:=hrel
   have hww:=HW.out
   by_cases hlt:k < rn
   ·have hd:decide ((k:Int) < (rn:Int)) = true:=decide_eq_true (by omega)
    obtain ⟨g,rfl⟩:∃ g,gk = g + 1:=⟨gk - 1,by omega⟩
    rw [<- hww] at HRr
    rcases HRr.out.cells with h0 | ⟨ab,aoff,rfl,hca⟩
    ·omega
    have ga:=hca k hlt
    have hkl:k < rs.length:=by rw [HRr.out.length];exact hlt
    have hox:=gt0_ord (HF.out _ (getD_mem (us:=rs) (j:=k) hkl))
    have HMs:Hid (_ = _):=madeN_take (rs:=rs) (k:=k) hkl
    obtain ⟨x,hx⟩:∃ x,rs[k]?.getD 0 = x:=⟨_,rfl⟩
    rw [hx] at ga hox HMs
    have HIG:Hid (k + (g + 1) = rn):=hk
    clear hca hx hk hww hkl
    by_cases hxp:0 < srung x
    ·rw [decide_eq_true hxp] at hox
     rw [if_pos hxp] at HMs
     clear hxp
     go_wp2_with fail
     go_roundg g
     case measure=>omega
     case rel=>exact ⟨k + 1,m + 1,by go_num,by go_num,by have:=HIG.out;omega,by omega,HW,by unfold Hid;rw [HMs.out,<- HM.out]⟩
    ·rw [decide_eq_false hxp] at hox
     rw [if_neg hxp] at HMs
     clear hxp
     go_wp2_with fail
     go_roundg g
     case measure=>omega
     case rel=>exact ⟨k + 1,m,by go_num,rfl,by have:=HIG.out;omega,by omega,HW,by unfold Hid;rw [HMs.out,<- HM.out];rfl⟩
   ·have hd:decide ((k:Int) < (rn:Int)) = false:=decide_eq_false (by omega)
    have hd':decide (k < rn) = false:=decide_eq_false (by omega)
    have HM2:Hid (m = madeN rs):=by
     have h1:=HM.out
     rw [List.take_of_length_le (by rw [HRr.out.length];omega)] at h1
     exact h1
    have HXB2:Hid (Below w.heap.size w wr):=by unfold Hid;rw [HW.out];exact HXB.out
    clear hww HW
    rw [<- HM2.out] at HS
    by_cases hm0:m = 0
    ·have HS2:Hid (mb = true):=by unfold Hid;rw [HS.out];simp [hm0]
     have dm:((m:Int) == 0) = true:=by simp [hm0]
     subst hm0
     go_wp2_with fail
     go_ret
     exact ⟨by rw [HS2.out];rfl,HXB2.out⟩
    ·have dm:((m:Int) == 0) = false:=by simpa using (show ¬ ((m:Nat):Int) = 0 by omega)
     have HS2:Hid (mb = decide (next <= 1073741824 - (m:Int) + 1)):=by unfold Hid;rw [HS.out];simp [hm0]
     go_wp2_with fail
     go_ret
     exact ⟨by rw [HS2.out];rfl,HXB2.out⟩
 obtain ⟨t,rfl⟩:∃ t,dn = t + 1:=⟨dn - 1,by omega⟩
 have d1:decide ((0:Int) < ((t + 1:Nat):Int)) = true:=decide_eq_true (by omega)
 rcases HRi.out.cells with h0 | ⟨ib,ioff,rfl,hci⟩
 ·omega
 have gi:=hci t (by omega)
 rw [Nat.add_sub_cancel] at HL
 obtain ⟨y,hy⟩:∃ y,ids[t]?.getD 0 = y:=⟨_,rfl⟩
 rw [hy] at gi HL
 clear hci hy
 by_cases q2:next <= y
 case pos=>
  have d2:decide (next <= y) = true:=decide_eq_true q2
  have HS:Hid (mb = false):=by unfold Hid;rw [HE.out,HL.out];simp [q2]
  go_enter Tryz.func59,Tryz.ntmps59
  go_wp2_with fail
  go_ret
  exact ⟨by rw [HS.out];rfl,HXB.out⟩
 have d2:decide (next <= y) = false:=decide_eq_false q2
 have HS:Hid (mb = (decide (madeN rs = 0) || decide (next <= 1073741824 - (madeN rs:Int) + 1))):=by unfold Hid;rw [HE.out,HL.out];simp [q0,q2]
 clear HE HL
 go_enter Tryz.func59,Tryz.ntmps59
 go_wp2_with fail
 go_loopg [5,31] rn (fun g mv iv wx=>∃ k m:Nat,iv = .int .i64 k /\ mv = .int .i64 m /\ k + g = rn /\ m <= k /\ Hid (wx = (w.alloc (.cells #[.int .i64 N,.slice co cn cc,.slice (some ⟨ib,ioff,none⟩) (t + 1) dc,.slice go gn gc,.slice ro rn rc,.bool bad] 26))) /\ Hid (m = madeN (rs.take k)))
 case atStart=>exact ⟨0,0,rfl,rfl,by omega,Nat.le_refl _,rfl,rfl⟩
 case round=>
  obtain ⟨k,m,rfl,rfl,hk,hmk,HW,HM⟩:=hrel
  have hww:=HW.out
  by_cases hlt:k < rn
  ·have hd:decide ((k:Int) < (rn:Int)) = true:=decide_eq_true (by omega)
   obtain ⟨g,rfl⟩:∃ g,gk = g + 1:=⟨gk - 1,by omega⟩
   rw [<- hww] at HRr
   rcases HRr.out.cells with h0 | ⟨ab,aoff,rfl,hca⟩
   ·omega
   have ga:=hca k hlt
   have hkl:k < rs.length:=by rw [HRr.out.length];exact hlt
   have hox:=gt0_ord (HF.out _ (getD_mem (us:=rs) (j:=k) hkl))
   have HMs:Hid (_ = _):=madeN_take (rs:=rs) (k:=k) hkl
   obtain ⟨x,hx⟩:∃ x,rs[k]?.getD 0 = x:=⟨_,rfl⟩
   rw [hx] at ga hox HMs
   have HIG:Hid (k + (g + 1) = rn):=hk
   clear hca hx hk hww hkl
   by_cases hxp:0 < srung x
   ·rw [decide_eq_true hxp] at hox
    rw [if_pos hxp] at HMs
    clear hxp
    go_wp2_with fail
    go_roundg g
    case measure=>omega
    case rel=>exact ⟨k + 1,m + 1,by go_num,by go_num,by have:=HIG.out;omega,by omega,HW,by unfold Hid;rw [HMs.out,<- HM.out]⟩
   ·rw [decide_eq_false hxp] at hox
    rw [if_neg hxp] at HMs
    clear hxp
    go_wp2_with fail
    go_roundg g
    case measure=>omega
    case rel=>exact ⟨k + 1,m,by go_num,rfl,by have:=HIG.out;omega,by omega,HW,by unfold Hid;rw [HMs.out,<- HM.out];rfl⟩
  ·have hd:decide ((k:Int) < (rn:Int)) = false:=decide_eq_false (by omega)
   have hd':decide (k < rn) = false:=decide_eq_false (by omega)
   have HM2:Hid (m = madeN rs):=by
    have h1:=HM.out
    rw [List.take_of_length_le (by rw [HRr.out.length];omega)] at h1
    exact h1
   have HXB2:Hid (Below w.heap.size w wr):=by unfold Hid;rw [HW.out];exact HXB.out
   clear hww HW
   rw [<- HM2.out] at HS
   by_cases hm0:m = 0
   ·have HS2:Hid (mb = true):=by unfold Hid;rw [HS.out];simp [hm0]
    have dm:((m:Int) == 0) = true:=by simp [hm0]
    subst hm0
    go_wp2_with fail
    go_ret
    exact ⟨by rw [HS2.out];rfl,HXB2.out⟩
   ·have dm:((m:Int) == 0) = false:=by simpa using (show ¬ ((m:Nat):Int) = 0 by omega)
    have HS2:Hid (mb = decide (next <= 1073741824 - (m:Int) + 1)):=by unfold Hid;rw [HS.out];simp [hm0]
    go_wp2_with fail
    go_ret
    exact ⟨by rw [HS2.out];rfl,HXB2.out⟩
theorem res_ctJ (f:Func) (i j:Nat) (ty:TypeId) (hf:f.results = #[ResultVar.cell i ty,ResultVar.tmp j]) (tmps:Array Value) (W:World) (B:Nat) (c:Array Value) (v:Value) (hp:tmps[i]? = some (.pointer (some ⟨B,0,none⟩))) (hv:tmps[j]? = some v)
  (u:TypeDesc) (hu:Tryz.prog.underlying ty = some u) (hd:u.isRow = true) (n:Nat) (hi:(Tryz.prog.info? ty).map (·.size) = some n)
  (hc:c.size = n) (h:W.heap[B]? = some (.cells c ty)):(results f tmps).run Tryz.prog W = .ok (.tuple #[.agg c,v]) W:=by
 have hr:W.rangeAt B 0 c.toList:=by
  have:=World.rangeAt_of_block h 0 c.size
  simpa using this
 have hl:=run_loadVar_mid (P:=Tryz.prog) W B 0 ty c.toList _ hr hu hd (by rw [hi];simp [hc])
 have hl2:(loadVar ty ⟨B,0,none⟩).run Tryz.prog W = .ok (.agg c) W:=by simpa using hl
 simp [results,hf,hp,hv,hl2,asAddr]
theorem wpList_load_rowG {P:Program} {ops:Array Oper} {rest:List Oper} {op:Oper} {a:Act} {w:World} {Q:Exit -> Act -> World -> Prop} (hgd:Region.wanted op (yielded ops a.tmps) = true) (ty:TypeId) (x:Operand) (ho:op.op = .load ty x)
  (B:Nat) (c:Array Value) (hx:a.eval x = .pointer (some ⟨B,0,none⟩)) (hB:w.heap[B]? = some (.cells c ty)) (d:TypeDesc) (hu:P.underlying ty = some d) (hd:d.isRow = true)
  (n:Nat) (hi:(P.info? ty).map (·.size) = some n) (hn:c.size = n)
  (h:wpList P ops Q rest (a.put op.dst (.agg c)) w):wpList P ops Q (op :: rest) a w:=by
 have hr:w.rangeAt B 0 c.toList:=by
  have:=World.rangeAt_of_block hB 0 c.size
  simpa using this
 refine wpList_step fun K hK=>?_
 rw [if_pos hgd]
 refine wp_load_mid ty x ho B 0 hx c.toList d hr hu hd (by simpa [hn] using hi) ?_
 refine hK _ _ ?_
 simpa using h
theorem sevenJ (w:World) (o0 o1 o2 o3 o4 o5 o6:Obj):(((((((w.alloc o0).alloc o1).alloc o2).alloc o3).alloc o4).alloc o5).alloc o6).heap[w.heap.size + 1]? = some o1 /\ (((((((w.alloc o0).alloc o1).alloc o2).alloc o3).alloc o4).alloc o5).alloc o6).heap[w.heap.size + 1 + 1]? = some o2 /\ (((((((w.alloc o0).alloc o1).alloc o2).alloc o3).alloc o4).alloc o5).alloc o6).heap[w.heap.size + 1 + 1 + 1]? = some o3 /\ (((((((w.alloc o0).alloc o1).alloc o2).alloc o3).alloc o4).alloc o5).alloc o6).heap[w.heap.size + 1 + 1 + 1 + 1]? = some o4 /\ (((((((w.alloc o0).alloc o1).alloc o2).alloc o3).alloc o4).alloc o5).alloc o6).heap[w.heap.size + 1 + 1 + 1 + 1 + 1]? = some o5 /\ (((((((w.alloc o0).alloc o1).alloc o2).alloc o3).alloc o4).alloc o5).alloc o6).heap[w.heap.size + 1 + 1 + 1 + 1 + 1 + 1]? = some o6 /\ Below w.heap.size w (((((((w.alloc o0).alloc o1).alloc o2).alloc o3).alloc o4).alloc o5).alloc o6):=
 ⟨alloc_kept (alloc_kept (alloc_kept (alloc_kept (alloc_kept (heap_at (w.alloc o0) o1 (w.heap.size + 1) (by simp only [alloc_size])) _) _) _) _) _,alloc_kept (alloc_kept (alloc_kept (alloc_kept (heap_at ((w.alloc o0).alloc o1) o2 (w.heap.size + 1 + 1) (by simp only [alloc_size])) _) _) _) _,alloc_kept (alloc_kept (alloc_kept (heap_at (((w.alloc o0).alloc o1).alloc o2) o3 (w.heap.size + 1 + 1 + 1) (by simp only [alloc_size])) _) _) _,alloc_kept (alloc_kept (heap_at ((((w.alloc o0).alloc o1).alloc o2).alloc o3) o4 (w.heap.size + 1 + 1 + 1 + 1) (by simp only [alloc_size])) _) _,alloc_kept (heap_at (((((w.alloc o0).alloc o1).alloc o2).alloc o3).alloc o4) o5 (w.heap.size + 1 + 1 + 1 + 1 + 1) (by simp only [alloc_size])) _,heap_at ((((((w.alloc o0).alloc o1).alloc o2).alloc o3).alloc o4).alloc o5) o6 (w.heap.size + 1 + 1 + 1 + 1 + 1 + 1) (by simp only [alloc_size]),((((((((Below.refl _ w).alloc (Nat.le_refl _) _).alloc (by simp only [alloc_size];omega) _).alloc (by simp only [alloc_size];omega) _).alloc (by simp only [alloc_size];omega) _).alloc (by simp only [alloc_size];omega) _).alloc (by simp only [alloc_size];omega) _).alloc (by simp only [alloc_size];omega) _)⟩
theorem rdF2 {W:World} {B x y:Nat} {t:TypeId} (h:W.heap[B]? = some (.cells #[.float .f64 x,.float .f64 y] t)) (hx:x < 18446744073709551616) (hy:y < 18446744073709551616):RdF W (some ⟨B,0,none⟩) 2 2 [x,y]:=by
 refine ⟨rfl,by decide,fun u hu=>?_,.inr ⟨B,0,rfl,fun j hj=>?_⟩⟩
 ·simp only [List.mem_cons,List.not_mem_nil,or_false] at hu
  rcases hu with rfl | rfl <;> assumption
 ·match j,hj with
  | 0,_=>exact cellAtJ h 0 _ rfl
  | 1,_=>exact cellAtJ h 1 _ rfl
theorem rdI2 {W:World} {B:Nat} {x y:Int} {t:TypeId} (h:W.heap[B]? = some (.cells #[.int .i64 x,.int .i64 y] t)):RdIs W (some ⟨B,0,none⟩) 2 2 [x,y]:=by
 refine ⟨rfl,by decide,.inr ⟨B,0,rfl,fun j hj=>?_⟩⟩
 match j,hj with
 | 0,_=>exact cellAtJ h 0 _ rfl
 | 1,_=>exact cellAtJ h 1 _ rfl
theorem rdG2 {W:World} {B:Nat} {p q:Option Addr × Nat × Nat} {us vs:List Nat} {t:TypeId} (h:W.heap[B]? = some (.cells #[.slice p.1 p.2.1 p.2.2,.slice q.1 q.2.1 q.2.2] t)) (hp:RdF W p.1 p.2.1 p.2.2 us) (hq:RdF W q.1 q.2.1 q.2.2 vs):RdGs W (some ⟨B,0,none⟩) 2 2 (fun j=>if j = 0 then p else q) [us,vs]:=by
 refine ⟨rfl,by decide,.inr ⟨B,0,rfl,fun j hj=>?_⟩,fun j hj=>?_⟩
 ·match j,hj with
  | 0,_=>exact cellAtJ h 0 _ rfl
  | 1,_=>exact cellAtJ h 1 _ rfl
 ·match j,hj with
  | 0,_=>exact hp
  | 1,_=>exact hq
theorem first_any (w:World) :
  Calls Tryz.prog 25 #[] w fun e w'=>∃ z:ZD,e = .returned (.agg (zRow z)) /\ ZR w' z /\ z.N = 2 /\ z.bad = false /\ z.cn = 2 /\ z.dn = 2 /\ z.gn = 2 /\ z.rn = 2 /\ z.cs = [4607182418800017408,4611686018427387904] /\ z.ids = [0,3] /\ z.gs = [[4607182418800017408,0],[4607182418800017408,13830554455654793216]] /\ z.rs = [0,4602678819172646912] /\ Below w.heap.size w w':=by
 go_enter Tryz.func25,Tryz.ntmps25
 go_wp2_with fail
 refine bodyPost_ret (res_oneJ _ 0 26 (by kernel_rfl) _ _ w.heap.size _ (by rfl) _ Tryz.underlying26 rfl 6 Tryz.infoZ rfl (alloc_kept (alloc_kept (alloc_kept (alloc_kept (alloc_kept (alloc_kept (heap_alloc_new w _) _) _) _) _) _) _)) rfl ?_
 obtain ⟨h1,h2,h3,h4,h5,h6,hb⟩:=sevenJ w _ _ _ _ _ _ _
 refine ⟨⟨2,some ⟨w.heap.size + 1,0,none⟩,2,2,some ⟨w.heap.size + 1 + 1,0,none⟩,2,2,some ⟨w.heap.size + 1 + 1 + 1 + 1 + 1,0,none⟩,2,2,some ⟨w.heap.size + 1 + 1 + 1 + 1 + 1 + 1,0,none⟩,2,2,false,[4607182418800017408,4611686018427387904],[0,3],fun j=>if j = 0 then (some ⟨w.heap.size + 1 + 1 + 1,0,none⟩,2,2) else (some ⟨w.heap.size + 1 + 1 + 1 + 1,0,none⟩,2,2),[[4607182418800017408,0],[4607182418800017408,13830554455654793216]],[0,4602678819172646912]⟩,rfl,⟨rdF2 h1 (by decide) (by decide),rdI2 h2,rdG2 (p:=(some ⟨w.heap.size + 1 + 1 + 1,0,none⟩,2,2)) (q:=(some ⟨w.heap.size + 1 + 1 + 1 + 1,0,none⟩,2,2)) h5 (rdF2 h3 (by decide) (by decide)) (rdF2 h4 (by decide) (by decide)),rdF2 h6 (by decide) (by decide)⟩,rfl,rfl,rfl,rfl,rfl,rfl,rfl,rfl,rfl,rfl,hb⟩
theorem num_any10 (x:Int) (hx:-9223372036854775808 <= x /\ x < 9223372036854775808) (w:World):Calls Tryz.prog 29 #[.int .i64 x] w fun e w'=>e = .returned (.int .i64 x) /\ w' = w:=by
 go_enter Tryz.func29,Tryz.ntmps29
 go_wp2_with fail
 go_ret
 exact ⟨rfl,rfl⟩
def plainW (u:Nat):Nat:=if u = 9223372036854775808 then 0 else u
structure RdUs (w:World) (ao:Option Addr) (len cap:Nat) (us:List Nat):Prop where
 length:us.length = len
 max:len <= maxLen
 cells:len = 0 \/ ∃ b off,ao = some ⟨b,off,none⟩ /\ ∀ j,j < len -> w.cell? ⟨b,off + j,none⟩ = some (.int .u64 ((us[j]?.getD 0:Nat):Int))
theorem RdUs.later {w w':World} {ao:Option Addr} {len cap:Nat} {us:List Nat} (h:RdUs w ao len cap us) (hb:Below w.heap.size w w'):RdUs w' ao len cap us:=by
 refine ⟨h.length,h.max,?_⟩
 rcases h.cells with h0 | ⟨b,off,ha,hc⟩
 ·exact .inl h0
 ·refine .inr ⟨b,off,ha,fun j hj=>?_⟩
  rw [hb.cell (p:=⟨b,off + j,none⟩) (World.block_lt_of_cell? w _ (hc j hj))]
  exact hc j hj
theorem apiBits_any (u:Nat) (w:World):Calls Tryz.prog 39 #[.float .f64 u] w fun e w'=>e = .returned (.int .u64 u) /\ w' = w:=by
 have hcb:=call_bits u
 go_enter Tryz.func39,Tryz.ntmps39
 go_wp2_with fail
 go_ret
 exact ⟨rfl,rfl⟩
structure RdGu (w:World) (ao:Option Addr) (len cap:Nat) (gv:Nat -> Option Addr × Nat × Nat) (gs:List (List Nat)):Prop where
 length:gs.length = len
 max:len <= maxLen
 cells:len = 0 \/ ∃ b off,ao = some ⟨b,off,none⟩ /\ ∀ j,j < len -> w.cell? ⟨b,off + j,none⟩ = some (.slice (gv j).1 (gv j).2.1 (gv j).2.2)
 each:∀ j,j < len -> RdUs w (gv j).1 (gv j).2.1 (gv j).2.2 (gs[j]?.getD [])
theorem RdGu.later {w w':World} {ao:Option Addr} {len cap:Nat} {gv:Nat -> Option Addr × Nat × Nat} {gs:List (List Nat)} (h:RdGu w ao len cap gv gs) (hb:Below w.heap.size w w'):RdGu w' ao len cap gv gs:=by
 refine ⟨h.length,h.max,?_,fun j hj=>(h.each j hj).later hb⟩
 rcases h.cells with h0 | ⟨b,off,ha,hc⟩
 ·exact .inl h0
 ·refine .inr ⟨b,off,ha,fun j hj=>?_⟩
  rw [hb.cell (p:=⟨b,off + j,none⟩) (World.block_lt_of_cell? w _ (hc j hj))]
  exact hc j hj
structure ZU (w:World) (z:ZD):Prop where
 c:RdUs w z.co z.cn z.cc z.cs
 i:RdIs w z.io z.dn z.dc z.ids
 g:RdGu w z.go z.gn z.gc z.gv z.gs
 r:RdUs w z.ro z.rn z.rc z.rs
theorem ZU.later {w w':World} {z:ZD} (h:ZU w z) (hb:Below w.heap.size w w'):ZU w' z:=⟨h.c.later hb,h.i.later hb,h.g.later hb,h.r.later hb⟩
def bitsB (a b:ZD):Bool:=decide (a.N = b.N) && decide (a.bad = b.bad) && decide (a.cs = b.cs) && decide (a.rs = b.rs) && decide (a.ids = b.ids) && decide (a.gs = b.gs)
end Go.Proofs.YtoflalhiihcofaaGreat
namespace Go.Proofs.YtoflalhiihcofaaGreat
open Go.RowKit
theorem plainT_any (ao:Option Addr) (len cap:Nat) (us:List Nat) (hl:len <= 100000) (hf:numsB us = true) (w:World) (h:RdF w ao len cap us) :
  Calls Tryz.prog 93 #[.slice ao len cap] w fun e w'=>e = .returned (.slice (some ⟨w.heap.size,0,none⟩) len len) /\ RdF w' (some ⟨w.heap.size,0,none⟩) len len (us.map plainM) /\ (∃ cur,w'.heap[w.heap.size]? = some (.cells cur 61)) /\ Below w.heap.size w w' /\ w.heap.size < w'.heap.size:=by
 have HR:Hid _:=h
 have HLN:Hid _:=h.length
 have HF:Hid (∀ u ∈ us,Fin u):=by
  unfold numsB at hf
  intro u hu
  have:=List.all_eq_true.1 hf u hu
  simpa using this
 clear h hf
 have hmk:=makeFJ len (by omega)
 go_enter Tryz.func93,Tryz.ntmps93
 go_wp2_with fail
 clear hmk
 go_loopg [11] len (fun g iv wx=>∃ k:Nat,iv = .int .i64 k /\ k + g = len /\ Hid (∀ j,j < k -> wx.cell? ⟨w.heap.size,j,none⟩ = some (.float .f64 (plainM (us[j]?.getD 0)))) /\ Hid ((∀ j,j < len -> ∃ v,wx.cell? ⟨w.heap.size,j,none⟩ = some (.float .f64 v)) /\ (∀ j,wx.frozen? ⟨w.heap.size,j,none⟩ = false)) /\ Hid (Below w.heap.size w wx) /\ Hid (w.heap.size < wx.heap.size /\ ∃ cur,wx.heap[w.heap.size]? = some (.cells cur 61)))
 case atStart=>
  refine ⟨0,rfl,by omega,fun j hj=>by omega,⟨fun j hj=>⟨0,cellAtJ (heap_alloc_new w _) j _ (flN_at len j hj)⟩,fun j=>frozen_of_row _ _ j _ _ (heap_alloc_new w _)⟩,(Below.refl _ w).alloc (Nat.le_refl _) _,?_,_,heap_alloc_new w _⟩
  show w.heap.size < (w.alloc _).heap.size
  simp
 case round=>
  obtain ⟨k,rfl,hk,HP,HC,HB,HS⟩:=hrel
  by_cases hlt:k < len
  ·have hd:decide ((k:Int) < (len:Int)) = true:=decide_eq_true (by omega)
   obtain ⟨g,rfl⟩:∃ g,gk = g + 1:=⟨gk - 1,by omega⟩
   rcases (HR.out.later HB.out).cells with h0 | ⟨ab,aoff,rfl,hca⟩
   ·omega
   have ga:=hca k hlt
   have hmem:=getD_mem (us:=us) (j:=k) (by rw [HLN.out];exact hlt)
   have hax:=HR.out.lt _ hmem
   have HFx:Hid (Fin (us[k]?.getD 0)):=HF.out _ hmem
   obtain ⟨x,hx⟩:∃ x,us[k]?.getD 0 = x:=⟨_,rfl⟩
   have HX:Hid (us[k]?.getD 0 = x):=hx
   rw [hx] at ga hax HFx
   have HIG:Hid (k + (g + 1) = len):=hk
   clear hca hx hk hmem
   obtain ⟨pv,hpv⟩:=HC.out.1 k hlt
   have hfr:=HC.out.2 k
   have hsf:=run_store_f
   go_wp2_with (go_at_call 113;refine (next_plain hax HFx.out _).mono ?_;rintro e w1 ⟨rfl,hw1⟩;rw [hw1];clear hw1 w1)
   have hcs:(wr.cell? ⟨w.heap.size,k,none⟩).isSome = true:=by rw [hpv];rfl
   have hrow:∀ j,(wr.setCell ⟨w.heap.size,k,none⟩ (.float .f64 (plainM x))).cell? ⟨w.heap.size,j,none⟩ = if j = k then some (.float .f64 (plainM x)) else wr.cell? ⟨w.heap.size,j,none⟩:=by
    intro j
    by_cases e:j = k
    ·subst e;rw [if_pos rfl];exact World.cell?_setCell_same' _ _ _ hcs
    ·rw [if_neg e,World.cell?_setCell_other _ _ _ _ (by intro c;cases c;exact e rfl)]
   have HP3:Hid (∀ j,j < k + 1 -> (wr.setCell ⟨w.heap.size,k,none⟩ (.float .f64 (plainM x))).cell? ⟨w.heap.size,j,none⟩ = some (.float .f64 (plainM (us[j]?.getD 0)))):=by
    intro j hj
    rw [hrow j]
    by_cases e:j = k
    ·rw [if_pos e,e,HX.out]
    ·rw [if_neg e];exact HP.out j (by omega)
   have HC3:Hid ((∀ j,j < len -> ∃ v,(wr.setCell ⟨w.heap.size,k,none⟩ (.float .f64 (plainM x))).cell? ⟨w.heap.size,j,none⟩ = some (.float .f64 v)) /\ (∀ j,(wr.setCell ⟨w.heap.size,k,none⟩ (.float .f64 (plainM x))).frozen? ⟨w.heap.size,j,none⟩ = false)):=by
    refine ⟨fun j hj=>?_,fun j=>by rw [World.frozen?_setCell];exact HC.out.2 j⟩
    rw [hrow j]
    by_cases e:j = k
    ·exact ⟨_,if_pos e⟩
    ·rw [if_neg e];exact HC.out.1 j hj
   have HB3:Hid (Below w.heap.size w (wr.setCell ⟨w.heap.size,k,none⟩ (.float .f64 (plainM x)))):=HB.out.trans ((Below.refl w.heap.size wr).setCell (p:=⟨w.heap.size,k,none⟩) (Nat.le_refl _) _)
   have HS3:Hid (w.heap.size < (wr.setCell ⟨w.heap.size,k,none⟩ (.float .f64 (plainM x))).heap.size /\ ∃ cur,(wr.setCell ⟨w.heap.size,k,none⟩ (.float .f64 (plainM x))).heap[w.heap.size]? = some (.cells cur 61)):=by
    have h1:(wr.setCell ⟨w.heap.size,k,none⟩ (.float .f64 (plainM x))).heap.size = wr.heap.size:=by simp
    obtain ⟨h2,cur,h3⟩:=HS.out
    exact ⟨by rw [h1];exact h2,_,heap_setCell_same wr w.heap.size k _ _ _ h3⟩
   clear hsf hrow hcs hpv hfr ga hax HP HC
   go_roundg g
   case measure=>omega
   case rel=>exact ⟨k + 1,by go_num,by have:=HIG.out;omega,HP3,HC3,HB3,HS3⟩
  ·have hd:decide ((k:Int) < (len:Int)) = false:=decide_eq_false (by omega)
   have hd':decide (k < len) = false:=decide_eq_false (by omega)
   have hkl:k = len:=by omega
   have HP2:Hid (∀ j,j < len -> wr.cell? ⟨w.heap.size,j,none⟩ = some (.float .f64 (plainM (us[j]?.getD 0)))):=hkl ▸ HP.out
   clear hkl
   go_wp2_with fail
   go_ret
   refine ⟨rfl,⟨by rw [List.length_map];exact HLN.out,HR.out.max,fun u hu=>?_,.inr ⟨_,_,rfl,fun j hj=>?_⟩⟩,HS.out.2,HB.out,HS.out.1⟩
   ·obtain ⟨v,hv,rfl⟩:=List.mem_map.1 hu
    exact plainM_ltJ (HR.out.lt v hv)
   ·rw [Nat.zero_add,HP2.out j hj,List.getElem?_map,List.getElem?_eq_getElem (by rw [HLN.out];exact hj)];rfl
theorem owns_keep {w w':World} {E:TypeId} {base size:Nat} {v:Value} {n:Nat} {xs:List Value} (h:w.ownsRow base E size v n xs) (hb:∀ k,v.ownBlock = some k -> w'.heap[k]? = w.heap[k]?):w'.ownsRow base E size v n xs:=by
 refine ⟨h.1,?_⟩
 rcases h.2 with h2 | ⟨g,cap,cur,hv,hg,hh,r⟩
 ·exact .inl h2
 ·exact .inr ⟨g,cap,cur,hv,hg,by rw [hb g (by rw [hv];rfl)];exact hh,r⟩
theorem owns_type {w:World} {E:TypeId} {base size:Nat} {v:Value} {n:Nat} {xs:List Value} (h:w.ownsRow base E size v n xs) {k:Nat} (hk:v.ownBlock = some k):∃ cur,w.heap[k]? = some (.cells cur E):=by
 rcases h.2 with ⟨rfl,_⟩ | ⟨g,cap,cur,rfl,hg,hh,r⟩
 ·simp [Value.ownBlock] at hk
 ·simp only [Value.ownBlock,Option.some.injEq] at hk
  subst hk
  exact ⟨cur,hh⟩
structure Grw (w w':World) (r r':Option Nat):Prop where
 by':w.grownBy w' r
 new:r' = r \/ ∀ k,r' = some k -> w.heap.size <= k
theorem info3' {P:Program} {t:TypeId} {z:Value} {s b:Nat} (h:(P.info? t).map (fun i=>(i.zero,i.size,i.bytes)) = some (some z,s,b)):∃ i,P.info? t = some i /\ i.zero = some z /\ i.size = s /\ i.bytes = b:=by
 cases hi:P.info? t with
 | none=>simp [hi] at h
 | some i=>
  simp [hi] at h
  exact ⟨i,rfl,h.1,h.2.1,h.2.2⟩
theorem Grw.refl (w:World) (r:Option Nat):Grw w w r r:=⟨⟨rfl,rfl,rfl,Nat.le_refl _,fun _ _ _=>rfl⟩,.inl rfl⟩
theorem Grw.trans {w w1 w2:World} {r r1 r2:Option Nat} (h:Grw w w1 r r1) (k:Grw w1 w2 r1 r2):Grw w w2 r r2:=by
 have hs:=h.by'.size
 refine ⟨⟨k.by'.os.trans h.by'.os,k.by'.tape.trans h.by'.tape,k.by'.output.trans h.by'.output,Nat.le_trans hs k.by'.size,fun j hj hne=>?_⟩,?_⟩
 ·rw [k.by'.block j (by omega) ?_,h.by'.block j hj hne]
  intro c
  rcases h.new with h1 | h1
  ·exact hne (by rw [c,h1])
  ·have:=h1 j c.symm
   omega
 ·rcases k.new with k1 | k1
  ·rw [k1];exact h.new
  ·exact .inr fun j hj=>Nat.le_trans hs (k1 j hj)
theorem Grw.below {w w':World} {r r':Option Nat} {base:Nat} (h:Grw w w' r r') (hb:∀ k,r = some k -> base <= k) (hw:base <= w.heap.size):Below base w w':=
 ⟨h.by'.os,h.by'.tape,h.by'.output,h.by'.size,fun k hk=>h.by'.block k (by omega) (fun c=>by have:=hb k c.symm;omega)⟩
end Go.Proofs.YtoflalhiihcofaaGreat
