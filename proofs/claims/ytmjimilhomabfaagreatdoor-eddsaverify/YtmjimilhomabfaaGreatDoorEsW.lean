/-
 What the document tells of a signature (affiantref14), over this seat. Conditions: the message has at most 10000 bytes.
-/
import Derived.Test.YtmjimilhomabfaaGreatDoorEsU
namespace Go.Proofs.YtmjimilhomabfaaGreatDoor.F
open Go.RowKit
set_option linter.unusedVariables false
set_option maxRecDepth 10000
open E (z z_val z_same z_add z_mul z_sub z_inv z_mod z_of dd Pt padd pneg pmul iv ax ay Sc)
theorem un13_let (b:List Nat) (ob:Lo 256 b) (lb:b.length = 32):∃ X Y ub,X < 115792089237316195423570985008687907853269984665640564039457584007913129639936 ∧ Y < 115792089237316195423570985008687907853269984665640564039457584007913129639936 ∧ Away (unOk (hiB b) (lowB b) = ub) ∧ Away (ub = true → unP b = ownP X Y) ∧ ∀ w,Calls Tryz.prog 37 #[.agg (C .u8 b).toArray] w fun e w'=>e = .returned (.tuple #[.agg (pc X Y).toArray,.bool ub]) ∧ Below w.heap.size w w':=by
 cases hu:unOk (hiB b) (lowB b) with
 | false =>
  refine ⟨0,1,false,by decide,by decide,⟨rfl⟩,⟨fun h=>by cases h⟩,fun w=>?_⟩
  have h:=unpack13_any b ob lb w
  rw [unC,hu] at h
  exact h
 | true =>
  obtain ⟨p,hy,hx,_⟩:=unOk_point hu
  refine ⟨unX (hiB b) (lowB b),lowB b,true,?_,?_,⟨rfl⟩,⟨fun _=>rfl⟩,fun w=>?_⟩
  ·rw [← hx];exact ptx_lt p
  ·rw [← hy];exact pty_lt p
  ·have h:=unpack13_any b ob lb w
   rw [unC,hu] at h
   exact h
theorem read12_let (b:List Nat) (ob:Lo 256 b) (lb:b.length = 32):∃ n rb,n < 115792089237316195423570985008687907853269984665640564039457584007913129639936 ∧ Away (decide (val 256 b < Lq) = rb) ∧ Away (rb = true → val 256 b = n) ∧ ∀ w,Calls Tryz.prog 38 #[.agg (C .u8 b).toArray] w fun e w'=>e = .returned (.tuple #[.agg (ec n).toArray,.bool rb]) ∧ Below w.heap.size w w':=by
 refine ⟨_,_,?_,⟨rfl⟩,⟨fun h=>?_⟩,fun w=>r12read_any b ob lb w⟩
 ·split
  ·exact Nat.lt_trans (by assumption) Lq_lt
  ·decide
 ·rw [if_pos (of_decide_eq_true h)]
theorem mul13_let (N X Y:Nat) (lN:N < 115792089237316195423570985008687907853269984665640564039457584007913129639936) (lX:X < 115792089237316195423570985008687907853269984665640564039457584007913129639936) (lY:Y < 115792089237316195423570985008687907853269984665640564039457584007913129639936):∃ U V,U < 115792089237316195423570985008687907853269984665640564039457584007913129639936 ∧ V < 115792089237316195423570985008687907853269984665640564039457584007913129639936 ∧ Away (ownP U V = pmul N (ownP X Y)) ∧ ∀ w,Calls Tryz.prog 21 #[.agg (ec N).toArray,.agg (pc X Y).toArray] w fun e w'=>e = .returned (.agg (pc U V).toArray) ∧ Below w.heap.size w w' :=
 ⟨_,_,ptx_lt _,pty_lt _,⟨ownP_val _⟩,fun w=>mul13_any N X Y lN lX lY w⟩
theorem neg13_let (X Y:Nat) (lX:X < 115792089237316195423570985008687907853269984665640564039457584007913129639936) (lY:Y < 115792089237316195423570985008687907853269984665640564039457584007913129639936):∃ U V,U < 115792089237316195423570985008687907853269984665640564039457584007913129639936 ∧ V < 115792089237316195423570985008687907853269984665640564039457584007913129639936 ∧ Away (ownP U V = pneg (ownP X Y)) ∧ ∀ w,Calls Tryz.prog 39 #[.agg (pc X Y).toArray] w fun e w'=>e = .returned (.agg (pc U V).toArray) ∧ Below w.heap.size w w' :=
 ⟨_,_,ptx_lt _,pty_lt _,⟨ownP_val _⟩,fun w=>neg13_any X Y lX lY w⟩
theorem add13_let (X Y U V:Nat) (lX:X < 115792089237316195423570985008687907853269984665640564039457584007913129639936) (lY:Y < 115792089237316195423570985008687907853269984665640564039457584007913129639936) (lU:U < 115792089237316195423570985008687907853269984665640564039457584007913129639936) (lV:V < 115792089237316195423570985008687907853269984665640564039457584007913129639936):∃ M N,M < 115792089237316195423570985008687907853269984665640564039457584007913129639936 ∧ N < 115792089237316195423570985008687907853269984665640564039457584007913129639936 ∧ Away (ownP M N = padd (ownP X Y) (ownP U V)) ∧ ∀ w,Calls Tryz.prog 40 #[.agg (pc X Y).toArray,.agg (pc U V).toArray] w fun e w'=>e = .returned (.agg (pc M N).toArray) ∧ Below w.heap.size w w' :=
 ⟨_,_,ptx_lt _,pty_lt _,⟨ownP_val _⟩,fun w=>add13_any X Y U V lX lY lU lV w⟩
set_option maxHeartbeats 4000000 in
theorem verify14_any (kb:List Nat) (okb:Lo 256 kb) (lk:kb.length = 32) (mv:Value) (m:List Nat) (om:Lo 256 m) (lm:m.length ≤ 10000) (sv:Value) (s:List Nat) (osg:Lo 256 s) (w:World) (hv:SlV w mv (C .u8 m)) (hs:SlV w sv (C .u8 s)) :
  Calls Tryz.prog 13 #[.agg (C .u8 kb).toArray,mv,sv] w fun e w'=>e = .returned (.bool (vfy kb m s)) ∧ Below w.heap.size w w':=by
 obtain ⟨ma,mn,mc,rfl⟩:=slv_shape hv
 have h:=Fr.one w 22 (C .u8 kb)
 obtain ⟨X,Y,ub,lX,lY,eU,eP,cU⟩:=un13_let kb okb lk
 by_cases hl:s.length = 64
 case neg =>
  obtain ⟨n,hn⟩:∃ n,s.length = n:=⟨_,rfl⟩
  obtain ⟨sa,sc,rfl,_,_⟩:=hs.shp hn
  have hr:Away (vfy kb m s = false):=⟨vfy_long hl⟩
  have hne:((n:Int) == 64) = false:=by rw [beq_eq_false_iff_ne];omega
  have hne2:((n:Int) != 64) = true:=by rw [bne,hne];rfl
  clear hn hl hs eU eP
  go_enter Tryz.func13,Tryz.ntmps13
  go_upto_region 1 with fail
  go_wp2_with (first | refine wpList_load_row rfl 22 _ rfl _ rfl _ _ _ _ (h.row (i:=0) rfl) Tryz.underlying22 rfl (iB lk) ?_)
  refine callOK (cU _) h ?_
  clear h
  rintro _ wn rfl h
  obtain ⟨g7,hgq0,hq0⟩:=h.more 1 44 (pc 0 0)
  replace hq0:Fr w _ [(w.heap.size,22,C .u8 kb),(g7,44,pc 0 0)]:=hq0
  go_upto_region 2 with (first | refine wpList_alloc_row rfl 44 rfl _ zPw ?_ | (refine wpList_store_R rfl 44 _ _ rfl _ (pc X Y) (congrArg (fun g=>Value.pointer (some ⟨g,0,none⟩)) hgq0) rfl (hq0.row (i:=1) rfl) (iP _ _) rfl (pc_all _ _) ?_;intro wz0 q0 hg0 hz0))
  replace h:Fr w wz0 [(w.heap.size,22,C .u8 kb),(g7,44,pc X Y)]:=(hq0.put (i:=1) rfl q0 hg0)
  try rw [hgq0]
  clear q0 hg0 hz0 hq0 hgq0
  cases ub
  ·go_wp2
   go_ret
   exact ⟨by rw [hr.out];rfl,h.bel⟩
  ·go_wp2
   go_ret
   exact ⟨by rw [hr.out];rfl,h.bel⟩
 case pos =>
  obtain ⟨sa,sc,rfl,hc1,hc2⟩:=hs.shp hl
  obtain ⟨A,hA⟩:∃ A,s.take 32 = A:=⟨_,rfl⟩
  obtain ⟨B,hB⟩:∃ B,s.drop 32 = B:=⟨_,rfl⟩
  have lA:A.length = 32:=by rw [← hA];exact lLo hl
  have lB:B.length = 32:=by rw [← hB];exact lHi hl
  have oA:Lo 256 A:=by rw [← hA];exact osg.take 32
  have oB:Lo 256 B:=by rw [← hB];exact osg.drop 32
  obtain ⟨sb,so,rfl,_⟩:=hs.old (by rw [C_length,hl];decide)
  have hS1:SlV w (.slice (some ⟨sb,so,none⟩) 32 sc) (C .u8 A):=by
   have:=hs.cut 0 32 (by decide)
   rw [List.drop_zero,← C_take,hA] at this
   exact this
  have hS2:SlV w (.slice (some ⟨sb,so + 32,none⟩) 32 (sc - 32)) (C .u8 B):=by
   have:=hs.cut 32 32 (by decide)
   rw [List.take_of_length_le (by rw [List.length_drop,C_length,hl];decide),← C_drop,hB] at this
   exact this
  have cA:=fun w hs=>thirty_any (.slice (some ⟨sb,so,none⟩) 32 sc) A oA (by omega) (by omega) w hs
  have cT:=fun w hs=>thirty_any (.slice (some ⟨sb,so + 32,none⟩) 32 (sc - 32)) B oB (by omega) (by omega) w hs
  rw [List.take_of_length_le (Nat.le_of_eq lA)] at cA
  rw [List.take_of_length_le (Nat.le_of_eq lB)] at cT
  obtain ⟨s1,rb,ls1,eR,eS,cR⟩:=read12_let B oB lB
  obtain ⟨k1,eH,lk1,cH⟩:=number3_let A kb m oA okb om (by rw [List.length_append,List.length_append];omega)
  obtain ⟨X1,Y1,lX1,lY1,eM1,cM1⟩:=mulB13_let s1 ls1
  obtain ⟨X2,Y2,lX2,lY2,eM2,cM2⟩:=mul13_let k1 X Y lk1 lX lY
  obtain ⟨X3,Y3,lX3,lY3,eN,cN⟩:=neg13_let X2 Y2 lX2 lY2
  obtain ⟨X4,Y4,lX4,lY4,eB,cP⟩:=add13_let X1 Y1 X3 Y3 lX1 lY1 lX3 lY3
  obtain ⟨J,eJ,lJ,oJ,cJ⟩:=pack13_let X4 Y4 lX4 lY4
  have hEq:=fun w=>eq32 w J A lJ lA
  obtain ⟨jb,hj⟩:∃ jb,decide (J = A) = jb:=⟨_,rfl⟩
  rw [hj] at hEq
  have hV:Away (vfy kb m s = (ub && (rb && jb))):=⟨by
   unfold vfy
   rw [hl,hA,hB,eU.out,eR.out]
   cases ub
   ·rfl
   cases rb
   ·rfl
   rw [eS.out rfl,eH.out,eP.out rfl,pneg_mul,← eM2.out,← eN.out,← eM1.out,← eB.out,eJ.out,hj]
   rfl⟩
  have hsc:¬ sc = 0:=by omega
  have hsc2:¬ sc = 32:=by omega
  have hsc3:32 ≤ sc:=by omega
  have hsc4:¬ ((sc:Int) < 32):=by omega
  clear eU eP eR eS eH eM1 eM2 eN eB eJ hj hA hB hs hl osg
  go_enter Tryz.func13,Tryz.ntmps13
  go_upto_region 1 with fail
  go_wp2_with (first | refine wpList_load_row rfl 22 _ rfl _ rfl _ _ _ _ (h.row (i:=0) rfl) Tryz.underlying22 rfl (iB lk) ?_)
  refine callOK (cU _) h ?_
  clear h
  rintro _ wn rfl h
  obtain ⟨g7,hgq0,hq0⟩:=h.more 1 44 (pc 0 0)
  replace hq0:Fr w _ [(w.heap.size,22,C .u8 kb),(g7,44,pc 0 0)]:=hq0
  go_upto_region 2 with (first | refine wpList_alloc_row rfl 44 rfl _ zPw ?_ | (refine wpList_store_R rfl 44 _ _ rfl _ (pc X Y) (congrArg (fun g=>Value.pointer (some ⟨g,0,none⟩)) hgq0) rfl (hq0.row (i:=1) rfl) (iP _ _) rfl (pc_all _ _) ?_;intro wz0 q0 hg0 hz0))
  replace h:Fr w wz0 [(w.heap.size,22,C .u8 kb),(g7,44,pc X Y)]:=(hq0.put (i:=1) rfl q0 hg0)
  try rw [hgq0]
  clear q0 hg0 hz0 hq0 hgq0
  cases ub
  ·go_wp2
   go_ret
   exact ⟨by rw [hV.out];rfl,h.bel⟩
  ·go_upto_region 4 with fail
   go_wp2_with (fail)
   refine callOK (cT _ (hS2.below h.bel)) h ?_
   clear h
   rintro _ wn rfl h
   go_wp2_with (fail)
   refine callOK (cR _) h ?_
   clear h
   rintro _ wn rfl h
   obtain ⟨g9,hgq0,hq0⟩:=h.more 2 32 (ec 0)
   replace hq0:Fr w _ [(w.heap.size,22,C .u8 kb),(g7,44,pc X Y),(g9,32,ec 0)]:=hq0
   go_upto_region 5 with (first | refine wpList_alloc_row rfl 32 rfl _ z4w ?_ | (refine wpList_store_R rfl 32 _ _ rfl _ (ec s1) (congrArg (fun g=>Value.pointer (some ⟨g,0,none⟩)) hgq0) rfl (hq0.row (i:=2) rfl) (ie4 _) rfl (ec_all _) ?_;intro wz0 q0 hg0 hz0))
   replace h:Fr w wz0 [(w.heap.size,22,C .u8 kb),(g7,44,pc X Y),(g9,32,ec s1)]:=(hq0.put (i:=2) rfl q0 hg0)
   try rw [hgq0]
   clear q0 hg0 hz0 hq0 hgq0
   cases rb
   ·go_wp2
    go_ret
    exact ⟨by rw [hV.out];rfl,h.bel⟩
   ·go_upto_region 7 with fail
    replace h:=h.drew
    refine wp_region_inv (by kernel_rfl) (fun a0 l b w'=>∃ (l0 l1 l2 l3 l4 l5 l6 l7:Bool) (g39 g11:Nat) ,l = #[l0,l1,l2,l3,l4,l5,l6,l7] ∧ b = putsA a0 [(35,l0,.slice (some ⟨sb,so,none⟩) 64 sc,undef),(36,l1,.slice (some ⟨sb,so,none⟩) 32 sc,undef),(37,l2,.slice (some ⟨w.heap.size,0,none⟩) 32 32,undef),(38,l3,.slice ma mn mc,undef),(39,l4,.slice (some ⟨g39,0,none⟩) 3 3,undef),(40,l5,.agg (ec k1).toArray,undef),(11,l6,.pointer (some ⟨g11,0,none⟩),undef)] ∧ Fr w w' (opt [(true,(w.heap.size,22,C .u8 kb)),(true,(g7,44,pc X Y)),(true,(g9,32,ec s1)),(l4,(g39,23,[.slice (some ⟨sb,so,none⟩) 32 sc,.slice (some ⟨w.heap.size,0,none⟩) 32 32,.slice ma mn mc])),(l6,(g11,32,bif l7 then ec k1 else ec 0))]) ∧ (l7 = true → l6 = true)) ?start ?step ?rest
    case start=>exact ⟨false,false,false,false,false,false,false,false,0,0,by kernel_rfl,by kernel_rfl,h,(fun e=>by cases e)⟩
    case step =>
     clear h
     intro l b w' hI i hi
     obtain ⟨l0,l1,l2,l3,l4,l5,l6,l7,g39,g11,rfl,rfl,h,hc7⟩:=hI
     have hlt:i < 8:=ready_lt hi
     obtain rfl | rfl | rfl | rfl | rfl | rfl | rfl | rfl:=(by omega:i = 0 ∨ i = 1 ∨ i = 2 ∨ i = 3 ∨ i = 4 ∨ i = 5 ∨ i = 6 ∨ i = 7)
     all_goals (obtain ⟨hn,hd⟩:=rin hi rfl;cases hn;(repeat (obtain ⟨hn,hd⟩:=hd;cases hn));clear hi hlt hd;refine wpOp_inv rfl rfl (fun K hK=>?_);simp only [putsA,Act.put,stA,st0,st1,cond_true,cond_false] at h ⊢)
     ·refine wp_value (.slice (some ⟨sb,so,none⟩) 64 sc) (by go_simp) ?_
      refine hK.out _ _ ⟨_,_,_,_,_,_,_,_,_,_,rfl,by kernel_rfl,h,?_⟩ <;> first | assumption | exact fun _=>rfl | exact nofun
     ·refine wp_value (.slice (some ⟨sb,so,none⟩) 32 sc) (by go_simp) ?_
      refine hK.out _ _ ⟨_,_,_,_,_,_,_,_,_,_,rfl,by kernel_rfl,h,?_⟩ <;> first | assumption | exact fun _=>rfl | exact nofun
     ·refine wp_value (.slice (some ⟨w.heap.size,0,none⟩) 32 32) (by go_simp) ?_
      refine hK.out _ _ ⟨_,_,_,_,_,_,_,_,_,_,rfl,by kernel_rfl,h,?_⟩ <;> first | assumption | exact fun _=>rfl | exact nofun
     ·refine wp_value (.slice ma mn mc) (by go_simp) ?_
      refine hK.out _ _ ⟨_,_,_,_,_,_,_,_,_,_,rfl,by kernel_rfl,h,?_⟩ <;> first | assumption | exact fun _=>rfl | exact nofun
     ·refine wp_parts 51 23 3 _ rfl ([.slice (some ⟨sb,so,none⟩) 32 sc,.slice (some ⟨w.heap.size,0,none⟩) 32 32,.slice ma mn mc]) (by first | rfl | kernel_rfl) Tryz.underlying51 sl1 slz rfl (by decide) (by decide) rfl ?_
      obtain ⟨gn,hgq,hq⟩:=h.on (k:=3) rfl 23 ([.slice (some ⟨sb,so,none⟩) 32 sc,.slice (some ⟨w.heap.size,0,none⟩) 32 32,.slice ma mn mc])
      rw [hgq]
      refine hK.out _ _ ⟨_,_,_,_,_,_,_,_,_,_,rfl,by kernel_rfl,hq,?_⟩ <;> first | assumption | exact fun _=>rfl | exact nofun
     ·go_simp
      refine callOK (cH g39 _ _ _ _ (h.rowo (k:=3) rfl) (hS1.below h.bel) (slB (h.rowo (k:=0) rfl) lk (by decide)) (hv.below h.bel)) h ?_
      clear h
      rintro _ wn rfl h
      refine hK.out _ _ ⟨_,_,_,_,_,_,_,_,_,_,rfl,by kernel_rfl,h,?_⟩ <;> first | assumption | exact fun _=>rfl | exact nofun
     ·obtain rfl:l7 = false:=by cases l7 with | false=>rfl | true=>exact absurd (hc7 rfl) (by decide)
      simp only [cond_false] at h ⊢
      refine wp_alloc_R 32 rfl (ec 0) z4w ?_
      obtain ⟨gn,hgq,hq⟩:=h.on (k:=4) rfl 32 (ec 0)
      rw [hgq]
      refine hK.out _ _ ⟨_,_,_,_,_,_,_,_,_,_,rfl,by kernel_rfl,hq,?_⟩ <;> first | assumption | exact fun _=>rfl | exact nofun
     ·refine wp_store_R 32 _ _ rfl _ (ec k1) rfl rfl (h.rowo (k:=4) rfl) (ie4 _) rfl (ec_all _) ?_
      intro wz q hg hz
      replace h:=h.puto (k:=4) rfl q hg
      refine hK.out _ _ ⟨_,_,_,_,_,_,_,_,_,_,rfl,by kernel_rfl,h,?_⟩ <;> first | assumption | exact fun _=>rfl | exact nofun
    case rest =>
     clear h
     intro l b w' hI hr
     obtain ⟨l0,l1,l2,l3,l4,l5,l6,l7,g39,g11,rfl,rfl,h,hc7⟩:=hI
     cases rall hr rfl (by rfl)
     clear hr hc7
     simp only [putsA,Act.put,stA,st0,st1,cond_true]
     replace h:Fr w w' [(w.heap.size,22,C .u8 kb),(g7,44,pc X Y),(g9,32,ec s1),(g39,23,[.slice (some ⟨sb,so,none⟩) 32 sc,.slice (some ⟨w.heap.size,0,none⟩) 32 32,.slice ma mn mc]),(g11,32,ec k1)]:=h
     go_upto_region 8 with fail
     replace h:=h.drew
     refine wp_region_inv (by kernel_rfl) (fun a0 l b w'=>∃ (l0 l1 l2 l3 l4:Bool) (g12:Nat) ,l = #[l0,l1,l2,l3,l4] ∧ b = putsA a0 [(41,l0,.agg (ec s1).toArray,undef),(42,l1,.agg (pc Bx By).toArray,undef),(43,l2,.agg (pc X1 Y1).toArray,undef),(12,l3,.pointer (some ⟨g12,0,none⟩),undef)] ∧ Fr w w' (opt [(true,(w.heap.size,22,C .u8 kb)),(true,(g7,44,pc X Y)),(true,(g9,32,ec s1)),(true,(g39,23,[.slice (some ⟨sb,so,none⟩) 32 sc,.slice (some ⟨w.heap.size,0,none⟩) 32 32,.slice ma mn mc])),(true,(g11,32,ec k1)),(l3,(g12,44,bif l4 then pc X1 Y1 else pc 0 0))]) ∧ (l4 = true → l3 = true)) ?start ?step ?rest
     case start=>exact ⟨false,false,false,false,false,0,by kernel_rfl,by kernel_rfl,h,(fun e=>by cases e)⟩
     case step =>
      clear h
      intro l b w' hI i hi
      obtain ⟨l0,l1,l2,l3,l4,g12,rfl,rfl,h,hc4⟩:=hI
      have hlt:i < 5:=ready_lt hi
      obtain rfl | rfl | rfl | rfl | rfl:=(by omega:i = 0 ∨ i = 1 ∨ i = 2 ∨ i = 3 ∨ i = 4)
      all_goals (obtain ⟨hn,hd⟩:=rin hi rfl;cases hn;(repeat (obtain ⟨hn,hd⟩:=hd;cases hn));clear hi hlt hd;refine wpOp_inv rfl rfl (fun K hK=>?_);simp only [putsA,Act.put,stA,st0,st1,cond_true,cond_false] at h ⊢)
      ·refine wp_value (.agg (ec s1).toArray) (exec_load_W 32 _ rfl rfl (h.rowo (k:=2) rfl) Tryz.underlying32 rfl (ie4 _)) ?_
       refine hK.out _ _ ⟨_,_,_,_,_,_,rfl,by kernel_rfl,h,?_⟩ <;> first | assumption | exact fun _=>rfl | exact nofun
      ·go_simp
       refine callOK (base13_any _) h ?_
       clear h
       rintro _ wn rfl h
       refine hK.out _ _ ⟨_,_,_,_,_,_,rfl,by kernel_rfl,h,?_⟩ <;> first | assumption | exact fun _=>rfl | exact nofun
      ·go_simp
       refine callOK (cM1 _) h ?_
       clear h
       rintro _ wn rfl h
       refine hK.out _ _ ⟨_,_,_,_,_,_,rfl,by kernel_rfl,h,?_⟩ <;> first | assumption | exact fun _=>rfl | exact nofun
      ·obtain rfl:l4 = false:=by cases l4 with | false=>rfl | true=>exact absurd (hc4 rfl) (by decide)
       simp only [cond_false] at h ⊢
       refine wp_alloc_R 44 rfl (pc 0 0) zPw ?_
       obtain ⟨gn,hgq,hq⟩:=h.on (k:=5) rfl 44 (pc 0 0)
       rw [hgq]
       refine hK.out _ _ ⟨_,_,_,_,_,_,rfl,by kernel_rfl,hq,?_⟩ <;> first | assumption | exact fun _=>rfl | exact nofun
      ·refine wp_store_R 44 _ _ rfl _ (pc X1 Y1) rfl rfl (h.rowo (k:=5) rfl) (iP _ _) rfl (pc_all _ _) ?_
       intro wz q hg hz
       replace h:=h.puto (k:=5) rfl q hg
       refine hK.out _ _ ⟨_,_,_,_,_,_,rfl,by kernel_rfl,h,?_⟩ <;> first | assumption | exact fun _=>rfl | exact nofun
     case rest =>
      clear h
      intro l b w' hI hr
      obtain ⟨l0,l1,l2,l3,l4,g12,rfl,rfl,h,hc4⟩:=hI
      cases rall hr rfl (by rfl)
      clear hr hc4
      simp only [putsA,Act.put,stA,st0,st1,cond_true]
      replace h:Fr w w' [(w.heap.size,22,C .u8 kb),(g7,44,pc X Y),(g9,32,ec s1),(g39,23,[.slice (some ⟨sb,so,none⟩) 32 sc,.slice (some ⟨w.heap.size,0,none⟩) 32 32,.slice ma mn mc]),(g11,32,ec k1),(g12,44,pc X1 Y1)]:=h
      go_upto_region 9 with fail
      go_wp2_with (first | refine wpList_load_row rfl 32 _ rfl _ rfl _ _ _ _ (h.row (i:=4) rfl) Tryz.underlying32 rfl (ie4 _) ?_ | refine wpList_load_row rfl 44 _ rfl _ rfl _ _ _ _ (h.row (i:=1) rfl) Tryz.underlying44 rfl (iP _ _) ?_)
      refine callOK (cM2 _) h ?_
      clear h
      rintro _ wn rfl h
      go_wp2_with (fail)
      refine callOK (cN _) h ?_
      clear h
      rintro _ wn rfl h
      obtain ⟨g13,hgq0,hq0⟩:=h.more 6 44 (pc 0 0)
      replace hq0:Fr w _ [(w.heap.size,22,C .u8 kb),(g7,44,pc X Y),(g9,32,ec s1),(g39,23,[.slice (some ⟨sb,so,none⟩) 32 sc,.slice (some ⟨w.heap.size,0,none⟩) 32 32,.slice ma mn mc]),(g11,32,ec k1),(g12,44,pc X1 Y1),(g13,44,pc 0 0)]:=hq0
      go_upto_region 10 with (first | refine wpList_alloc_row rfl 44 rfl _ zPw ?_ | (refine wpList_store_R rfl 44 _ _ rfl _ (pc X3 Y3) (congrArg (fun g=>Value.pointer (some ⟨g,0,none⟩)) hgq0) rfl (hq0.row (i:=6) rfl) (iP _ _) rfl (pc_all _ _) ?_;intro wz0 q0 hg0 hz0))
      replace h:Fr w wz0 [(w.heap.size,22,C .u8 kb),(g7,44,pc X Y),(g9,32,ec s1),(g39,23,[.slice (some ⟨sb,so,none⟩) 32 sc,.slice (some ⟨w.heap.size,0,none⟩) 32 32,.slice ma mn mc]),(g11,32,ec k1),(g12,44,pc X1 Y1),(g13,44,pc X3 Y3)]:=(hq0.put (i:=6) rfl q0 hg0)
      try rw [hgq0]
      clear q0 hg0 hz0 hq0 hgq0
      try simp only [Act.put,stA,st0,st1]
      replace h:=h.drew
      refine wp_region_inv (by kernel_rfl) (fun a0 l b w'=>∃ (l0 l1 l2 l3 l4 l5 l6 l7 l8:Bool) ,l = #[l0,l1,l2,l3,l4,l5,l6,l7,l8] ∧ b = putsA a0 [(48,l0,.agg (pc X1 Y1).toArray,undef),(49,l1,.agg (pc X3 Y3).toArray,undef),(50,l2,.agg (pc X4 Y4).toArray,undef),(51,l3,.agg (C .u8 J).toArray,undef),(52,l4,.slice (some ⟨sb,so,none⟩) 64 sc,undef),(53,l5,.slice (some ⟨sb,so,none⟩) 32 sc,undef),(54,l6,.agg (C .u8 A).toArray,undef),(55,l7,.bool jb,undef),(6,l8,.bool jb,.bool false)] ∧ Fr w w' (opt [(true,(w.heap.size,22,C .u8 kb)),(true,(g7,44,pc X Y)),(true,(g9,32,ec s1)),(true,(g39,23,[.slice (some ⟨sb,so,none⟩) 32 sc,.slice (some ⟨w.heap.size,0,none⟩) 32 32,.slice ma mn mc])),(true,(g11,32,ec k1)),(true,(g12,44,pc X1 Y1)),(true,(g13,44,pc X3 Y3))])) ?start ?step ?rest
      case start=>exact ⟨false,false,false,false,false,false,false,false,false,by kernel_rfl,by kernel_rfl,h⟩
      case step =>
       clear h
       intro l b w' hI i hi
       obtain ⟨l0,l1,l2,l3,l4,l5,l6,l7,l8,rfl,rfl,h⟩:=hI
       have hlt:i < 9:=ready_lt hi
       obtain rfl | rfl | rfl | rfl | rfl | rfl | rfl | rfl | rfl:=(by omega:i = 0 ∨ i = 1 ∨ i = 2 ∨ i = 3 ∨ i = 4 ∨ i = 5 ∨ i = 6 ∨ i = 7 ∨ i = 8)
       all_goals (obtain ⟨hn,hd⟩:=rin hi rfl;cases hn;(repeat (obtain ⟨hn,hd⟩:=hd;cases hn));clear hi hlt hd;refine wpOp_inv rfl rfl (fun K hK=>?_);simp only [putsA,Act.put,stA,st0,st1,cond_true,cond_false] at h ⊢)
       ·refine wp_value (.agg (pc X1 Y1).toArray) (exec_load_W 44 _ rfl rfl (h.rowo (k:=5) rfl) Tryz.underlying44 rfl (iP _ _)) ?_
        exact hK.out _ _ ⟨_,_,_,_,_,_,_,_,_,rfl,by kernel_rfl,h⟩
       ·refine wp_value (.agg (pc X3 Y3).toArray) (exec_load_W 44 _ rfl rfl (h.rowo (k:=6) rfl) Tryz.underlying44 rfl (iP _ _)) ?_
        exact hK.out _ _ ⟨_,_,_,_,_,_,_,_,_,rfl,by kernel_rfl,h⟩
       ·go_simp
        refine callOK (cP _) h ?_
        clear h
        rintro _ wn rfl h
        exact hK.out _ _ ⟨_,_,_,_,_,_,_,_,_,rfl,by kernel_rfl,h⟩
       ·go_simp
        refine callOK (cJ _) h ?_
        clear h
        rintro _ wn rfl h
        exact hK.out _ _ ⟨_,_,_,_,_,_,_,_,_,rfl,by kernel_rfl,h⟩
       ·refine wp_value (.slice (some ⟨sb,so,none⟩) 64 sc) (by go_simp) ?_
        exact hK.out _ _ ⟨_,_,_,_,_,_,_,_,_,rfl,by kernel_rfl,h⟩
       ·refine wp_value (.slice (some ⟨sb,so,none⟩) 32 sc) (by go_simp) ?_
        exact hK.out _ _ ⟨_,_,_,_,_,_,_,_,_,rfl,by kernel_rfl,h⟩
       ·go_simp
        refine callOK (cA _ (hS1.below h.bel)) h ?_
        clear h
        rintro _ wn rfl h
        exact hK.out _ _ ⟨_,_,_,_,_,_,_,_,_,rfl,by kernel_rfl,h⟩
       ·refine wp_value (.bool jb) (by go_simp) ?_
        exact hK.out _ _ ⟨_,_,_,_,_,_,_,_,_,rfl,by kernel_rfl,h⟩
       ·refine wp_value (.bool jb) (by go_simp) ?_
        exact hK.out _ _ ⟨_,_,_,_,_,_,_,_,_,rfl,by kernel_rfl,h⟩
      case rest =>
       clear h
       intro l b w' hI hr
       obtain ⟨l0,l1,l2,l3,l4,l5,l6,l7,l8,rfl,rfl,h⟩:=hI
       cases rall hr rfl (by rfl)
       clear hr
       simp only [putsA,Act.put,stA,st0,st1,cond_true]
       replace h:Fr w w' [(w.heap.size,22,C .u8 kb),(g7,44,pc X Y),(g9,32,ec s1),(g39,23,[.slice (some ⟨sb,so,none⟩) 32 sc,.slice (some ⟨w.heap.size,0,none⟩) 32 32,.slice ma mn mc]),(g11,32,ec k1),(g12,44,pc X1 Y1),(g13,44,pc X3 Y3)]:=h
       go_wp2
       go_ret
       exact ⟨by rw [hV.out];rfl,h.bel⟩
end Go.Proofs.YtmjimilhomabfaaGreatDoor.F
