/-
 A signature told, over this seat. Conditions: the message has at most 10000 bytes; the packages' variables start as told.
-/
import Derived.Test.YtmjimilhomabfaaGreatDoorEsB
namespace Go.Proofs.YtmjimilhomabfaaGreatDoor.F
open Go.RowKit
set_option linter.unusedVariables false
set_option maxRecDepth 10000
open E (z z_val z_same z_add z_mul z_sub z_inv z_mod z_of dd Pt padd pneg pmul iv ax ay Sc)
theorem un_let (b:List Nat) (ob:Lo 256 b) (lb:b.length = 32):∃ X Y ub,X < 115792089237316195423570985008687907853269984665640564039457584007913129639936 ∧ Y < 115792089237316195423570985008687907853269984665640564039457584007913129639936 ∧ Away (unOk (hiB b) (lowB b) = ub) ∧ Away (ub = true → unP b = ownP X Y) ∧ ∀ w,TS w → Calls Tryz.prog 31 #[.agg (C .u8 b).toArray] w fun e w'=>e = .returned (.tuple #[.agg (pc X Y).toArray,.bool ub]) ∧ Below w.heap.size w w':=by
 cases hu:unOk (hiB b) (lowB b) with
 | false =>
  refine ⟨0,1,false,by decide,by decide,⟨rfl⟩,⟨fun h=>by cases h⟩,fun w hT=>?_⟩
  have h:=unpack_any b ob lb w hT.r
  rw [unC,hu] at h
  exact h
 | true =>
  obtain ⟨p,hy,hx,_⟩:=unOk_point hu
  refine ⟨unX (hiB b) (lowB b),lowB b,true,?_,?_,⟨rfl⟩,⟨fun _=>rfl⟩,fun w hT=>?_⟩
  ·rw [← hx];exact ptx_lt p
  ·rw [← hy];exact pty_lt p
  ·have h:=unpack_any b ob lb w hT.r
   rw [unC,hu] at h
   exact h
theorem read_let (b:List Nat) (ob:Lo 256 b) (lb:b.length = 32):∃ n rb,n < 115792089237316195423570985008687907853269984665640564039457584007913129639936 ∧ Away (decide (val 256 b < Lq) = rb) ∧ Away (rb = true → val 256 b = n) ∧ ∀ w,TS w → Calls Tryz.prog 32 #[.agg (C .u8 b).toArray] w fun e w'=>e = .returned (.tuple #[.agg (ec n).toArray,.bool rb]) ∧ Below w.heap.size w w':=by
 refine ⟨_,_,?_,⟨rfl⟩,⟨fun h=>?_⟩,fun w hT=>sread_any b ob lb w hT.o⟩
 ·split
  ·exact Nat.lt_trans (by assumption) Lq_lt
  ·decide
 ·rw [if_pos (of_decide_eq_true h)]
theorem neg_let (X Y:Nat) (lX:X < 115792089237316195423570985008687907853269984665640564039457584007913129639936) (lY:Y < 115792089237316195423570985008687907853269984665640564039457584007913129639936):∃ U V,U < 115792089237316195423570985008687907853269984665640564039457584007913129639936 ∧ V < 115792089237316195423570985008687907853269984665640564039457584007913129639936 ∧ Away (ownP U V = pneg (ownP X Y)) ∧ ∀ w,TS w → Calls Tryz.prog 36 #[.agg (pc X Y).toArray] w fun e w'=>e = .returned (.agg (pc U V).toArray) ∧ Below w.heap.size w w' :=
 ⟨_,_,ptx_lt _,pty_lt _,⟨ownP_val _⟩,fun w hT=>neg_any X Y lX lY w hT.r.i.e⟩
theorem both_let (s k X Y:Nat) (ls:s < 115792089237316195423570985008687907853269984665640564039457584007913129639936) (lk:k < 115792089237316195423570985008687907853269984665640564039457584007913129639936) (lX:X < 115792089237316195423570985008687907853269984665640564039457584007913129639936) (lY:Y < 115792089237316195423570985008687907853269984665640564039457584007913129639936):∃ U V,U < 115792089237316195423570985008687907853269984665640564039457584007913129639936 ∧ V < 115792089237316195423570985008687907853269984665640564039457584007913129639936 ∧ Away (ownP U V = padd (pmul s Bpt) (pmul k (ownP X Y))) ∧ ∀ w,TS w → Calls Tryz.prog 34 #[.agg (ec s).toArray,.agg (pc Bx By).toArray,.agg (ec k).toArray,.agg (pc X Y).toArray] w fun e w'=>e = .returned (.agg (pc U V).toArray) ∧ Below w.heap.size w w' :=
 ⟨_,_,ptx_lt _,pty_lt _,⟨ownP_val _⟩,fun w hT=>both_any s Bx By k X Y ls Bx_lt By_lt lk lX lY w hT.r.i⟩
set_option maxHeartbeats 4000000 in
theorem verify_any (kb:List Nat) (okb:Lo 256 kb) (lk:kb.length = 32) (mv:Value) (m:List Nat) (om:Lo 256 m) (lm:m.length ≤ 10000) (sv:Value) (s:List Nat) (osg:Lo 256 s) (w:World) (hv:SlV w mv (C .u8 m)) (hs:SlV w sv (C .u8 s)) (hT:TS w) :
  Calls Tryz.prog 12 #[.agg (C .u8 kb).toArray,mv,sv] w fun e w'=>e = .returned (.bool (vfy kb m s)) ∧ Below w.heap.size w w':=by
 obtain ⟨ma,mn,mc,rfl⟩:=slv_shape hv
 have h:=Fr.one w 22 (C .u8 kb)
 by_cases hl:s.length = 64
 case neg =>
  obtain ⟨n,hn⟩:∃ n,s.length = n:=⟨_,rfl⟩
  obtain ⟨sa,sc,rfl,_,_⟩:=hs.shp hn
  have hr:Away (vfy kb m s = false):=⟨vfy_long hl⟩
  have hne:((n:Int) == 64) = false:=by rw [beq_eq_false_iff_ne];omega
  have hne2:((n:Int) != 64) = true:=by rw [bne,hne];rfl
  clear hn hl hs
  go_enter Tryz.func12,Tryz.ntmps12
  go_wp2
  go_ret
  exact ⟨by rw [hr.out];rfl,h.bel⟩
 case pos =>
  obtain ⟨sa,sc,rfl,hc1,hc2⟩:=hs.shp hl
  obtain ⟨A,hA⟩:∃ A,s.take 32 = A:=⟨_,rfl⟩
  obtain ⟨B,hB⟩:∃ B,s.drop 32 = B:=⟨_,rfl⟩
  have lA:A.length = 32:=by rw [← hA];exact lLo hl
  have lB:B.length = 32:=by rw [← hB];exact lHi hl
  have oA:Lo 256 A:=by rw [← hA];exact osg.take 32
  have oB:Lo 256 B:=by rw [← hB];exact osg.drop 32
  obtain ⟨sb,so,rfl,_⟩:=hs.old (by rw [C_length,hl];decide)
  have hS1:SlV w (.slice (some ⟨sb,so,none⟩) 32 sc) (C .u8 A):=by
   have:=hs.cut 0 32 (by decide)
   rw [List.drop_zero,← C_take,hA] at this
   exact this
  have hS2:SlV w (.slice (some ⟨sb,so + 32,none⟩) 32 (sc - 32)) (C .u8 B):=by
   have:=hs.cut 32 32 (by decide)
   rw [List.take_of_length_le (by rw [List.length_drop,C_length,hl];decide),← C_drop,hB] at this
   exact this
  obtain ⟨X,Y,ub,lX,lY,eU,eP,cU⟩:=un_let kb okb lk
  obtain ⟨s1,rb,ls1,eR,eS,cR⟩:=read_let B oB lB
  obtain ⟨H,eH,lH,oH,cH⟩:=hash3_let A kb m oA okb om (by rw [List.length_append,List.length_append];omega)
  obtain ⟨k1,ek,lk1,cW⟩:=wide_let H oH lH
  obtain ⟨X1,Y1,lX1,lY1,eN,cN⟩:=neg_let X Y lX lY
  obtain ⟨X2,Y2,lX2,lY2,eB,cB⟩:=both_let s1 k1 X1 Y1 ls1 lk1 lX1 lY1
  obtain ⟨J,eJ,lJ,oJ,cJ⟩:=pack_let X2 Y2 lX2 lY2
  have hEq:=fun w=>eq32 w J A lJ lA
  obtain ⟨jb,hj⟩:∃ jb,decide (J = A) = jb:=⟨_,rfl⟩
  rw [hj] at hEq
  have hV:Away (vfy kb m s = (ub && (rb && jb))):=⟨by
   unfold vfy
   rw [hl,hA,hB,eU.out,eR.out]
   cases ub
   ·rfl
   cases rb
   ·rfl
   have e1:wid (A ++ (kb ++ m)) = k1:=by unfold wid;rw [eH.out,ek.out]
   rw [eS.out rfl,e1,eP.out rfl,← eN.out,← eB.out,eJ.out,hj]
   rfl⟩
  have hsc:¬ sc = 0:=by omega
  have hsc2:¬ sc = 32:=by omega
  have hsc3:32 ≤ sc:=by omega
  have hsc4:¬ ((sc:Int) < 32):=by omega
  clear eU eP eR eS eH ek eN eB eJ hj hA hB hs hl osg
  go_enter Tryz.func12,Tryz.ntmps12
  go_upto_region 3 with fail
  replace h:=h.drew
  refine wp_region_inv (by kernel_rfl) (fun a0 l b w'=>∃ (l0 l1 l2 l3 l4 l5 l6 l7 l8 l9 l10 l11:Bool) (g7 g8:Nat) ,l = #[l0,l1,l2,l3,l4,l5,l6,l7,l8,l9,l10,l11] ∧ b = putsA a0 [(16,l0,.slice (some ⟨sb,so,none⟩) 64 sc,undef),(17,l1,.slice (some ⟨sb,so,none⟩) 32 sc,undef),(18,l2,.pointer (some ⟨sb,so,none⟩),undef),(19,l3,.agg (C .u8 A).toArray,undef),(20,l4,.slice (some ⟨sb,so,none⟩) 64 sc,undef),(21,l5,.slice (some ⟨sb,so + 32,none⟩) 32 (sc - 32),undef),(22,l6,.pointer (some ⟨sb,so + 32,none⟩),undef),(23,l7,.agg (C .u8 B).toArray,undef),(7,l8,.pointer (some ⟨g7,0,none⟩),undef),(8,l9,.pointer (some ⟨g8,0,none⟩),undef)] ∧ Fr w w' (opt [(true,(w.heap.size,22,C .u8 kb)),(l8,(g7,22,bif l10 then C .u8 A else C .u8 (Z 32))),(l9,(g8,22,bif l11 then C .u8 B else C .u8 (Z 32)))]) ∧ (l10 = true → l8 = true) ∧ (l11 = true → l9 = true)) ?start ?step ?rest
  case start=>exact ⟨false,false,false,false,false,false,false,false,false,false,false,false,0,0,by kernel_rfl,by kernel_rfl,h,(fun e=>by cases e),(fun e=>by cases e)⟩
  case step =>
   clear h
   intro l b w' hI i hi
   obtain ⟨l0,l1,l2,l3,l4,l5,l6,l7,l8,l9,l10,l11,g7,g8,rfl,rfl,h,hc10,hc11⟩:=hI
   have hlt:i < 12:=ready_lt hi
   obtain rfl | rfl | rfl | rfl | rfl | rfl | rfl | rfl | rfl | rfl | rfl | rfl:=(by omega:i = 0 ∨ i = 1 ∨ i = 2 ∨ i = 3 ∨ i = 4 ∨ i = 5 ∨ i = 6 ∨ i = 7 ∨ i = 8 ∨ i = 9 ∨ i = 10 ∨ i = 11)
   all_goals (obtain ⟨hn,hd⟩:=rin hi rfl;cases hn;(repeat (obtain ⟨hn,hd⟩:=hd;cases hn));clear hi hlt hd;refine wpOp_inv rfl rfl (fun K hK=>?_);simp only [putsA,Act.put,stA,st0,st1,cond_true,cond_false] at h ⊢)
   ·refine wp_value (.slice (some ⟨sb,so,none⟩) 64 sc) (by go_simp) ?_
    refine hK.out _ _ ⟨_,_,_,_,_,_,_,_,_,_,_,_,_,_,rfl,by kernel_rfl,h,?_,?_⟩ <;> first | assumption | exact fun _=>rfl | exact nofun
   ·refine wp_value (.slice (some ⟨sb,so,none⟩) 32 sc) (by go_simp) ?_
    refine hK.out _ _ ⟨_,_,_,_,_,_,_,_,_,_,_,_,_,_,rfl,by kernel_rfl,h,?_,?_⟩ <;> first | assumption | exact fun _=>rfl | exact nofun
   ·refine wp_value (.pointer (some ⟨sb,so,none⟩)) (exec_arrayAt 22 _ rfl rfl Tryz.underlying22 (by decide)) ?_
    refine hK.out _ _ ⟨_,_,_,_,_,_,_,_,_,_,_,_,_,_,rfl,by kernel_rfl,h,?_,?_⟩ <;> first | assumption | exact fun _=>rfl | exact nofun
   ·refine wp_value (.agg (C .u8 A).toArray) (exec_load_sl 22 _ rfl rfl (hS1.below h.bel) (by rw [C_length,lA]) (by decide) Tryz.underlying22 i32) ?_
    refine hK.out _ _ ⟨_,_,_,_,_,_,_,_,_,_,_,_,_,_,rfl,by kernel_rfl,h,?_,?_⟩ <;> first | assumption | exact fun _=>rfl | exact nofun
   ·refine wp_value (.slice (some ⟨sb,so,none⟩) 64 sc) (by go_simp) ?_
    refine hK.out _ _ ⟨_,_,_,_,_,_,_,_,_,_,_,_,_,_,rfl,by kernel_rfl,h,?_,?_⟩ <;> first | assumption | exact fun _=>rfl | exact nofun
   ·refine wp_value (.slice (some ⟨sb,so + 32,none⟩) 32 (sc - 32)) (by go_simp) ?_
    refine hK.out _ _ ⟨_,_,_,_,_,_,_,_,_,_,_,_,_,_,rfl,by kernel_rfl,h,?_,?_⟩ <;> first | assumption | exact fun _=>rfl | exact nofun
   ·refine wp_value (.pointer (some ⟨sb,so + 32,none⟩)) (exec_arrayAt 22 _ rfl rfl Tryz.underlying22 (by decide)) ?_
    refine hK.out _ _ ⟨_,_,_,_,_,_,_,_,_,_,_,_,_,_,rfl,by kernel_rfl,h,?_,?_⟩ <;> first | assumption | exact fun _=>rfl | exact nofun
   ·refine wp_value (.agg (C .u8 B).toArray) (exec_load_sl 22 _ rfl rfl (hS2.below h.bel) (by rw [C_length,lB]) (by decide) Tryz.underlying22 i32) ?_
    refine hK.out _ _ ⟨_,_,_,_,_,_,_,_,_,_,_,_,_,_,rfl,by kernel_rfl,h,?_,?_⟩ <;> first | assumption | exact fun _=>rfl | exact nofun
   ·obtain rfl:l10 = false:=by cases l10 with | false=>rfl | true=>exact absurd (hc10 rfl) (by decide)
    simp only [cond_false] at h ⊢
    refine wp_alloc_R 22 rfl (C .u8 (Z 32)) z32 ?_
    obtain ⟨gn,hgq,hq⟩:=h.on (k:=1) rfl 22 (C .u8 (Z 32))
    rw [hgq]
    refine hK.out _ _ ⟨_,_,_,_,_,_,_,_,_,_,_,_,_,_,rfl,by kernel_rfl,hq,?_,?_⟩ <;> first | assumption | exact fun _=>rfl | exact nofun
   ·obtain rfl:l11 = false:=by cases l11 with | false=>rfl | true=>exact absurd (hc11 rfl) (by decide)
    simp only [cond_false] at h ⊢
    refine wp_alloc_R 22 rfl (C .u8 (Z 32)) z32 ?_
    obtain ⟨gn,hgq,hq⟩:=h.on (k:=2) rfl 22 (C .u8 (Z 32))
    rw [hgq]
    refine hK.out _ _ ⟨_,_,_,_,_,_,_,_,_,_,_,_,_,_,rfl,by kernel_rfl,hq,?_,?_⟩ <;> first | assumption | exact fun _=>rfl | exact nofun
   ·refine wp_store_R 22 _ _ rfl _ (C .u8 A) rfl rfl (h.rowo (k:=1) rfl) (iB (by first | assumption | rfl | (apply lLo;assumption) | (apply lHi;assumption) | (rw [List.length_append];omega))) (zB (n:=32) rfl (by first | assumption | rfl | (apply lLo;assumption) | (apply lHi;assumption) | (rw [List.length_append];omega))) (C_allL _ _) ?_
    intro wz q hg hz
    replace h:=h.puto (k:=1) rfl q hg
    refine hK.out _ _ ⟨_,_,_,_,_,_,_,_,_,_,_,_,_,_,rfl,by kernel_rfl,h,?_,?_⟩ <;> first | assumption | exact fun _=>rfl | exact nofun
   ·refine wp_store_R 22 _ _ rfl _ (C .u8 B) rfl rfl (h.rowo (k:=2) rfl) (iB (by first | assumption | rfl | (apply lLo;assumption) | (apply lHi;assumption) | (rw [List.length_append];omega))) (zB (n:=32) rfl (by first | assumption | rfl | (apply lLo;assumption) | (apply lHi;assumption) | (rw [List.length_append];omega))) (C_allL _ _) ?_
    intro wz q hg hz
    replace h:=h.puto (k:=2) rfl q hg
    refine hK.out _ _ ⟨_,_,_,_,_,_,_,_,_,_,_,_,_,_,rfl,by kernel_rfl,h,?_,?_⟩ <;> first | assumption | exact fun _=>rfl | exact nofun
  case rest =>
   clear h
   intro l b w' hI hr
   obtain ⟨l0,l1,l2,l3,l4,l5,l6,l7,l8,l9,l10,l11,g7,g8,rfl,rfl,h,hc10,hc11⟩:=hI
   cases rall hr rfl (by rfl)
   clear hr hc10 hc11
   simp only [putsA,Act.put,stA,st0,st1,cond_true]
   replace h:Fr w w' [(w.heap.size,22,C .u8 kb),(g7,22,C .u8 A),(g8,22,C .u8 B)]:=h
   go_upto_region 4 with fail
   go_wp2_with (first | refine wpList_load_row rfl 22 _ rfl _ rfl _ _ _ _ (h.row (i:=0) rfl) Tryz.underlying22 rfl (iB lk) ?_)
   refine callOK (cU _ (hT.below h.bel)) h ?_
   clear h
   rintro _ wn rfl h
   obtain ⟨g9,hgq0,hq0⟩:=h.more 3 44 (pc 0 0)
   replace hq0:Fr w _ [(w.heap.size,22,C .u8 kb),(g7,22,C .u8 A),(g8,22,C .u8 B),(g9,44,pc 0 0)]:=hq0
   go_upto_region 5 with (first | refine wpList_alloc_row rfl 44 rfl _ zPw ?_ | (refine wpList_store_R rfl 44 _ _ rfl _ (pc X Y) (congrArg (fun g=>Value.pointer (some ⟨g,0,none⟩)) hgq0) rfl (hq0.row (i:=3) rfl) (iP _ _) rfl (pc_all _ _) ?_;intro wz0 q0 hg0 hz0))
   replace h:Fr w wz0 [(w.heap.size,22,C .u8 kb),(g7,22,C .u8 A),(g8,22,C .u8 B),(g9,44,pc X Y)]:=(hq0.put (i:=3) rfl q0 hg0)
   try rw [hgq0]
   clear q0 hg0 hz0 hq0 hgq0
   cases ub
   ·go_wp2
    go_ret
    exact ⟨by rw [hV.out];rfl,h.bel⟩
   ·go_wp2_with (first | refine wpList_load_row rfl 22 _ rfl _ rfl _ _ _ _ (h.row (i:=2) rfl) Tryz.underlying22 rfl (iB lB) ?_)
    refine callOK (cR _ (hT.below h.bel)) h ?_
    clear h
    rintro _ wn rfl h
    obtain ⟨g11,hgq0,hq0⟩:=h.more 4 32 (ec 0)
    replace hq0:Fr w _ [(w.heap.size,22,C .u8 kb),(g7,22,C .u8 A),(g8,22,C .u8 B),(g9,44,pc X Y),(g11,32,ec 0)]:=hq0
    go_upto_region 8 with (first | refine wpList_alloc_row rfl 32 rfl _ z4w ?_ | (refine wpList_store_R rfl 32 _ _ rfl _ (ec s1) (congrArg (fun g=>Value.pointer (some ⟨g,0,none⟩)) hgq0) rfl (hq0.row (i:=4) rfl) (ie4 _) rfl (ec_all _) ?_;intro wz0 q0 hg0 hz0))
    replace h:Fr w wz0 [(w.heap.size,22,C .u8 kb),(g7,22,C .u8 A),(g8,22,C .u8 B),(g9,44,pc X Y),(g11,32,ec s1)]:=(hq0.put (i:=4) rfl q0 hg0)
    try rw [hgq0]
    clear q0 hg0 hz0 hq0 hgq0
    cases rb
    ·go_wp2
     go_ret
     exact ⟨by rw [hV.out];rfl,h.bel⟩
    ·go_upto_region 10 with fail
     replace h:=h.drew
     refine wp_region_inv (by kernel_rfl) (fun a0 l b w'=>∃ (l0 l1 l2 l3 l4 l5 l6 l7:Bool) (g41 g12:Nat) ,l = #[l0,l1,l2,l3,l4,l5,l6,l7] ∧ b = putsA a0 [(38,l0,.slice (some ⟨g7,0,none⟩) 32 32,undef),(39,l1,.slice (some ⟨w.heap.size,0,none⟩) 32 32,undef),(40,l2,.slice ma mn mc,undef),(41,l3,.slice (some ⟨g41,0,none⟩) 3 3,undef),(42,l4,.agg (C .u8 H).toArray,undef),(43,l5,.agg (ec k1).toArray,undef),(12,l6,.pointer (some ⟨g12,0,none⟩),undef)] ∧ Fr w w' (opt [(true,(w.heap.size,22,C .u8 kb)),(true,(g7,22,C .u8 A)),(true,(g8,22,C .u8 B)),(true,(g9,44,pc X Y)),(true,(g11,32,ec s1)),(l3,(g41,23,[.slice (some ⟨g7,0,none⟩) 32 32,.slice (some ⟨w.heap.size,0,none⟩) 32 32,.slice ma mn mc])),(l6,(g12,32,bif l7 then ec k1 else ec 0))]) ∧ (l7 = true → l6 = true)) ?start ?step ?rest
     case start=>exact ⟨false,false,false,false,false,false,false,false,0,0,by kernel_rfl,by kernel_rfl,h,(fun e=>by cases e)⟩
     case step =>
      clear h
      intro l b w' hI i hi
      obtain ⟨l0,l1,l2,l3,l4,l5,l6,l7,g41,g12,rfl,rfl,h,hc7⟩:=hI
      have hlt:i < 8:=ready_lt hi
      obtain rfl | rfl | rfl | rfl | rfl | rfl | rfl | rfl:=(by omega:i = 0 ∨ i = 1 ∨ i = 2 ∨ i = 3 ∨ i = 4 ∨ i = 5 ∨ i = 6 ∨ i = 7)
      all_goals (obtain ⟨hn,hd⟩:=rin hi rfl;cases hn;(repeat (obtain ⟨hn,hd⟩:=hd;cases hn));clear hi hlt hd;refine wpOp_inv rfl rfl (fun K hK=>?_);simp only [putsA,Act.put,stA,st0,st1,cond_true,cond_false] at h ⊢)
      ·refine wp_value (.slice (some ⟨g7,0,none⟩) 32 32) (by go_simp) ?_
       refine hK.out _ _ ⟨_,_,_,_,_,_,_,_,_,_,rfl,by kernel_rfl,h,?_⟩ <;> first | assumption | exact fun _=>rfl | exact nofun
      ·refine wp_value (.slice (some ⟨w.heap.size,0,none⟩) 32 32) (by go_simp) ?_
       refine hK.out _ _ ⟨_,_,_,_,_,_,_,_,_,_,rfl,by kernel_rfl,h,?_⟩ <;> first | assumption | exact fun _=>rfl | exact nofun
      ·refine wp_value (.slice ma mn mc) (by go_simp) ?_
       refine hK.out _ _ ⟨_,_,_,_,_,_,_,_,_,_,rfl,by kernel_rfl,h,?_⟩ <;> first | assumption | exact fun _=>rfl | exact nofun
      ·refine wp_parts 51 23 3 _ rfl ([.slice (some ⟨g7,0,none⟩) 32 32,.slice (some ⟨w.heap.size,0,none⟩) 32 32,.slice ma mn mc]) (by first | rfl | kernel_rfl) Tryz.underlying51 sl1 slz rfl (by decide) (by decide) rfl ?_
       obtain ⟨gn,hgq,hq⟩:=h.on (k:=5) rfl 23 ([.slice (some ⟨g7,0,none⟩) 32 32,.slice (some ⟨w.heap.size,0,none⟩) 32 32,.slice ma mn mc])
       rw [hgq]
       refine hK.out _ _ ⟨_,_,_,_,_,_,_,_,_,_,rfl,by kernel_rfl,hq,?_⟩ <;> first | assumption | exact fun _=>rfl | exact nofun
      ·go_simp
       refine callOK (cH g41 _ _ _ _ (h.rowo (k:=5) rfl) (slB (h.rowo (k:=1) rfl) lA (by decide)) (slB (h.rowo (k:=0) rfl) lk (by decide)) (hv.below h.bel) (hT.below h.bel)) h ?_
       clear h
       rintro _ wn rfl h
       refine hK.out _ _ ⟨_,_,_,_,_,_,_,_,_,_,rfl,by kernel_rfl,h,?_⟩ <;> first | assumption | exact fun _=>rfl | exact nofun
      ·go_simp
       refine callOK (cW _ (hT.below h.bel)) h ?_
       clear h
       rintro _ wn rfl h
       refine hK.out _ _ ⟨_,_,_,_,_,_,_,_,_,_,rfl,by kernel_rfl,h,?_⟩ <;> first | assumption | exact fun _=>rfl | exact nofun
      ·obtain rfl:l7 = false:=by cases l7 with | false=>rfl | true=>exact absurd (hc7 rfl) (by decide)
       simp only [cond_false] at h ⊢
       refine wp_alloc_R 32 rfl (ec 0) z4w ?_
       obtain ⟨gn,hgq,hq⟩:=h.on (k:=6) rfl 32 (ec 0)
       rw [hgq]
       refine hK.out _ _ ⟨_,_,_,_,_,_,_,_,_,_,rfl,by kernel_rfl,hq,?_⟩ <;> first | assumption | exact fun _=>rfl | exact nofun
      ·refine wp_store_R 32 _ _ rfl _ (ec k1) rfl rfl (h.rowo (k:=6) rfl) (ie4 _) rfl (ec_all _) ?_
       intro wz q hg hz
       replace h:=h.puto (k:=6) rfl q hg
       refine hK.out _ _ ⟨_,_,_,_,_,_,_,_,_,_,rfl,by kernel_rfl,h,?_⟩ <;> first | assumption | exact fun _=>rfl | exact nofun
     case rest =>
      clear h
      intro l b w' hI hr
      obtain ⟨l0,l1,l2,l3,l4,l5,l6,l7,g41,g12,rfl,rfl,h,hc7⟩:=hI
      cases rall hr rfl (by rfl)
      clear hr hc7
      simp only [putsA,Act.put,stA,st0,st1,cond_true]
      replace h:Fr w w' [(w.heap.size,22,C .u8 kb),(g7,22,C .u8 A),(g8,22,C .u8 B),(g9,44,pc X Y),(g11,32,ec s1),(g41,23,[.slice (some ⟨g7,0,none⟩) 32 32,.slice (some ⟨w.heap.size,0,none⟩) 32 32,.slice ma mn mc]),(g12,32,ec k1)]:=h
      go_upto_region 11 with fail
      replace h:=h.drew
      refine wp_region_inv (by kernel_rfl) (fun a0 l b w'=>∃ (l0 l1 l2 l3 l4 l5 l6 l7 l8 l9:Bool) ,l = #[l0,l1,l2,l3,l4,l5,l6,l7,l8,l9] ∧ b = putsA a0 [(44,l0,.agg (ec s1).toArray,undef),(45,l1,.agg (pc Bx By).toArray,undef),(46,l2,.agg (ec k1).toArray,undef),(47,l3,.agg (pc X Y).toArray,undef),(48,l4,.agg (pc X1 Y1).toArray,undef),(49,l5,.agg (pc X2 Y2).toArray,undef),(50,l6,.agg (C .u8 J).toArray,undef),(51,l7,.agg (C .u8 A).toArray,undef),(52,l8,.bool jb,undef),(6,l9,.bool jb,.bool false)] ∧ Fr w w' (opt [(true,(w.heap.size,22,C .u8 kb)),(true,(g7,22,C .u8 A)),(true,(g8,22,C .u8 B)),(true,(g9,44,pc X Y)),(true,(g11,32,ec s1)),(true,(g41,23,[.slice (some ⟨g7,0,none⟩) 32 32,.slice (some ⟨w.heap.size,0,none⟩) 32 32,.slice ma mn mc])),(true,(g12,32,ec k1))])) ?start ?step ?rest
      case start=>exact ⟨false,false,false,false,false,false,false,false,false,false,by kernel_rfl,by kernel_rfl,h⟩
      case step =>
       clear h
       intro l b w' hI i hi
       obtain ⟨l0,l1,l2,l3,l4,l5,l6,l7,l8,l9,rfl,rfl,h⟩:=hI
       have hlt:i < 10:=ready_lt hi
       obtain rfl | rfl | rfl | rfl | rfl | rfl | rfl | rfl | rfl | rfl:=(by omega:i = 0 ∨ i = 1 ∨ i = 2 ∨ i = 3 ∨ i = 4 ∨ i = 5 ∨ i = 6 ∨ i = 7 ∨ i = 8 ∨ i = 9)
       all_goals (obtain ⟨hn,hd⟩:=rin hi rfl;cases hn;(repeat (obtain ⟨hn,hd⟩:=hd;cases hn));clear hi hlt hd;refine wpOp_inv rfl rfl (fun K hK=>?_);simp only [putsA,Act.put,stA,st0,st1,cond_true,cond_false] at h ⊢)
       ·refine wp_value (.agg (ec s1).toArray) (exec_load_W 32 _ rfl rfl (h.rowo (k:=4) rfl) Tryz.underlying32 rfl (ie4 _)) ?_
        exact hK.out _ _ ⟨_,_,_,_,_,_,_,_,_,_,rfl,by kernel_rfl,h⟩
       ·go_simp
        refine callOK (base_el _ (hT.below h.bel).b) h ?_
        clear h
        rintro _ wn rfl h
        exact hK.out _ _ ⟨_,_,_,_,_,_,_,_,_,_,rfl,by kernel_rfl,h⟩
       ·refine wp_value (.agg (ec k1).toArray) (exec_load_W 32 _ rfl rfl (h.rowo (k:=6) rfl) Tryz.underlying32 rfl (ie4 _)) ?_
        exact hK.out _ _ ⟨_,_,_,_,_,_,_,_,_,_,rfl,by kernel_rfl,h⟩
       ·refine wp_value (.agg (pc X Y).toArray) (exec_load_W 44 _ rfl rfl (h.rowo (k:=3) rfl) Tryz.underlying44 rfl (iP _ _)) ?_
        exact hK.out _ _ ⟨_,_,_,_,_,_,_,_,_,_,rfl,by kernel_rfl,h⟩
       ·go_simp
        refine callOK (cN _ (hT.below h.bel)) h ?_
        clear h
        rintro _ wn rfl h
        exact hK.out _ _ ⟨_,_,_,_,_,_,_,_,_,_,rfl,by kernel_rfl,h⟩
       ·go_simp
        refine callOK (cB _ (hT.below h.bel)) h ?_
        clear h
        rintro _ wn rfl h
        exact hK.out _ _ ⟨_,_,_,_,_,_,_,_,_,_,rfl,by kernel_rfl,h⟩
       ·go_simp
        refine callOK (cJ _ (hT.below h.bel)) h ?_
        clear h
        rintro _ wn rfl h
        exact hK.out _ _ ⟨_,_,_,_,_,_,_,_,_,_,rfl,by kernel_rfl,h⟩
       ·refine wp_value (.agg (C .u8 A).toArray) (exec_load_W 22 _ rfl rfl (h.rowo (k:=1) rfl) Tryz.underlying22 rfl (iB lA)) ?_
        exact hK.out _ _ ⟨_,_,_,_,_,_,_,_,_,_,rfl,by kernel_rfl,h⟩
       ·refine wp_value (.bool jb) (by go_simp) ?_
        exact hK.out _ _ ⟨_,_,_,_,_,_,_,_,_,_,rfl,by kernel_rfl,h⟩
       ·refine wp_value (.bool jb) (by go_simp) ?_
        exact hK.out _ _ ⟨_,_,_,_,_,_,_,_,_,_,rfl,by kernel_rfl,h⟩
      case rest =>
       clear h
       intro l b w' hI hr
       obtain ⟨l0,l1,l2,l3,l4,l5,l6,l7,l8,l9,rfl,rfl,h⟩:=hI
       cases rall hr rfl (by rfl)
       clear hr
       simp only [putsA,Act.put,stA,st0,st1,cond_true]
       replace h:Fr w w' [(w.heap.size,22,C .u8 kb),(g7,22,C .u8 A),(g8,22,C .u8 B),(g9,44,pc X Y),(g11,32,ec s1),(g41,23,[.slice (some ⟨g7,0,none⟩) 32 32,.slice (some ⟨w.heap.size,0,none⟩) 32 32,.slice ma mn mc]),(g12,32,ec k1)]:=h
       go_wp2
       go_ret
       exact ⟨by rw [hV.out];rfl,h.bel⟩
end Go.Proofs.YtmjimilhomabfaaGreatDoor.F
