/-
 A signature made, over this seat. Conditions: the message has at most 10000 bytes; the packages' variables start as told.
-/
import Derived.Test.YtmjimilhomabfaaGreatDoorEsB
namespace Go.Proofs.YtmjimilhomabfaaGreatDoor.F
open Go.RowKit
set_option linter.unusedVariables false
set_option maxRecDepth 10000
open E (z z_val z_same z_add z_mul z_sub z_inv z_mod z_of dd Pt padd pneg pmul iv ax ay Sc)
theorem smul_let (A B:Nat) (lA:A < 115792089237316195423570985008687907853269984665640564039457584007913129639936) (lB:B < 115792089237316195423570985008687907853269984665640564039457584007913129639936):∃ n,Away (A * B % Lq = n) ∧ n < 115792089237316195423570985008687907853269984665640564039457584007913129639936 ∧ ∀ w,TS w → Calls Tryz.prog 26 #[.agg (ec A).toArray,.agg (ec B).toArray] w fun e w'=>e = .returned (.agg (ec n).toArray) ∧ Below w.heap.size w w' :=
 ⟨_,⟨rfl⟩,mod_Lq_T _,fun w hT=>smul_any A B lA lB w hT.o⟩
theorem sadd_let (A B:Nat) (lA:A < 115792089237316195423570985008687907853269984665640564039457584007913129639936) (lB:B < 115792089237316195423570985008687907853269984665640564039457584007913129639936):∃ n,Away ((A + B) % Lq = n) ∧ n < 115792089237316195423570985008687907853269984665640564039457584007913129639936 ∧ ∀ w,TS w → Calls Tryz.prog 25 #[.agg (ec A).toArray,.agg (ec B).toArray] w fun e w'=>e = .returned (.agg (ec n).toArray) ∧ Below w.heap.size w w' :=
 ⟨_,⟨rfl⟩,mod_Lq_T _,fun w hT=>sadd_any A B lA lB w hT.o⟩
theorem sbytes_let (A:Nat) (lA:A < 115792089237316195423570985008687907853269984665640564039457584007913129639936):∃ S,Away (dig 256 32 (A % Lq) = S) ∧ S.length = 32 ∧ Lo 256 S ∧ ∀ w,TS w → Calls Tryz.prog 15 #[.agg (ec A).toArray] w fun e w'=>e = .returned (.agg (C .u8 S).toArray) ∧ Below w.heap.size w w' :=
 ⟨_,⟨rfl⟩,dig_length _ _ _,dig_lo (by decide) 32 _,fun w hT=>sbytes_any A lA w hT.o⟩
set_option maxHeartbeats 4000000 in
theorem sign_any (sd:List Nat) (os:Lo 256 sd) (ls:sd.length = 32) (mv:Value) (m:List Nat) (om:Lo 256 m) (lm:m.length ≤ 10000) (w:World) (hv:SlV w mv (C .u8 m)) (hT:TS w):Calls Tryz.prog 10 #[.agg (C .u8 sd).toArray,mv] w fun e w'=>e = .returned (.agg (C .u8 (sgn sd m)).toArray) ∧ Below w.heap.size w w':=by
 obtain ⟨ma,mn,mc,rfl⟩:=slv_shape hv
 obtain ⟨w2,h2,h⟩:=Fr.two w 22 26 (C .u8 sd) (C .u8 (Z 64))
 obtain ⟨N,D,eN,eD,lN,lD,oD,cO⟩:=sec_let sd os ls
 obtain ⟨G,eG,lG,oG,cG⟩:=kb_let N lN
 obtain ⟨H1,eH1,lH1,oH1,cH1⟩:=hash2_let D m oD om (by rw [List.length_append];omega)
 obtain ⟨r,er,lr,cW1⟩:=wide_let H1 oH1 lH1
 obtain ⟨F,eF,lF,oF,cF⟩:=kb_let r lr
 obtain ⟨H2,eH2,lH2,oH2,cH2⟩:=hash3_let F G m oF oG om (by rw [List.length_append,List.length_append];omega)
 obtain ⟨k,ek,lk,cW2⟩:=wide_let H2 oH2 lH2
 obtain ⟨p,ep,lp,cp⟩:=smul_let k N lk lN
 obtain ⟨s,es,ls',cs⟩:=sadd_let r p lr lp
 obtain ⟨S,eS,lS,oS,cB⟩:=sbytes_let s ls'
 have hS:Away (sgn sd m = F ++ S):=⟨by
  have e1:sr sd m = F:=by unfold sr wid;rw [eD.out,eH1.out,er.out,eF.out]
  have e2:ky sd = G:=by unfold ky;rw [eN.out,eG.out]
  have e3:ss sd m = s:=by unfold ss;rw [e1,e2];unfold wid;rw [eD.out,eH1.out,er.out,eH2.out,ek.out,eN.out,ep.out,es.out]
  have e4:s % Lq = s:=by rw [← e3];exact Nat.mod_eq_of_lt (ss_lt sd m)
  unfold sgn
  rw [e1,e3,← eS.out,e4]⟩
 clear eN eD eG eH1 er eF eH2 ek ep es eS
 go_enter Tryz.func10,Tryz.ntmps10
 go_upto_region 1 with (refine wpList_alloc_row rfl 26 rfl _ zW ?_)
 try simp only [Act.put,stA,st0,st1,alloc_size,h2]
 clear h2
 go_wp2_with (first | refine wpList_load_row rfl 22 _ rfl _ rfl _ _ _ _ (h.row (i:=0) rfl) Tryz.underlying22 rfl (iB ls) ?_)
 refine callOK (cO _ (hT.below h.bel)) h ?_
 clear h
 rintro _ wn rfl h
 obtain ⟨g5,hgq0,hq0⟩:=h.more 2 32 (ec 0)
 replace hq0:Fr w _ [(w.heap.size,22,C .u8 sd),((w.heap.size + 1),26,C .u8 (Z 64)),(g5,32,ec 0)]:=hq0
 obtain ⟨g6,hgq1,hq1⟩:=hq0.more 3 22 (C .u8 (Z 32))
 replace hq1:Fr w _ [(w.heap.size,22,C .u8 sd),((w.heap.size + 1),26,C .u8 (Z 64)),(g5,32,ec 0),(g6,22,C .u8 (Z 32))]:=hq1
 go_upto_region 2 with (first | refine wpList_alloc_row rfl 32 rfl _ z4w ?_ | refine wpList_alloc_row rfl 22 rfl _ z32 ?_ | (refine wpList_store_R rfl 32 _ _ rfl _ (ec N) (congrArg (fun g=>Value.pointer (some ⟨g,0,none⟩)) hgq0) rfl (hq1.row (i:=2) rfl) (ie4 _) rfl (ec_all _) ?_;intro wz0 q0 hg0 hz0) | (refine wpList_store_R rfl 22 _ _ rfl _ (C .u8 D) (congrArg (fun g=>Value.pointer (some ⟨g,0,none⟩)) hgq1) rfl ((hq1.put (i:=2) rfl q0 hg0).row (i:=3) rfl) (iB (by first | assumption | rfl | (apply lLo;assumption) | (apply lHi;assumption) | (rw [List.length_append];omega))) (zB (n:=32) rfl (by first | assumption | rfl | (apply lLo;assumption) | (apply lHi;assumption) | (rw [List.length_append];omega)))  (C_allL _ _) ?_;intro wz1 q1 hg1 hz1))
 replace h:Fr w wz1 [(w.heap.size,22,C .u8 sd),((w.heap.size + 1),26,C .u8 (Z 64)),(g5,32,ec N),(g6,22,C .u8 D)]:=((hq1.put (i:=2) rfl q0 hg0).put (i:=3) rfl q1 hg1)
 try rw [hgq0]
 try rw [hgq1]
 clear q1 hg1 hz1 q0 hg0 hz0 hq1 hgq1 hq0 hgq0
 go_wp2_with (first | refine wpList_load_row rfl 32 _ rfl _ rfl _ _ _ _ (h.row (i:=2) rfl) Tryz.underlying32 rfl (ie4 _) ?_)
 refine callOK (cG _ (hT.below h.bel)) h ?_
 clear h
 rintro _ wn rfl h
 obtain ⟨g7,hgq0,hq0⟩:=h.more 4 22 (C .u8 (Z 32))
 replace hq0:Fr w _ [(w.heap.size,22,C .u8 sd),((w.heap.size + 1),26,C .u8 (Z 64)),(g5,32,ec N),(g6,22,C .u8 D),(g7,22,C .u8 (Z 32))]:=hq0
 go_upto_region 3 with (first | refine wpList_alloc_row rfl 22 rfl _ z32 ?_ | (refine wpList_store_R rfl 22 _ _ rfl _ (C .u8 G) (congrArg (fun g=>Value.pointer (some ⟨g,0,none⟩)) hgq0) rfl (hq0.row (i:=4) rfl) (iB (by first | assumption | rfl | (apply lLo;assumption) | (apply lHi;assumption) | (rw [List.length_append];omega))) (zB (n:=32) rfl (by first | assumption | rfl | (apply lLo;assumption) | (apply lHi;assumption) | (rw [List.length_append];omega)))  (C_allL _ _) ?_;intro wz0 q0 hg0 hz0))
 replace h:Fr w wz0 [(w.heap.size,22,C .u8 sd),((w.heap.size + 1),26,C .u8 (Z 64)),(g5,32,ec N),(g6,22,C .u8 D),(g7,22,C .u8 G)]:=(hq0.put (i:=4) rfl q0 hg0)
 try rw [hgq0]
 clear q0 hg0 hz0 hq0 hgq0
 obtain ⟨g22,hgq,hq⟩:=h.more 5 23 ([.slice (some ⟨g6,0,none⟩) 32 32,.slice ma mn mc])
 replace hq:Fr w _ [(w.heap.size,22,C .u8 sd),((w.heap.size + 1),26,C .u8 (Z 64)),(g5,32,ec N),(g6,22,C .u8 D),(g7,22,C .u8 G),(g22,23,[.slice (some ⟨g6,0,none⟩) 32 32,.slice ma mn mc])]:=hq
 go_wp2_with (first | refine wpList_parts rfl 51 23 2 _ rfl ([.slice (some ⟨g6,0,none⟩) 32 32,.slice ma mn mc]) (by first | rfl | kernel_rfl) Tryz.underlying51 sl1 slz rfl (by decide) (by decide) rfl ?_)
 replace h:=hq
 try rw [hgq]
 clear hq hgq
 refine callOK (cH1 g22 _ _ _ (h.row (i:=5) rfl) (slB (h.row (i:=3) rfl) lD (by decide)) (hv.below h.bel) (hT.below h.bel)) h ?_
 clear h
 rintro _ wn rfl h
 go_wp2_with (fail)
 refine callOK (cW1 _ (hT.below h.bel)) h ?_
 clear h
 rintro _ wn rfl h
 obtain ⟨g8,hgq0,hq0⟩:=h.more 6 32 (ec 0)
 replace hq0:Fr w _ [(w.heap.size,22,C .u8 sd),((w.heap.size + 1),26,C .u8 (Z 64)),(g5,32,ec N),(g6,22,C .u8 D),(g7,22,C .u8 G),(g22,23,[.slice (some ⟨g6,0,none⟩) 32 32,.slice ma mn mc]),(g8,32,ec 0)]:=hq0
 go_upto_region 4 with (first | refine wpList_alloc_row rfl 32 rfl _ z4w ?_ | (refine wpList_store_R rfl 32 _ _ rfl _ (ec r) (congrArg (fun g=>Value.pointer (some ⟨g,0,none⟩)) hgq0) rfl (hq0.row (i:=6) rfl) (ie4 _) rfl (ec_all _) ?_;intro wz0 q0 hg0 hz0))
 replace h:Fr w wz0 [(w.heap.size,22,C .u8 sd),((w.heap.size + 1),26,C .u8 (Z 64)),(g5,32,ec N),(g6,22,C .u8 D),(g7,22,C .u8 G),(g22,23,[.slice (some ⟨g6,0,none⟩) 32 32,.slice ma mn mc]),(g8,32,ec r)]:=(hq0.put (i:=6) rfl q0 hg0)
 try rw [hgq0]
 clear q0 hg0 hz0 hq0 hgq0
 go_wp2_with (first | refine wpList_load_row rfl 32 _ rfl _ rfl _ _ _ _ (h.row (i:=6) rfl) Tryz.underlying32 rfl (ie4 _) ?_)
 refine callOK (cF _ (hT.below h.bel)) h ?_
 clear h
 rintro _ wn rfl h
 obtain ⟨g9,hgq0,hq0⟩:=h.more 7 22 (C .u8 (Z 32))
 replace hq0:Fr w _ [(w.heap.size,22,C .u8 sd),((w.heap.size + 1),26,C .u8 (Z 64)),(g5,32,ec N),(g6,22,C .u8 D),(g7,22,C .u8 G),(g22,23,[.slice (some ⟨g6,0,none⟩) 32 32,.slice ma mn mc]),(g8,32,ec r),(g9,22,C .u8 (Z 32))]:=hq0
 go_upto_region 5 with (first | refine wpList_alloc_row rfl 22 rfl _ z32 ?_ | (refine wpList_store_R rfl 22 _ _ rfl _ (C .u8 F) (congrArg (fun g=>Value.pointer (some ⟨g,0,none⟩)) hgq0) rfl (hq0.row (i:=7) rfl) (iB (by first | assumption | rfl | (apply lLo;assumption) | (apply lHi;assumption) | (rw [List.length_append];omega))) (zB (n:=32) rfl (by first | assumption | rfl | (apply lLo;assumption) | (apply lHi;assumption) | (rw [List.length_append];omega)))  (C_allL _ _) ?_;intro wz0 q0 hg0 hz0))
 replace h:Fr w wz0 [(w.heap.size,22,C .u8 sd),((w.heap.size + 1),26,C .u8 (Z 64)),(g5,32,ec N),(g6,22,C .u8 D),(g7,22,C .u8 G),(g22,23,[.slice (some ⟨g6,0,none⟩) 32 32,.slice ma mn mc]),(g8,32,ec r),(g9,22,C .u8 F)]:=(hq0.put (i:=7) rfl q0 hg0)
 try rw [hgq0]
 clear q0 hg0 hz0 hq0 hgq0
 try simp only [Act.put,stA,st0,st1]
 replace h:=h.drew
 refine wp_region_inv (by kernel_rfl) (fun a0 l b w'=>∃ (l0 l1 l2 l3 l4 l5 l6 l7:Bool) (g30 g10:Nat) ,l = #[l0,l1,l2,l3,l4,l5,l6,l7] ∧ b = putsA a0 [(27,l0,.slice (some ⟨g9,0,none⟩) 32 32,undef),(28,l1,.slice (some ⟨g7,0,none⟩) 32 32,undef),(29,l2,.slice ma mn mc,undef),(30,l3,.slice (some ⟨g30,0,none⟩) 3 3,undef),(31,l4,.agg (C .u8 H2).toArray,undef),(32,l5,.agg (ec k).toArray,undef),(10,l6,.pointer (some ⟨g10,0,none⟩),undef)] ∧ Fr w w' (opt [(true,(w.heap.size,22,C .u8 sd)),(true,((w.heap.size + 1),26,C .u8 (Z 64))),(true,(g5,32,ec N)),(true,(g6,22,C .u8 D)),(true,(g7,22,C .u8 G)),(true,(g22,23,[.slice (some ⟨g6,0,none⟩) 32 32,.slice ma mn mc])),(true,(g8,32,ec r)),(true,(g9,22,C .u8 F)),(l3,(g30,23,[.slice (some ⟨g9,0,none⟩) 32 32,.slice (some ⟨g7,0,none⟩) 32 32,.slice ma mn mc])),(l6,(g10,32,bif l7 then ec k else ec 0))]) ∧ (l7 = true → l6 = true)) ?start ?step ?rest
 case start=>exact ⟨false,false,false,false,false,false,false,false,0,0,by kernel_rfl,by kernel_rfl,h,(fun e=>by cases e)⟩
 case step =>
  clear h
  intro l b w' hI i hi
  obtain ⟨l0,l1,l2,l3,l4,l5,l6,l7,g30,g10,rfl,rfl,h,hc7⟩:=hI
  have hlt:i < 8:=ready_lt hi
  obtain rfl | rfl | rfl | rfl | rfl | rfl | rfl | rfl:=(by omega:i = 0 ∨ i = 1 ∨ i = 2 ∨ i = 3 ∨ i = 4 ∨ i = 5 ∨ i = 6 ∨ i = 7)
  all_goals (obtain ⟨hn,hd⟩:=rin hi rfl;cases hn;(repeat (obtain ⟨hn,hd⟩:=hd;cases hn));clear hi hlt hd;refine wpOp_inv rfl rfl (fun K hK=>?_);simp only [putsA,Act.put,stA,st0,st1,cond_true,cond_false] at h ⊢)
  ·refine wp_value (.slice (some ⟨g9,0,none⟩) 32 32) (by go_simp) ?_
   refine hK.out _ _ ⟨_,_,_,_,_,_,_,_,_,_,rfl,by kernel_rfl,h,?_⟩ <;> first | assumption | exact fun _=>rfl | exact nofun
  ·refine wp_value (.slice (some ⟨g7,0,none⟩) 32 32) (by go_simp) ?_
   refine hK.out _ _ ⟨_,_,_,_,_,_,_,_,_,_,rfl,by kernel_rfl,h,?_⟩ <;> first | assumption | exact fun _=>rfl | exact nofun
  ·refine wp_value (.slice ma mn mc) (by go_simp) ?_
   refine hK.out _ _ ⟨_,_,_,_,_,_,_,_,_,_,rfl,by kernel_rfl,h,?_⟩ <;> first | assumption | exact fun _=>rfl | exact nofun
  ·refine wp_parts 51 23 3 _ rfl ([.slice (some ⟨g9,0,none⟩) 32 32,.slice (some ⟨g7,0,none⟩) 32 32,.slice ma mn mc]) (by first | rfl | kernel_rfl) Tryz.underlying51 sl1 slz rfl (by decide) (by decide) rfl ?_
   obtain ⟨gn,hgq,hq⟩:=h.on (k:=8) rfl 23 ([.slice (some ⟨g9,0,none⟩) 32 32,.slice (some ⟨g7,0,none⟩) 32 32,.slice ma mn mc])
   rw [hgq]
   refine hK.out _ _ ⟨_,_,_,_,_,_,_,_,_,_,rfl,by kernel_rfl,hq,?_⟩ <;> first | assumption | exact fun _=>rfl | exact nofun
  ·go_simp
   refine callOK (cH2 g30 _ _ _ _ (h.rowo (k:=8) rfl) (slB (h.rowo (k:=7) rfl) lF (by decide)) (slB (h.rowo (k:=4) rfl) lG (by decide)) (hv.below h.bel) (hT.below h.bel)) h ?_
   clear h
   rintro _ wn rfl h
   refine hK.out _ _ ⟨_,_,_,_,_,_,_,_,_,_,rfl,by kernel_rfl,h,?_⟩ <;> first | assumption | exact fun _=>rfl | exact nofun
  ·go_simp
   refine callOK (cW2 _ (hT.below h.bel)) h ?_
   clear h
   rintro _ wn rfl h
   refine hK.out _ _ ⟨_,_,_,_,_,_,_,_,_,_,rfl,by kernel_rfl,h,?_⟩ <;> first | assumption | exact fun _=>rfl | exact nofun
  ·obtain rfl:l7 = false:=by cases l7 with | false=>rfl | true=>exact absurd (hc7 rfl) (by decide)
   simp only [cond_false] at h ⊢
   refine wp_alloc_R 32 rfl (ec 0) z4w ?_
   obtain ⟨gn,hgq,hq⟩:=h.on (k:=9) rfl 32 (ec 0)
   rw [hgq]
   refine hK.out _ _ ⟨_,_,_,_,_,_,_,_,_,_,rfl,by kernel_rfl,hq,?_⟩ <;> first | assumption | exact fun _=>rfl | exact nofun
  ·refine wp_store_R 32 _ _ rfl _ (ec k) rfl rfl (h.rowo (k:=9) rfl) (ie4 _) rfl (ec_all _) ?_
   intro wz q hg hz
   replace h:=h.puto (k:=9) rfl q hg
   refine hK.out _ _ ⟨_,_,_,_,_,_,_,_,_,_,rfl,by kernel_rfl,h,?_⟩ <;> first | assumption | exact fun _=>rfl | exact nofun
 case rest =>
  clear h
  intro l b w' hI hr
  obtain ⟨l0,l1,l2,l3,l4,l5,l6,l7,g30,g10,rfl,rfl,h,hc7⟩:=hI
  cases rall hr rfl (by rfl)
  clear hr hc7
  simp only [putsA,Act.put,stA,st0,st1,cond_true]
  replace h:Fr w w' [(w.heap.size,22,C .u8 sd),((w.heap.size + 1),26,C .u8 (Z 64)),(g5,32,ec N),(g6,22,C .u8 D),(g7,22,C .u8 G),(g22,23,[.slice (some ⟨g6,0,none⟩) 32 32,.slice ma mn mc]),(g8,32,ec r),(g9,22,C .u8 F),(g30,23,[.slice (some ⟨g9,0,none⟩) 32 32,.slice (some ⟨g7,0,none⟩) 32 32,.slice ma mn mc]),(g10,32,ec k)]:=h
  go_upto_region 6 with fail
  try simp only [Act.put,stA,st0,st1]
  replace h:=h.drew
  refine wp_region_inv (by kernel_rfl) (fun a0 l b w'=>∃ (l0 l1 l2 l3 l4 l5 l6 l7:Bool) (g11:Nat) ,l = #[l0,l1,l2,l3,l4,l5,l6,l7] ∧ b = putsA a0 [(33,l0,.agg (ec r).toArray,undef),(34,l1,.agg (ec k).toArray,undef),(35,l2,.agg (ec N).toArray,undef),(36,l3,.agg (ec p).toArray,undef),(37,l4,.agg (ec s).toArray,undef),(38,l5,.agg (C .u8 S).toArray,undef),(11,l6,.pointer (some ⟨g11,0,none⟩),undef)] ∧ Fr w w' (opt [(true,(w.heap.size,22,C .u8 sd)),(true,((w.heap.size + 1),26,C .u8 (Z 64))),(true,(g5,32,ec N)),(true,(g6,22,C .u8 D)),(true,(g7,22,C .u8 G)),(true,(g22,23,[.slice (some ⟨g6,0,none⟩) 32 32,.slice ma mn mc])),(true,(g8,32,ec r)),(true,(g9,22,C .u8 F)),(true,(g30,23,[.slice (some ⟨g9,0,none⟩) 32 32,.slice (some ⟨g7,0,none⟩) 32 32,.slice ma mn mc])),(true,(g10,32,ec k)),(l6,(g11,22,bif l7 then C .u8 S else C .u8 (Z 32)))]) ∧ (l7 = true → l6 = true)) ?start ?step ?rest
  case start=>exact ⟨false,false,false,false,false,false,false,false,0,by kernel_rfl,by kernel_rfl,h,(fun e=>by cases e)⟩
  case step =>
   clear h
   intro l b w' hI i hi
   obtain ⟨l0,l1,l2,l3,l4,l5,l6,l7,g11,rfl,rfl,h,hc7⟩:=hI
   have hlt:i < 8:=ready_lt hi
   obtain rfl | rfl | rfl | rfl | rfl | rfl | rfl | rfl:=(by omega:i = 0 ∨ i = 1 ∨ i = 2 ∨ i = 3 ∨ i = 4 ∨ i = 5 ∨ i = 6 ∨ i = 7)
   all_goals (obtain ⟨hn,hd⟩:=rin hi rfl;cases hn;(repeat (obtain ⟨hn,hd⟩:=hd;cases hn));clear hi hlt hd;refine wpOp_inv rfl rfl (fun K hK=>?_);simp only [putsA,Act.put,stA,st0,st1,cond_true,cond_false] at h ⊢)
   ·refine wp_value (.agg (ec r).toArray) (exec_load_W 32 _ rfl rfl (h.rowo (k:=6) rfl) Tryz.underlying32 rfl (ie4 _)) ?_
    refine hK.out _ _ ⟨_,_,_,_,_,_,_,_,_,rfl,by kernel_rfl,h,?_⟩ <;> first | assumption | exact fun _=>rfl | exact nofun
   ·refine wp_value (.agg (ec k).toArray) (exec_load_W 32 _ rfl rfl (h.rowo (k:=9) rfl) Tryz.underlying32 rfl (ie4 _)) ?_
    refine hK.out _ _ ⟨_,_,_,_,_,_,_,_,_,rfl,by kernel_rfl,h,?_⟩ <;> first | assumption | exact fun _=>rfl | exact nofun
   ·refine wp_value (.agg (ec N).toArray) (exec_load_W 32 _ rfl rfl (h.rowo (k:=2) rfl) Tryz.underlying32 rfl (ie4 _)) ?_
    refine hK.out _ _ ⟨_,_,_,_,_,_,_,_,_,rfl,by kernel_rfl,h,?_⟩ <;> first | assumption | exact fun _=>rfl | exact nofun
   ·go_simp
    refine callOK (cp _ (hT.below h.bel)) h ?_
    clear h
    rintro _ wn rfl h
    refine hK.out _ _ ⟨_,_,_,_,_,_,_,_,_,rfl,by kernel_rfl,h,?_⟩ <;> first | assumption | exact fun _=>rfl | exact nofun
   ·go_simp
    refine callOK (cs _ (hT.below h.bel)) h ?_
    clear h
    rintro _ wn rfl h
    refine hK.out _ _ ⟨_,_,_,_,_,_,_,_,_,rfl,by kernel_rfl,h,?_⟩ <;> first | assumption | exact fun _=>rfl | exact nofun
   ·go_simp
    refine callOK (cB _ (hT.below h.bel)) h ?_
    clear h
    rintro _ wn rfl h
    refine hK.out _ _ ⟨_,_,_,_,_,_,_,_,_,rfl,by kernel_rfl,h,?_⟩ <;> first | assumption | exact fun _=>rfl | exact nofun
   ·obtain rfl:l7 = false:=by cases l7 with | false=>rfl | true=>exact absurd (hc7 rfl) (by decide)
    simp only [cond_false] at h ⊢
    refine wp_alloc_R 22 rfl (C .u8 (Z 32)) z32 ?_
    obtain ⟨gn,hgq,hq⟩:=h.on (k:=10) rfl 22 (C .u8 (Z 32))
    rw [hgq]
    refine hK.out _ _ ⟨_,_,_,_,_,_,_,_,_,rfl,by kernel_rfl,hq,?_⟩ <;> first | assumption | exact fun _=>rfl | exact nofun
   ·refine wp_store_R 22 _ _ rfl _ (C .u8 S) rfl rfl (h.rowo (k:=10) rfl) (iB (by first | assumption | rfl | (apply lLo;assumption) | (apply lHi;assumption) | (rw [List.length_append];omega))) (zB (n:=32) rfl (by first | assumption | rfl | (apply lLo;assumption) | (apply lHi;assumption) | (rw [List.length_append];omega))) (C_allL _ _) ?_
    intro wz q hg hz
    replace h:=h.puto (k:=10) rfl q hg
    refine hK.out _ _ ⟨_,_,_,_,_,_,_,_,_,rfl,by kernel_rfl,h,?_⟩ <;> first | assumption | exact fun _=>rfl | exact nofun
  case rest =>
   clear h
   intro l b w' hI hr
   obtain ⟨l0,l1,l2,l3,l4,l5,l6,l7,g11,rfl,rfl,h,hc7⟩:=hI
   cases rall hr rfl (by rfl)
   clear hr hc7
   simp only [putsA,Act.put,stA,st0,st1,cond_true]
   replace h:Fr w w' [(w.heap.size,22,C .u8 sd),((w.heap.size + 1),26,C .u8 (Z 64)),(g5,32,ec N),(g6,22,C .u8 D),(g7,22,C .u8 G),(g22,23,[.slice (some ⟨g6,0,none⟩) 32 32,.slice ma mn mc]),(g8,32,ec r),(g9,22,C .u8 F),(g30,23,[.slice (some ⟨g9,0,none⟩) 32 32,.slice (some ⟨g7,0,none⟩) 32 32,.slice ma mn mc]),(g10,32,ec k),(g11,22,C .u8 S)]:=h
   obtain ⟨g12,hgq0,hq0⟩:=h.more 11 26 (C .u8 (Z 64))
   replace hq0:Fr w _ [(w.heap.size,22,C .u8 sd),((w.heap.size + 1),26,C .u8 (Z 64)),(g5,32,ec N),(g6,22,C .u8 D),(g7,22,C .u8 G),(g22,23,[.slice (some ⟨g6,0,none⟩) 32 32,.slice ma mn mc]),(g8,32,ec r),(g9,22,C .u8 F),(g30,23,[.slice (some ⟨g9,0,none⟩) 32 32,.slice (some ⟨g7,0,none⟩) 32 32,.slice ma mn mc]),(g10,32,ec k),(g11,22,C .u8 S),(g12,26,C .u8 (Z 64))]:=hq0
   go_upto_region 8 with (first | refine wpList_alloc_row rfl 26 rfl _ zW ?_)
   replace h:Fr w _ [(w.heap.size,22,C .u8 sd),((w.heap.size + 1),26,C .u8 (Z 64)),(g5,32,ec N),(g6,22,C .u8 D),(g7,22,C .u8 G),(g22,23,[.slice (some ⟨g6,0,none⟩) 32 32,.slice ma mn mc]),(g8,32,ec r),(g9,22,C .u8 F),(g30,23,[.slice (some ⟨g9,0,none⟩) 32 32,.slice (some ⟨g7,0,none⟩) 32 32,.slice ma mn mc]),(g10,32,ec k),(g11,22,C .u8 S),(g12,26,C .u8 (Z 64))]:=hq0
   try rw [hgq0]
   clear hq0 hgq0
   try simp only [Act.put,stA,st0,st1]
   replace h:=h.drew
   refine wp_region_inv (by kernel_rfl) (fun a0 l b w'=>∃ (l0 l1 l2:Bool) ,l = #[l0,l1,l2] ∧ b = putsA a0 [(39,l0,.slice (some ⟨g12,0,none⟩) 32 64,undef),(40,l1,.slice (some ⟨g9,0,none⟩) 32 32,undef),(41,l2,goInt 32,undef)] ∧ Fr w w' (opt [(true,(w.heap.size,22,C .u8 sd)),(true,((w.heap.size + 1),26,C .u8 (Z 64))),(true,(g5,32,ec N)),(true,(g6,22,C .u8 D)),(true,(g7,22,C .u8 G)),(true,(g22,23,[.slice (some ⟨g6,0,none⟩) 32 32,.slice ma mn mc])),(true,(g8,32,ec r)),(true,(g9,22,C .u8 F)),(true,(g30,23,[.slice (some ⟨g9,0,none⟩) 32 32,.slice (some ⟨g7,0,none⟩) 32 32,.slice ma mn mc])),(true,(g10,32,ec k)),(true,(g11,22,C .u8 S)),(true,(g12,26,bif l2 then C .u8 (F ++ Z 32) else C .u8 (Z 64)))])) ?start ?step ?rest
   case start=>exact ⟨false,false,false,by kernel_rfl,by kernel_rfl,h⟩
   case step =>
    clear h
    intro l b w' hI i hi
    obtain ⟨l0,l1,l2,rfl,rfl,h⟩:=hI
    have hlt:i < 3:=ready_lt hi
    obtain rfl | rfl | rfl:=(by omega:i = 0 ∨ i = 1 ∨ i = 2)
    all_goals (obtain ⟨hn,hd⟩:=rin hi rfl;cases hn;(repeat (obtain ⟨hn,hd⟩:=hd;cases hn));clear hi hlt hd;refine wpOp_inv rfl rfl (fun K hK=>?_);simp only [putsA,Act.put,stA,st0,st1,cond_true,cond_false] at h ⊢)
    ·refine wp_value (.slice (some ⟨g12,0,none⟩) 32 64) (by go_simp) ?_
     exact hK.out _ _ ⟨_,_,_,rfl,by kernel_rfl,h⟩
    ·refine wp_value (.slice (some ⟨g9,0,none⟩) 32 32) (by go_simp) ?_
     exact hK.out _ _ ⟨_,_,_,rfl,by kernel_rfl,h⟩
    ·refine wp_copy32 _ _ 23 rfl 5 Tryz.underlying23 sl8 g12 0 64 g9 32 (Z 64) F (F ++ Z 32) rfl rfl (h.rowo (k:=11) rfl) (h.rowo (k:=7) rfl) (by simp [Z_length, *]) lF (by decide) (rfl) ?_
     intro wz q hg hz
     replace h:=h.puto (k:=11) rfl q hg
     exact hK.out _ _ ⟨_,_,_,rfl,by kernel_rfl,h⟩
   case rest =>
    clear h
    intro l b w' hI hr
    obtain ⟨l0,l1,l2,rfl,rfl,h⟩:=hI
    cases rall hr rfl (by rfl)
    clear hr
    simp only [putsA,Act.put,stA,st0,st1,cond_true]
    replace h:Fr w w' [(w.heap.size,22,C .u8 sd),((w.heap.size + 1),26,C .u8 (Z 64)),(g5,32,ec N),(g6,22,C .u8 D),(g7,22,C .u8 G),(g22,23,[.slice (some ⟨g6,0,none⟩) 32 32,.slice ma mn mc]),(g8,32,ec r),(g9,22,C .u8 F),(g30,23,[.slice (some ⟨g9,0,none⟩) 32 32,.slice (some ⟨g7,0,none⟩) 32 32,.slice ma mn mc]),(g10,32,ec k),(g11,22,C .u8 S),(g12,26,C .u8 (F ++ Z 32))]:=h
    go_upto_region 9 with fail
    try simp only [Act.put,stA,st0,st1]
    replace h:=h.drew
    refine wp_region_inv (by kernel_rfl) (fun a0 l b w'=>∃ (l0 l1 l2:Bool) ,l = #[l0,l1,l2] ∧ b = putsA a0 [(42,l0,.slice (some ⟨g12,32,none⟩) 32 32,undef),(43,l1,.slice (some ⟨g11,0,none⟩) 32 32,undef),(44,l2,goInt 32,undef)] ∧ Fr w w' (opt [(true,(w.heap.size,22,C .u8 sd)),(true,((w.heap.size + 1),26,C .u8 (Z 64))),(true,(g5,32,ec N)),(true,(g6,22,C .u8 D)),(true,(g7,22,C .u8 G)),(true,(g22,23,[.slice (some ⟨g6,0,none⟩) 32 32,.slice ma mn mc])),(true,(g8,32,ec r)),(true,(g9,22,C .u8 F)),(true,(g30,23,[.slice (some ⟨g9,0,none⟩) 32 32,.slice (some ⟨g7,0,none⟩) 32 32,.slice ma mn mc])),(true,(g10,32,ec k)),(true,(g11,22,C .u8 S)),(true,(g12,26,bif l2 then C .u8 (F ++ S) else C .u8 (F ++ Z 32)))])) ?start ?step ?rest
    case start=>exact ⟨false,false,false,by kernel_rfl,by kernel_rfl,h⟩
    case step =>
     clear h
     intro l b w' hI i hi
     obtain ⟨l0,l1,l2,rfl,rfl,h⟩:=hI
     have hlt:i < 3:=ready_lt hi
     obtain rfl | rfl | rfl:=(by omega:i = 0 ∨ i = 1 ∨ i = 2)
     all_goals (obtain ⟨hn,hd⟩:=rin hi rfl;cases hn;(repeat (obtain ⟨hn,hd⟩:=hd;cases hn));clear hi hlt hd;refine wpOp_inv rfl rfl (fun K hK=>?_);simp only [putsA,Act.put,stA,st0,st1,cond_true,cond_false] at h ⊢)
     ·refine wp_value (.slice (some ⟨g12,32,none⟩) 32 32) (by go_simp) ?_
      exact hK.out _ _ ⟨_,_,_,rfl,by kernel_rfl,h⟩
     ·refine wp_value (.slice (some ⟨g11,0,none⟩) 32 32) (by go_simp) ?_
      exact hK.out _ _ ⟨_,_,_,rfl,by kernel_rfl,h⟩
     ·refine wp_copy32 _ _ 23 rfl 5 Tryz.underlying23 sl8 g12 32 32 g11 32 (F ++ Z 32) S (F ++ S) rfl rfl (h.rowo (k:=11) rfl) (h.rowo (k:=10) rfl) (by simp [Z_length, *]) lS (by decide) (cp_hi lF) ?_
      intro wz q hg hz
      replace h:=h.puto (k:=11) rfl q hg
      exact hK.out _ _ ⟨_,_,_,rfl,by kernel_rfl,h⟩
    case rest =>
     clear h
     intro l b w' hI hr
     obtain ⟨l0,l1,l2,rfl,rfl,h⟩:=hI
     cases rall hr rfl (by rfl)
     clear hr
     simp only [putsA,Act.put,stA,st0,st1,cond_true]
     replace h:Fr w w' [(w.heap.size,22,C .u8 sd),((w.heap.size + 1),26,C .u8 (Z 64)),(g5,32,ec N),(g6,22,C .u8 D),(g7,22,C .u8 G),(g22,23,[.slice (some ⟨g6,0,none⟩) 32 32,.slice ma mn mc]),(g8,32,ec r),(g9,22,C .u8 F),(g30,23,[.slice (some ⟨g9,0,none⟩) 32 32,.slice (some ⟨g7,0,none⟩) 32 32,.slice ma mn mc]),(g10,32,ec k),(g11,22,C .u8 S),(g12,26,C .u8 (F ++ S))]:=h
     go_wp2_with (first | refine wpList_load_row rfl 26 _ rfl _ rfl _ _ _ _ (h.row (i:=11) rfl) Tryz.underlying26 rfl (iW (by rw [List.length_append,lF,lS])) ?_ | (refine wpList_store_R rfl 26 _ _ rfl _ (C .u8 (F ++ S)) rfl rfl (h.row (i:=1) rfl) (iW (by first | assumption | rfl | (apply lLo;assumption) | (apply lHi;assumption) | (rw [List.length_append];omega))) (zB (n:=64) rfl (by first | assumption | rfl | (apply lLo;assumption) | (apply lHi;assumption) | (rw [List.length_append];omega)))  (C_allL _ _) ?_;intro wz0 q0 hg0 hz0))
     replace h:Fr w wz0 [(w.heap.size,22,C .u8 sd),((w.heap.size + 1),26,C .u8 (F ++ S)),(g5,32,ec N),(g6,22,C .u8 D),(g7,22,C .u8 G),(g22,23,[.slice (some ⟨g6,0,none⟩) 32 32,.slice ma mn mc]),(g8,32,ec r),(g9,22,C .u8 F),(g30,23,[.slice (some ⟨g9,0,none⟩) 32 32,.slice (some ⟨g7,0,none⟩) 32 32,.slice ma mn mc]),(g10,32,ec k),(g11,22,C .u8 S),(g12,26,C .u8 (F ++ S))]:=(h.put (i:=1) rfl q0 hg0)
     clear q0 hg0 hz0
     exact result_row Tryz.results10 rfl (h.row (i:=1) rfl) Tryz.underlying26 rfl (iW (by rw [List.length_append,lF,lS])) rfl ⟨by rw [hS.out],h.bel⟩
end Go.Proofs.YtmjimilhomabfaaGreatDoor.F
