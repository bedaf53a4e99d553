/-
 A seed opened, so many times the base, a seed's key, over this seat. Conditions: the packages' variables start as told.
-/
import Derived.Test.YtmjimilhomabfaaGreatDoorEsL
namespace Go.Proofs.YtmjimilhomabfaaGreatDoor.F
open Go.RowKit
set_option linter.unusedVariables false
set_option maxRecDepth 10000
open E (z z_val z_same z_add z_mul z_sub z_inv z_mod z_of dd Pt padd pneg pmul iv ax ay Sc)
set_option maxHeartbeats 1600000 in
theorem opened_any (sd:List Nat) (os:Lo 256 sd) (ls:sd.length = 32) (w:World) (hT:TS w):Calls Tryz.prog 17 #[.agg (C .u8 sd).toArray] w fun e w'=>e = .returned (.tuple #[.agg (ec (sec sd)).toArray,.agg (C .u8 (pre sd)).toArray]) ∧ Below w.heap.size w w':=by
 obtain ⟨w2,h2,h⟩:=Fr.three w 22 32 22 (C .u8 sd) (ec 0) (C .u8 (Z 32))
 obtain ⟨H,eH,lH,oH,cH⟩:=hash1_let sd os (by omega)
 have cN:=fun w=>sclamp_any (H.take 32) (oH.take 32) (lLo lH) w
 have lN:val 256 (cl (H.take 32)) < 115792089237316195423570985008687907853269984665640564039457584007913129639936:=by rw [← eH.out];exact sec_lt sd
 obtain ⟨N,hN⟩:∃ N,val 256 (cl (H.take 32)) = N:=⟨_,rfl⟩
 rw [hN] at cN lN
 have eN:Away (sec sd = N):=⟨by rw [← hN,← eH.out];rfl⟩
 have eP:Away (pre sd = H.drop 32):=⟨by rw [← eH.out];rfl⟩
 clear hN
 go_enter Tryz.func17,Tryz.ntmps17
 go_upto_region 1 with (first | refine wpList_alloc_row rfl 32 rfl _ z4w ?_ | refine wpList_alloc_row rfl 22 rfl _ z32 ?_)
 try simp only [Act.put,stA,st0,st1,alloc_size,h2]
 clear h2
 obtain ⟨g6,hgq,hq⟩:=h.more 3 23 ([.slice (some ⟨w.heap.size,0,none⟩) 32 32])
 replace hq:Fr w _ [(w.heap.size,22,C .u8 sd),((w.heap.size + 1),32,ec 0),((w.heap.size + 1 + 1),22,C .u8 (Z 32)),(g6,23,[.slice (some ⟨w.heap.size,0,none⟩) 32 32])]:=hq
 go_wp2_with (first | refine wpList_parts rfl 51 23 1 _ rfl ([.slice (some ⟨w.heap.size,0,none⟩) 32 32]) (by first | rfl | kernel_rfl) Tryz.underlying51 sl1 slz rfl (by decide) (by decide) rfl ?_)
 replace h:=hq
 try rw [hgq]
 clear hq hgq
 refine callOK (cH g6 _ _ (h.row (i:=3) rfl) (slB (h.row (i:=0) rfl) ls (by decide)) (hT.below h.bel)) h ?_
 clear h
 rintro _ wn rfl h
 obtain ⟨g4,hgq0,hq0⟩:=h.more 4 26 (C .u8 (Z 64))
 replace hq0:Fr w _ [(w.heap.size,22,C .u8 sd),((w.heap.size + 1),32,ec 0),((w.heap.size + 1 + 1),22,C .u8 (Z 32)),(g6,23,[.slice (some ⟨w.heap.size,0,none⟩) 32 32]),(g4,26,C .u8 (Z 64))]:=hq0
 go_upto_region 2 with (first | refine wpList_alloc_row rfl 26 rfl _ zW ?_ | (refine wpList_store_R rfl 26 _ _ rfl _ (C .u8 H) (congrArg (fun g=>Value.pointer (some ⟨g,0,none⟩)) hgq0) rfl (hq0.row (i:=4) rfl) (iW (by first | assumption | rfl | (apply lLo;assumption) | (apply lHi;assumption) | (rw [List.length_append];omega))) (zB (n:=64) rfl (by first | assumption | rfl | (apply lLo;assumption) | (apply lHi;assumption) | (rw [List.length_append];omega)))  (C_allL _ _) ?_;intro wz0 q0 hg0 hz0))
 replace h:Fr w wz0 [(w.heap.size,22,C .u8 sd),((w.heap.size + 1),32,ec 0),((w.heap.size + 1 + 1),22,C .u8 (Z 32)),(g6,23,[.slice (some ⟨w.heap.size,0,none⟩) 32 32]),(g4,26,C .u8 H)]:=(hq0.put (i:=4) rfl q0 hg0)
 try rw [hgq0]
 clear q0 hg0 hz0 hq0 hgq0
 try simp only [Act.put,stA,st0,st1]
 replace h:=h.drew
 refine wp_region_inv (by kernel_rfl) (fun a0 l b w'=>∃ (l0 l1 l2 l3 l4 l5 l6 l7 l8:Bool) ,l = #[l0,l1,l2,l3,l4,l5,l6,l7,l8] ∧ b = putsA a0 [(8,l0,.slice (some ⟨g4,0,none⟩) 32 64,undef),(9,l1,.pointer (some ⟨g4,0,none⟩),undef),(10,l2,.agg (C .u8 (H.take 32)).toArray,undef),(11,l3,.agg (ec N).toArray,undef),(12,l4,.slice (some ⟨g4,32,none⟩) 32 32,undef),(13,l5,.pointer (some ⟨g4,32,none⟩),undef),(14,l6,.agg (C .u8 (H.drop 32)).toArray,undef)] ∧ Fr w w' (opt [(true,(w.heap.size,22,C .u8 sd)),(true,((w.heap.size + 1),32,bif l7 then ec N else ec 0)),(true,((w.heap.size + 1 + 1),22,bif l8 then C .u8 (H.drop 32) else C .u8 (Z 32))),(true,(g6,23,[.slice (some ⟨w.heap.size,0,none⟩) 32 32])),(true,(g4,26,C .u8 H))])) ?start ?step ?rest
 case start=>exact ⟨false,false,false,false,false,false,false,false,false,by kernel_rfl,by kernel_rfl,h⟩
 case step =>
  clear h
  intro l b w' hI i hi
  obtain ⟨l0,l1,l2,l3,l4,l5,l6,l7,l8,rfl,rfl,h⟩:=hI
  have hlt:i < 9:=ready_lt hi
  obtain rfl | rfl | rfl | rfl | rfl | rfl | rfl | rfl | rfl:=(by omega:i = 0 ∨ i = 1 ∨ i = 2 ∨ i = 3 ∨ i = 4 ∨ i = 5 ∨ i = 6 ∨ i = 7 ∨ i = 8)
  all_goals (obtain ⟨hn,hd⟩:=rin hi rfl;cases hn;(repeat (obtain ⟨hn,hd⟩:=hd;cases hn));clear hi hlt hd;refine wpOp_inv rfl rfl (fun K hK=>?_);simp only [putsA,Act.put,stA,st0,st1,cond_true,cond_false] at h ⊢)
  ·refine wp_value (.slice (some ⟨g4,0,none⟩) 32 64) (by go_simp) ?_
   exact hK.out _ _ ⟨_,_,_,_,_,_,_,_,_,rfl,by kernel_rfl,h⟩
  ·refine wp_value (.pointer (some ⟨g4,0,none⟩)) (exec_arrayAt 22 _ rfl rfl Tryz.underlying22 (by decide)) ?_
   exact hK.out _ _ ⟨_,_,_,_,_,_,_,_,_,rfl,by kernel_rfl,h⟩
  ·refine wp_value (.agg (C .u8 (H.take 32)).toArray) (exec_load_sl 22 _ rfl rfl (slLo (h.rowo (k:=4) rfl) lH) (cLo lH) (by decide) Tryz.underlying22 i32) ?_
   exact hK.out _ _ ⟨_,_,_,_,_,_,_,_,_,rfl,by kernel_rfl,h⟩
  ·go_simp
   refine callOK (cN _) h ?_
   clear h
   rintro _ wn rfl h
   exact hK.out _ _ ⟨_,_,_,_,_,_,_,_,_,rfl,by kernel_rfl,h⟩
  ·refine wp_value (.slice (some ⟨g4,32,none⟩) 32 32) (by go_simp) ?_
   exact hK.out _ _ ⟨_,_,_,_,_,_,_,_,_,rfl,by kernel_rfl,h⟩
  ·refine wp_value (.pointer (some ⟨g4,32,none⟩)) (exec_arrayAt 22 _ rfl rfl Tryz.underlying22 (by decide)) ?_
   exact hK.out _ _ ⟨_,_,_,_,_,_,_,_,_,rfl,by kernel_rfl,h⟩
  ·refine wp_value (.agg (C .u8 (H.drop 32)).toArray) (exec_load_sl 22 _ rfl rfl (slHi (h.rowo (k:=4) rfl) lH) (cHi lH) (by decide) Tryz.underlying22 i32) ?_
   exact hK.out _ _ ⟨_,_,_,_,_,_,_,_,_,rfl,by kernel_rfl,h⟩
  ·refine wp_store_R 32 _ _ rfl _ (ec N) rfl rfl (h.rowo (k:=1) rfl) (ie4 _) rfl (ec_all _) ?_
   intro wz q hg hz
   replace h:=h.puto (k:=1) rfl q hg
   exact hK.out _ _ ⟨_,_,_,_,_,_,_,_,_,rfl,by kernel_rfl,h⟩
  ·refine wp_store_R 22 _ _ rfl _ (C .u8 (H.drop 32)) rfl rfl (h.rowo (k:=2) rfl) (iB (by first | assumption | rfl | (apply lLo;assumption) | (apply lHi;assumption) | (rw [List.length_append];omega))) (zB (n:=32) rfl (by first | assumption | rfl | (apply lLo;assumption) | (apply lHi;assumption) | (rw [List.length_append];omega))) (C_allL _ _) ?_
   intro wz q hg hz
   replace h:=h.puto (k:=2) rfl q hg
   exact hK.out _ _ ⟨_,_,_,_,_,_,_,_,_,rfl,by kernel_rfl,h⟩
 case rest =>
  clear h
  intro l b w' hI hr
  obtain ⟨l0,l1,l2,l3,l4,l5,l6,l7,l8,rfl,rfl,h⟩:=hI
  cases rall hr rfl (by rfl)
  clear hr
  simp only [putsA,Act.put,stA,st0,st1,cond_true]
  replace h:Fr w w' [(w.heap.size,22,C .u8 sd),((w.heap.size + 1),32,ec N),((w.heap.size + 1 + 1),22,C .u8 (H.drop 32)),(g6,23,[.slice (some ⟨w.heap.size,0,none⟩) 32 32]),(g4,26,C .u8 H)]:=h
  go_wp2
  exact result_cells2 Tryz.results17 rfl rfl (h.row (i:=1) rfl) (h.row (i:=2) rfl) Tryz.underlying32 rfl (ie4 _) Tryz.underlying22 rfl (iB (lHi lH)) rfl ⟨by rw [eN.out,eP.out],h.bel⟩
theorem Bx_lt:Bx < 115792089237316195423570985008687907853269984665640564039457584007913129639936:=by decide +kernel
theorem mulB_let (N:Nat) (lN:N < 115792089237316195423570985008687907853269984665640564039457584007913129639936):∃ X Y,X < 115792089237316195423570985008687907853269984665640564039457584007913129639936 ∧ Y < 115792089237316195423570985008687907853269984665640564039457584007913129639936 ∧ Away (ownP X Y = pmul N Bpt) ∧ ∀ w,TS w → Calls Tryz.prog 43 #[.agg (ec N).toArray,.agg (pc Bx By).toArray] w fun e w'=>e = .returned (.agg (pc X Y).toArray) ∧ Below w.heap.size w w' :=
 ⟨_,_,ptx_lt _,pty_lt _,⟨ownP_val _⟩,fun w hT=>mul_any N Bx By lN Bx_lt By_lt w hT.r.i⟩
theorem pack_let (X Y:Nat) (lX:X < 115792089237316195423570985008687907853269984665640564039457584007913129639936) (lY:Y < 115792089237316195423570985008687907853269984665640564039457584007913129639936):∃ K,Away (pk (ownP X Y) = K) ∧ K.length = 32 ∧ Lo 256 K ∧ ∀ w,TS w → Calls Tryz.prog 33 #[.agg (pc X Y).toArray] w fun e w'=>e = .returned (.agg (C .u8 K).toArray) ∧ Below w.heap.size w w' :=
 ⟨_,⟨rfl⟩,pk_length _,pk_lo _,fun w hT=>pack_any X Y lX lY w hT.r.i.e⟩
set_option maxHeartbeats 1600000 in
theorem onBase_any (N:Nat) (lN:N < 115792089237316195423570985008687907853269984665640564039457584007913129639936) (w:World) (hT:TS w):Calls Tryz.prog 18 #[.agg (ec N).toArray] w fun e w'=>e = .returned (.agg (C .u8 (kb N)).toArray) ∧ Below w.heap.size w w':=by
 obtain ⟨w2,h2,h⟩:=Fr.two w 32 22 (ec N) (C .u8 (Z 32))
 obtain ⟨X,Y,lX,lY,eM,cM⟩:=mulB_let N lN
 obtain ⟨G,eG,lG,oG,cG⟩:=pack_let X Y lX lY
 have hK:Away (kb N = G):=⟨by unfold kb;rw [← eM.out,eG.out]⟩
 clear eM eG
 go_enter Tryz.func18,Tryz.ntmps18
 go_upto_region 1 with (refine wpList_alloc_row rfl 22 rfl _ z32 ?_)
 try simp only [Act.put,stA,st0,st1,alloc_size,h2]
 clear h2
 replace h:=h.drew
 refine wp_region_inv (by kernel_rfl) (fun a0 l b w'=>∃ (l0 l1 l2 l3 l4:Bool) ,l = #[l0,l1,l2,l3,l4] ∧ b = putsA a0 [(3,l0,.agg (ec N).toArray,undef),(4,l1,.agg (pc Bx By).toArray,undef),(5,l2,.agg (pc X Y).toArray,undef),(6,l3,.agg (C .u8 G).toArray,undef)] ∧ Fr w w' (opt [(true,(w.heap.size,32,ec N)),(true,((w.heap.size + 1),22,bif l4 then C .u8 G else C .u8 (Z 32)))])) ?start ?step ?rest
 case start=>exact ⟨false,false,false,false,false,by kernel_rfl,by kernel_rfl,h⟩
 case step =>
  clear h
  intro l b w' hI i hi
  obtain ⟨l0,l1,l2,l3,l4,rfl,rfl,h⟩:=hI
  have hlt:i < 5:=ready_lt hi
  obtain rfl | rfl | rfl | rfl | rfl:=(by omega:i = 0 ∨ i = 1 ∨ i = 2 ∨ i = 3 ∨ i = 4)
  all_goals (obtain ⟨hn,hd⟩:=rin hi rfl;cases hn;(repeat (obtain ⟨hn,hd⟩:=hd;cases hn));clear hi hlt hd;refine wpOp_inv rfl rfl (fun K hK=>?_);simp only [putsA,Act.put,stA,st0,st1,cond_true,cond_false] at h ⊢)
  ·refine wp_value (.agg (ec N).toArray) (exec_load_W 32 _ rfl rfl (h.rowo (k:=0) rfl) Tryz.underlying32 rfl (ie4 _)) ?_
   exact hK.out _ _ ⟨_,_,_,_,_,rfl,by kernel_rfl,h⟩
  ·go_simp
   refine callOK (base_el _ (hT.below h.bel).b) h ?_
   clear h
   rintro _ wn rfl h
   exact hK.out _ _ ⟨_,_,_,_,_,rfl,by kernel_rfl,h⟩
  ·go_simp
   refine callOK (cM _ (hT.below h.bel)) h ?_
   clear h
   rintro _ wn rfl h
   exact hK.out _ _ ⟨_,_,_,_,_,rfl,by kernel_rfl,h⟩
  ·go_simp
   refine callOK (cG _ (hT.below h.bel)) h ?_
   clear h
   rintro _ wn rfl h
   exact hK.out _ _ ⟨_,_,_,_,_,rfl,by kernel_rfl,h⟩
  ·refine wp_store_R 22 _ _ rfl _ (C .u8 G) rfl rfl (h.rowo (k:=1) rfl) (iB (by first | assumption | rfl | (apply lLo;assumption) | (apply lHi;assumption) | (rw [List.length_append];omega))) (zB (n:=32) rfl (by first | assumption | rfl | (apply lLo;assumption) | (apply lHi;assumption) | (rw [List.length_append];omega))) (C_allL _ _) ?_
   intro wz q hg hz
   replace h:=h.puto (k:=1) rfl q hg
   exact hK.out _ _ ⟨_,_,_,_,_,rfl,by kernel_rfl,h⟩
 case rest =>
  clear h
  intro l b w' hI hr
  obtain ⟨l0,l1,l2,l3,l4,rfl,rfl,h⟩:=hI
  cases rall hr rfl (by rfl)
  clear hr
  simp only [putsA,Act.put,stA,st0,st1,cond_true]
  replace h:Fr w w' [(w.heap.size,32,ec N),((w.heap.size + 1),22,C .u8 G)]:=h
  go_wp2
  exact result_row Tryz.results18 rfl (h.row (i:=1) rfl) Tryz.underlying22 rfl (iB lG) rfl ⟨by rw [hK.out],h.bel⟩
theorem sec_let (sd:List Nat) (os:Lo 256 sd) (ls:sd.length = 32):∃ N D,Away (sec sd = N) ∧ Away (pre sd = D) ∧ N < 115792089237316195423570985008687907853269984665640564039457584007913129639936 ∧ D.length = 32 ∧ Lo 256 D ∧ ∀ w,TS w → Calls Tryz.prog 17 #[.agg (C .u8 sd).toArray] w fun e w'=>e = .returned (.tuple #[.agg (ec N).toArray,.agg (C .u8 D).toArray]) ∧ Below w.heap.size w w' :=
 ⟨_,_,⟨rfl⟩,⟨rfl⟩,sec_lt sd,lHi (h5_length sd),(h5_lo sd).drop 32,fun w hT=>opened_any sd os ls w hT⟩
theorem kb_let (N:Nat) (lN:N < 115792089237316195423570985008687907853269984665640564039457584007913129639936):∃ G,Away (kb N = G) ∧ G.length = 32 ∧ Lo 256 G ∧ ∀ w,TS w → Calls Tryz.prog 18 #[.agg (ec N).toArray] w fun e w'=>e = .returned (.agg (C .u8 G).toArray) ∧ Below w.heap.size w w' :=
 ⟨_,⟨rfl⟩,kb_length N,kb_lo N,fun w hT=>onBase_any N lN w hT⟩
set_option maxHeartbeats 1600000 in
theorem key_any (sd:List Nat) (os:Lo 256 sd) (ls:sd.length = 32) (w:World) (hT:TS w):Calls Tryz.prog 8 #[.agg (C .u8 sd).toArray] w fun e w'=>e = .returned (.agg (C .u8 (ky sd)).toArray) ∧ Below w.heap.size w w':=by
 obtain ⟨w2,h2,h⟩:=Fr.two w 22 22 (C .u8 sd) (C .u8 (Z 32))
 obtain ⟨N,D,eN,eD,lN,lD,oD,cO⟩:=sec_let sd os ls
 obtain ⟨G,eG,lG,oG,cB⟩:=kb_let N lN
 have hK:Away (ky sd = G):=⟨by unfold ky;rw [eN.out,eG.out]⟩
 clear eN eG
 go_enter Tryz.func8,Tryz.ntmps8
 go_upto_region 1 with (refine wpList_alloc_row rfl 22 rfl _ z32 ?_)
 try simp only [Act.put,stA,st0,st1,alloc_size,h2]
 clear h2
 go_wp2_with (first | refine wpList_load_row rfl 22 _ rfl _ rfl _ _ _ _ (h.row (i:=0) rfl) Tryz.underlying22 rfl (iB ls) ?_)
 refine callOK (cO _ (hT.below h.bel)) h ?_
 clear h
 rintro _ wn rfl h
 obtain ⟨g3,hgq0,hq0⟩:=h.more 2 32 (ec 0)
 replace hq0:Fr w _ [(w.heap.size,22,C .u8 sd),((w.heap.size + 1),22,C .u8 (Z 32)),(g3,32,ec 0)]:=hq0
 obtain ⟨g4,hgq1,hq1⟩:=hq0.more 3 22 (C .u8 (Z 32))
 replace hq1:Fr w _ [(w.heap.size,22,C .u8 sd),((w.heap.size + 1),22,C .u8 (Z 32)),(g3,32,ec 0),(g4,22,C .u8 (Z 32))]:=hq1
 go_upto_region 2 with (first | refine wpList_alloc_row rfl 32 rfl _ z4w ?_ | refine wpList_alloc_row rfl 22 rfl _ z32 ?_ | (refine wpList_store_R rfl 32 _ _ rfl _ (ec N) (congrArg (fun g=>Value.pointer (some ⟨g,0,none⟩)) hgq0) rfl (hq1.row (i:=2) rfl) (ie4 _) rfl (ec_all _) ?_;intro wz0 q0 hg0 hz0) | (refine wpList_store_R rfl 22 _ _ rfl _ (C .u8 D) (congrArg (fun g=>Value.pointer (some ⟨g,0,none⟩)) hgq1) rfl ((hq1.put (i:=2) rfl q0 hg0).row (i:=3) rfl) (iB (by first | assumption | rfl | (apply lLo;assumption) | (apply lHi;assumption) | (rw [List.length_append];omega))) (zB (n:=32) rfl (by first | assumption | rfl | (apply lLo;assumption) | (apply lHi;assumption) | (rw [List.length_append];omega)))  (C_allL _ _) ?_;intro wz1 q1 hg1 hz1))
 replace h:Fr w wz1 [(w.heap.size,22,C .u8 sd),((w.heap.size + 1),22,C .u8 (Z 32)),(g3,32,ec N),(g4,22,C .u8 D)]:=((hq1.put (i:=2) rfl q0 hg0).put (i:=3) rfl q1 hg1)
 try rw [hgq0]
 try rw [hgq1]
 clear q1 hg1 hz1 q0 hg0 hz0 hq1 hgq1 hq0 hgq0
 go_wp2_with (first | refine wpList_load_row rfl 32 _ rfl _ rfl _ _ _ _ (h.row (i:=2) rfl) Tryz.underlying32 rfl (ie4 _) ?_)
 refine callOK (cB _ (hT.below h.bel)) h ?_
 clear h
 rintro _ wn rfl h
 go_wp2_with (first | (refine wpList_store_R rfl 22 _ _ rfl _ (C .u8 G) rfl rfl (h.row (i:=1) rfl) (iB (by first | assumption | rfl | (apply lLo;assumption) | (apply lHi;assumption) | (rw [List.length_append];omega))) (zB (n:=32) rfl (by first | assumption | rfl | (apply lLo;assumption) | (apply lHi;assumption) | (rw [List.length_append];omega)))  (C_allL _ _) ?_;intro wz0 q0 hg0 hz0))
 replace h:Fr w wz0 [(w.heap.size,22,C .u8 sd),((w.heap.size + 1),22,C .u8 G),(g3,32,ec N),(g4,22,C .u8 D)]:=(h.put (i:=1) rfl q0 hg0)
 clear q0 hg0 hz0
 exact result_row Tryz.results8 rfl (h.row (i:=1) rfl) Tryz.underlying22 rfl (iB lG) rfl ⟨by rw [hK.out],h.bel⟩
end Go.Proofs.YtmjimilhomabfaaGreatDoor.F
