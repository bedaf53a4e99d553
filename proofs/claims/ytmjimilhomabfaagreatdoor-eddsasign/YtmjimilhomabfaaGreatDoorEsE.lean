/-
 The live question; a key, a signature, what is told of one, by letters; over this seat. Conditions: the packages' variables start as told.
-/
import Derived.Test.YtmjimilhomabfaaGreatDoorEsC
import Derived.Test.YtmjimilhomabfaaGreatDoorEsD
import Derived.Test.YtmjimilhomabfaaGreatDoorEsV
namespace Go.Proofs.YtmjimilhomabfaaGreatDoor.F
open Go.RowKit
set_option linter.unusedVariables false
set_option maxRecDepth 10000
open E (z z_val z_same z_add z_mul z_sub z_inv z_mod z_of dd Pt padd pneg pmul iv ax ay Sc)
theorem key_let (sd:List Nat) (os:Lo 256 sd) (ls:sd.length = 32):∃ G,Away (ky sd = G) ∧ G.length = 32 ∧ Lo 256 G ∧ ∀ w,TS w → Calls Tryz.prog 8 #[.agg (C .u8 sd).toArray] w fun e w'=>e = .returned (.agg (C .u8 G).toArray) ∧ Below w.heap.size w w' :=
 ⟨_,⟨rfl⟩,kb_length _,kb_lo _,fun w hT=>key_any sd os ls w hT⟩
theorem sign_let (sd:List Nat) (os:Lo 256 sd) (ls:sd.length = 32) (m:List Nat) (om:Lo 256 m) (lm:m.length ≤ 10000):∃ S,Away (sgn sd m = S) ∧ S.length = 64 ∧ Lo 256 S ∧ ∀ mv w,SlV w mv (C .u8 m) → TS w → Calls Tryz.prog 10 #[.agg (C .u8 sd).toArray,mv] w fun e w'=>e = .returned (.agg (C .u8 S).toArray) ∧ Below w.heap.size w w' :=
 ⟨_,⟨rfl⟩,sgn_length _ _,sgn_lo _ _,fun mv w hv hT=>sign_any sd os ls mv m om lm w hv hT⟩
theorem verify_is (G:List Nat) (oG:Lo 256 G) (lG:G.length = 32) (m:List Nat) (om:Lo 256 m) (lm:m.length ≤ 10000) (S:List Nat) (oS:Lo 256 S) {b:Bool} (hb:vfy G m S = b) (mv sv:Value) (w:World) (hv:SlV w mv (C .u8 m)) (hs:SlV w sv (C .u8 S)) (hT:TS w) :
  Calls Tryz.prog 12 #[.agg (C .u8 G).toArray,mv,sv] w fun e w'=>e = .returned (.bool b) ∧ Below w.heap.size w w':=by
 have h:=verify_any G oG lG mv m om lm sv S oS w hv hs hT
 rw [hb] at h
 exact h
set_option maxHeartbeats 4000000 in
theorem alive14_true (w:World) (hT:TS w):Calls Tryz.prog 7 #[] w fun e w'=>e = .returned (.bool true) ∧ Below w.heap.size w w':=by
 have h:=Fr.start w
 have o1:Lo 256 [1]:=by intro x hx;simp at hx;omega
 have o2:Lo 256 [2]:=by intro x hx;simp at hx;omega
 obtain ⟨G,eG,lG,oG,cG⟩:=key_let (Z 32) (Z_lo (by decide) 32) rfl
 obtain ⟨S,eS,lS,oS,cS⟩:=sign_let (Z 32) (Z_lo (by decide) 32) rfl [1] o1 (by decide)
 have cV1:=verify_is G oG lG [1] o1 (by decide) S oS (b:=true) (by rw [← eG.out,← eS.out];exact signed _ _)
 have cV2:=verify_is G oG lG [2] o2 (by decide) S oS (b:=false) (by rw [← eG.out,← eS.out];exact two_not)
 clear eG eS
 go_enter Tryz.func7,Tryz.ntmps7
 go_upto_region 1 with fail
 go_wp2_with (first | refine wpList_build_C rfl 22 _ rfl (C .u8 (Z 32)) (by kernel_rfl) ?_)
 refine callOK (cG _ (hT.below h.bel)) h ?_
 clear h
 rintro _ wn rfl h
 obtain ⟨g1,hgq0,hq0⟩:=h.more 0 22 (C .u8 (Z 32))
 replace hq0:Fr w _ [(g1,22,C .u8 (Z 32))]:=hq0
 go_upto_region 2 with (first | refine wpList_alloc_row rfl 22 rfl _ z32 ?_ | (refine wpList_store_R rfl 22 _ _ rfl _ (C .u8 G) (congrArg (fun g=>Value.pointer (some ⟨g,0,none⟩)) hgq0) rfl (hq0.row (i:=0) rfl) (iB (by first | assumption | rfl | (apply lLo;assumption) | (apply lHi;assumption) | (rw [List.length_append];omega))) (zB (n:=32) rfl (by first | assumption | rfl | (apply lLo;assumption) | (apply lHi;assumption) | (rw [List.length_append];omega)))  (C_allL _ _) ?_;intro wz0 q0 hg0 hz0))
 replace h:Fr w wz0 [(g1,22,C .u8 G)]:=(hq0.put (i:=0) rfl q0 hg0)
 try rw [hgq0]
 clear q0 hg0 hz0 hq0 hgq0
 obtain ⟨g6,hgq,hq⟩:=h.more 1 5 (C .u8 [1])
 replace hq:Fr w _ [(g1,22,C .u8 G),(g6,5,C .u8 [1])]:=hq
 go_wp2_with (first | refine wpList_build_C rfl 22 _ rfl (C .u8 (Z 32)) (by kernel_rfl) ?_ | refine wpList_parts rfl 23 5 1 _ rfl (C .u8 [1]) (by first | rfl | kernel_rfl) Tryz.underlying23 sl8 uz8 rfl (by decide) (by decide) rfl ?_)
 replace h:=hq
 try rw [hgq]
 clear hq hgq
 refine callOK (cS _ _ (slB (h.row (i:=1) rfl) rfl (by decide)) (hT.below h.bel)) h ?_
 clear h
 rintro _ wn rfl h
 obtain ⟨g2,hgq0,hq0⟩:=h.more 2 26 (C .u8 (Z 64))
 replace hq0:Fr w _ [(g1,22,C .u8 G),(g6,5,C .u8 [1]),(g2,26,C .u8 (Z 64))]:=hq0
 go_upto_region 3 with (first | refine wpList_alloc_row rfl 26 rfl _ zW ?_ | (refine wpList_store_R rfl 26 _ _ rfl _ (C .u8 S) (congrArg (fun g=>Value.pointer (some ⟨g,0,none⟩)) hgq0) rfl (hq0.row (i:=2) rfl) (iW (by first | assumption | rfl | (apply lLo;assumption) | (apply lHi;assumption) | (rw [List.length_append];omega))) (zB (n:=64) rfl (by first | assumption | rfl | (apply lLo;assumption) | (apply lHi;assumption) | (rw [List.length_append];omega)))  (C_allL _ _) ?_;intro wz0 q0 hg0 hz0))
 replace h:Fr w wz0 [(g1,22,C .u8 G),(g6,5,C .u8 [1]),(g2,26,C .u8 S)]:=(hq0.put (i:=2) rfl q0 hg0)
 try rw [hgq0]
 clear q0 hg0 hz0 hq0 hgq0
 try simp only [Act.put,stA,st0,st1]
 replace h:=h.drew
 refine wp_region_inv (by kernel_rfl) (fun a0 l b w'=>∃ (l0 l1 l2 l3 l4 l5 l6 l7 l8 l9 l10 l11:Bool) (g9 g14:Nat) ,l = #[l0,l1,l2,l3,l4,l5,l6,l7,l8,l9,l10,l11] ∧ b = putsA a0 [(8,l0,.agg (C .u8 G).toArray,undef),(9,l1,.slice (some ⟨g9,0,none⟩) 1 1,undef),(10,l2,.slice (some ⟨g2,0,none⟩) 64 64,undef),(11,l3,.bool true,undef),(12,l4,.bool true,undef),(13,l5,.agg (C .u8 G).toArray,undef),(14,l6,.slice (some ⟨g14,0,none⟩) 1 1,undef),(15,l7,.slice (some ⟨g2,0,none⟩) 64 64,undef),(16,l8,.bool false,undef),(17,l9,.bool true,undef),(18,l10,.bool true,undef),(0,l11,.bool true,.bool false)] ∧ Fr w w' (opt [(true,(g1,22,C .u8 G)),(true,(g6,5,C .u8 [1])),(true,(g2,26,C .u8 S)),(l1,(g9,5,C .u8 [1])),(l6,(g14,5,C .u8 [2]))])) ?start ?step ?rest
 case start=>exact ⟨false,false,false,false,false,false,false,false,false,false,false,false,0,0,by kernel_rfl,by kernel_rfl,h⟩
 case step =>
  clear h
  intro l b w' hI i hi
  obtain ⟨l0,l1,l2,l3,l4,l5,l6,l7,l8,l9,l10,l11,g9,g14,rfl,rfl,h⟩:=hI
  have hlt:i < 12:=ready_lt hi
  obtain rfl | rfl | rfl | rfl | rfl | rfl | rfl | rfl | rfl | rfl | rfl | rfl:=(by omega:i = 0 ∨ i = 1 ∨ i = 2 ∨ i = 3 ∨ i = 4 ∨ i = 5 ∨ i = 6 ∨ i = 7 ∨ i = 8 ∨ i = 9 ∨ i = 10 ∨ i = 11)
  ·have hn:l0 = false:=ready_not hi
   clear hi hlt
   subst hn
   refine wpOp_inv rfl rfl (fun K hK=>?_)
   simp only [putsA,Act.put,stA,st0,st1,cond_false] at h ⊢
   refine wp_value (.agg (C .u8 G).toArray) (exec_load_W 22 _ rfl rfl (h.rowo (k:=0) rfl) Tryz.underlying22 rfl (iB lG)) ?_
   exact hK.out _ _ ⟨true,l1,l2,l3,l4,l5,l6,l7,l8,l9,l10,l11,g9,g14,by kernel_rfl,by kernel_rfl,h⟩
  ·have hn:l1 = false:=ready_not hi
   clear hi hlt
   subst hn
   refine wpOp_inv rfl rfl (fun K hK=>?_)
   simp only [putsA,Act.put,stA,st0,st1,cond_false] at h ⊢
   refine wp_parts 23 5 1 _ rfl (C .u8 [1]) (by first | rfl | kernel_rfl) Tryz.underlying23 sl8 uz8 rfl (by decide) (by decide) rfl ?_
   obtain ⟨gn,hgq,hq⟩:=h.on (k:=3) rfl 5 (C .u8 [1])
   rw [hgq]
   exact hK.out _ _ ⟨l0,true,l2,l3,l4,l5,l6,l7,l8,l9,l10,l11,gn,g14,by kernel_rfl,by kernel_rfl,hq⟩
  ·have hn:l2 = false:=ready_not hi
   clear hi hlt
   subst hn
   refine wpOp_inv rfl rfl (fun K hK=>?_)
   simp only [putsA,Act.put,stA,st0,st1,cond_false] at h ⊢
   refine wp_value (.slice (some ⟨g2,0,none⟩) 64 64) (by go_simp) ?_
   exact hK.out _ _ ⟨l0,l1,true,l3,l4,l5,l6,l7,l8,l9,l10,l11,g9,g14,by kernel_rfl,by kernel_rfl,h⟩
  ·have hn:l3 = false:=ready_not hi
   have hd0:l0 = true:=ready_dep hi rfl (k:=0) rfl rfl
   have hd1:l1 = true:=ready_dep hi rfl (k:=1) rfl rfl
   have hd2:l2 = true:=ready_dep hi rfl (k:=2) rfl rfl
   clear hi hlt
   subst hn hd0 hd1 hd2
   refine wpOp_inv rfl rfl (fun K hK=>?_)
   simp only [putsA,Act.put,stA,st0,st1,cond_true,cond_false] at h ⊢
   go_simp
   refine callOK (cV1 _ _ _ (slB (h.rowo (k:=3) rfl) rfl (by decide)) (slB (h.rowo (k:=2) rfl) lS (by decide)) (hT.below h.bel)) h ?_
   clear h
   rintro _ wn rfl h
   exact hK.out _ _ ⟨true,true,true,true,l4,l5,l6,l7,l8,l9,l10,l11,g9,g14,by kernel_rfl,by kernel_rfl,h⟩
  ·have hn:l4 = false:=ready_not hi
   have hd3:l3 = true:=ready_dep hi rfl (k:=0) rfl rfl
   clear hi hlt
   subst hn hd3
   refine wpOp_inv rfl rfl (fun K hK=>?_)
   simp only [putsA,Act.put,stA,st0,st1,cond_true,cond_false] at h ⊢
   refine wp_value (.bool true) (by go_simp) ?_
   exact hK.out _ _ ⟨l0,l1,l2,true,true,l5,l6,l7,l8,l9,l10,l11,g9,g14,by kernel_rfl,by kernel_rfl,h⟩
  ·have hn:l5 = false:=ready_not hi
   have hd4:l4 = true:=ready_dep hi rfl (k:=0) rfl rfl
   clear hi hlt
   subst hn hd4
   simp only [putsA,Act.put,stA,st0,st1,cond_true,cond_false] at h ⊢
   refine wpOp_invW rfl (by rfl) (fun K hK=>?_)
   refine wp_value (.agg (C .u8 G).toArray) (exec_load_W 22 _ rfl rfl (h.rowo (k:=0) rfl) Tryz.underlying22 rfl (iB lG)) ?_
   exact hK.out _ _ ⟨l0,l1,l2,l3,true,true,l6,l7,l8,l9,l10,l11,g9,g14,by kernel_rfl,by kernel_rfl,h⟩
  ·have hn:l6 = false:=ready_not hi
   have hd4:l4 = true:=ready_dep hi rfl (k:=0) rfl rfl
   clear hi hlt
   subst hn hd4
   simp only [putsA,Act.put,stA,st0,st1,cond_true,cond_false] at h ⊢
   refine wpOp_invW rfl (by rfl) (fun K hK=>?_)
   refine wp_parts 23 5 1 _ rfl (C .u8 [2]) (by first | rfl | kernel_rfl) Tryz.underlying23 sl8 uz8 rfl (by decide) (by decide) rfl ?_
   obtain ⟨gn,hgq,hq⟩:=h.on (k:=4) rfl 5 (C .u8 [2])
   rw [hgq]
   exact hK.out _ _ ⟨l0,l1,l2,l3,true,l5,true,l7,l8,l9,l10,l11,g9,gn,by kernel_rfl,by kernel_rfl,hq⟩
  ·have hn:l7 = false:=ready_not hi
   have hd4:l4 = true:=ready_dep hi rfl (k:=0) rfl rfl
   clear hi hlt
   subst hn hd4
   simp only [putsA,Act.put,stA,st0,st1,cond_true,cond_false] at h ⊢
   refine wpOp_invW rfl (by rfl) (fun K hK=>?_)
   refine wp_value (.slice (some ⟨g2,0,none⟩) 64 64) (by go_simp) ?_
   exact hK.out _ _ ⟨l0,l1,l2,l3,true,l5,l6,true,l8,l9,l10,l11,g9,g14,by kernel_rfl,by kernel_rfl,h⟩
  ·have hn:l8 = false:=ready_not hi
   have hd5:l5 = true:=ready_dep hi rfl (k:=0) rfl rfl
   have hd6:l6 = true:=ready_dep hi rfl (k:=1) rfl rfl
   have hd7:l7 = true:=ready_dep hi rfl (k:=2) rfl rfl
   have hd4:l4 = true:=ready_dep hi rfl (k:=3) rfl rfl
   clear hi hlt
   subst hn hd5 hd6 hd7 hd4
   simp only [putsA,Act.put,stA,st0,st1,cond_true,cond_false] at h ⊢
   refine wpOp_invW rfl (by rfl) (fun K hK=>?_)
   go_simp
   refine callOK (cV2 _ _ _ (slB (h.rowo (k:=4) rfl) rfl (by decide)) (slB (h.rowo (k:=2) rfl) lS (by decide)) (hT.below h.bel)) h ?_
   clear h
   rintro _ wn rfl h
   exact hK.out _ _ ⟨l0,l1,l2,l3,true,true,true,true,true,l9,l10,l11,g9,g14,by kernel_rfl,by kernel_rfl,h⟩
  ·have hn:l9 = false:=ready_not hi
   have hd8:l8 = true:=ready_dep hi rfl (k:=0) rfl rfl
   have hd4:l4 = true:=ready_dep hi rfl (k:=1) rfl rfl
   clear hi hlt
   subst hn hd8 hd4
   simp only [putsA,Act.put,stA,st0,st1,cond_true,cond_false] at h ⊢
   refine wpOp_invW rfl (by rfl) (fun K hK=>?_)
   refine wp_value (.bool true) (by go_simp) ?_
   exact hK.out _ _ ⟨l0,l1,l2,l3,true,l5,l6,l7,true,true,l10,l11,g9,g14,by kernel_rfl,by kernel_rfl,h⟩
  ·have hn:l10 = false:=ready_not hi
   have hd4:l4 = true:=ready_dep hi rfl (k:=0) rfl rfl
   have hd9:l9 = true:=ready_dep hi rfl (k:=1) rfl rfl
   clear hi hlt
   subst hn hd4 hd9
   refine wpOp_inv rfl rfl (fun K hK=>?_)
   simp only [putsA,Act.put,stA,st0,st1,cond_true,cond_false] at h ⊢
   refine wp_value (.bool true) (by go_simp) ?_
   exact hK.out _ _ ⟨l0,l1,l2,l3,true,l5,l6,l7,l8,true,true,l11,g9,g14,by kernel_rfl,by kernel_rfl,h⟩
  ·have hn:l11 = false:=ready_not hi
   have hd10:l10 = true:=ready_dep hi rfl (k:=0) rfl rfl
   clear hi hlt
   subst hn hd10
   refine wpOp_inv rfl rfl (fun K hK=>?_)
   simp only [putsA,Act.put,stA,st0,st1,cond_true,cond_false] at h ⊢
   refine wp_value (.bool true) (by go_simp) ?_
   exact hK.out _ _ ⟨l0,l1,l2,l3,l4,l5,l6,l7,l8,l9,true,true,g9,g14,by kernel_rfl,by kernel_rfl,h⟩
 case rest =>
  clear h
  intro l b w' hI hr
  obtain ⟨l0,l1,l2,l3,l4,l5,l6,l7,l8,l9,l10,l11,g9,g14,rfl,rfl,h⟩:=hI
  have hd:l0 = true:=ready_nil (i:=0) hr rfl (by rfl)
  subst hd
  have hd:l1 = true:=ready_nil (i:=1) hr rfl (by rfl)
  subst hd
  have hd:l2 = true:=ready_nil (i:=2) hr rfl (by rfl)
  subst hd
  have hd:l3 = true:=ready_nil (i:=3) hr rfl (by rfl)
  subst hd
  have hd:l4 = true:=ready_nil (i:=4) hr rfl (by rfl)
  subst hd
  have hd:l5 = true:=ready_nil (i:=5) hr rfl (by rfl)
  subst hd
  have hd:l6 = true:=ready_nil (i:=6) hr rfl (by rfl)
  subst hd
  have hd:l7 = true:=ready_nil (i:=7) hr rfl (by rfl)
  subst hd
  have hd:l8 = true:=ready_nil (i:=8) hr rfl (by rfl)
  subst hd
  have hd:l9 = true:=ready_nil (i:=9) hr rfl (by rfl)
  subst hd
  have hd:l10 = true:=ready_nil (i:=10) hr rfl (by rfl)
  subst hd
  have hd:l11 = true:=ready_nil (i:=11) hr rfl (by rfl)
  subst hd
  clear hr
  simp only [putsA,Act.put,stA,st0,st1,cond_true]
  replace h:Fr w w' [(g1,22,C .u8 G),(g6,5,C .u8 [1]),(g2,26,C .u8 S),(g9,5,C .u8 [1]),(g14,5,C .u8 [2])]:=h
  go_wp2
  go_ret
  exact ⟨rfl,h.bel⟩
end Go.Proofs.YtmjimilhomabfaaGreatDoor.F
