/-
 Proved: for every seed and message the law EddsaSigns returns true, and its arguments read as before. No conditions of ours; the packages' variables start as their initialisers lay them, as the given card ties it.
-/
import Derived.Test.YtmjimilhomabfaaGreatDoorRows
import Derived.Test.YtmjimilhomabfaaGreatDoorCards
import Derived.Test.YtmjimilhomabfaaGreatDoorTie
import Derived.SevenTiedAt
import Derived.Test.YtmjimilhomabfaaGreatDoorEsN
import Derived.Test.YtmjimilhomabfaaGreatDoorKit17
import Derived.WalkKit
import Derived.ProofKit
import Derived.OpenShut
import Derived.ShutString
import Derived.ChangeOld
import Derived.Below
namespace Go.Proofs.YtmjimilhomabfaaGreatDoor.eddsaSigns
open Go.ChangeShapes Go.WideShapes Go.ChangeAt Go.RowKit
open F
set_option linter.unusedVariables false
set_option maxRecDepth 10000
theorem own:ownKnob Tryz.prog.godebug = none:=by kernel_rfl
theorem laidOut:laidOutB Tryz.prog = true:=by kernel_rfl
theorem slN {w:World} {g:Nat} {t:TypeId} {l:List Nat} (h:Row w g t (C .u8 l)) (hl:l.length = 64) (hn:63 ≤ 64):SlV w (.slice (some ⟨g,0,none⟩) 63 64) (C .u8 (l.take 63)):=by
 have h2:=h.sl 0 63 64 (by rw [C_length,hl];decide) (by decide) (by unfold maxLen;decide)
 rw [List.drop_zero,← C_take] at h2
 exact h2
set_option maxHeartbeats 4000000 in
theorem walk (sd:List Nat) (os:Lo 256 sd) (ls:sd.length = 32) (ma:Option Addr) (mn mc:Nat) (m:List Nat) (om:Lo 256 m) (lm:m.length = mn) (w:World) (hv:SlV w (.slice ma mn mc) (C .u8 m)) (hT:TS w) :
  Calls Tryz.prog 5 #[.agg (C .u8 sd).toArray,.slice ma mn mc] w fun e w'=>e = .returned (.bool true) ∧ Below w.heap.size w w':=by
 have h:=Fr.one w 22 (C .u8 sd)
 by_cases hlen:mn ≤ 300
 case neg =>
  have d:decide (300 < (mn:Int)) = true:=decide_eq_true (by omega)
  go_enter Tryz.func5,Tryz.ntmps5
  go_wp2_with fail
  refine callOK (alive14_true _ (hT.below h.bel)) h ?_
  clear h
  rintro _ wn rfl h
  go_wp2
  go_ret
  exact ⟨rfl,h.bel⟩
 case pos =>
  have d:decide (300 < (mn:Int)) = false:=decide_eq_false (by omega)
  obtain ⟨G,eG,lG,oG,cG⟩:=key_let sd os ls
  obtain ⟨S,eS,lS,oS,cS⟩:=sign_let sd os ls m om (by omega)
  have lS2:(S ++ [0]).length = 65:=by rw [List.length_append,lS];rfl
  have cV1:=verify_is G oG lG m om (by omega) S oS (b:=true) (by rw [← eG.out,← eS.out];exact signed _ _)
  have cV2:=verify_is G oG lG m om (by omega) (S.take 63) (oS.take 63) (b:=false) (vfy_long (by rw [List.length_take,lS];decide))
  have cV3:=verify_is G oG lG m om (by omega) (S ++ [0]) (oS.append (fun x hx=>by simp at hx;omega)) (b:=false) (vfy_long (by rw [lS2];decide))
  clear eG eS
  go_enter Tryz.func5,Tryz.ntmps5
  go_upto_region 3 with fail
  replace h:=h.drew
  refine wp_region_inv (by kernel_rfl) (fun a0 l b w'=>∃ (l0 l1 l2 l3 l4 l5 l6 l7 l8:Bool) (g5 g6:Nat) ,l = #[l0,l1,l2,l3,l4,l5,l6,l7,l8] ∧ b = putsA a0 [(12,l0,.agg (C .u8 sd).toArray,undef),(13,l1,.agg (C .u8 G).toArray,undef),(14,l2,.agg (C .u8 sd).toArray,undef),(15,l3,.slice ma mn mc,undef),(16,l4,.agg (C .u8 S).toArray,undef),(5,l5,.pointer (some ⟨g5,0,none⟩),undef),(6,l6,.pointer (some ⟨g6,0,none⟩),undef)] ∧ Fr w w' (opt [(true,(w.heap.size,22,C .u8 sd)),(l5,(g5,22,bif l7 then C .u8 G else C .u8 (Z 32))),(l6,(g6,26,bif l8 then C .u8 S else C .u8 (Z 64)))]) ∧ (l7 = true → l5 = true) ∧ (l8 = true → l6 = true)) ?start ?step ?rest
  case start=>exact ⟨false,false,false,false,false,false,false,false,false,0,0,by kernel_rfl,by kernel_rfl,h,(fun e=>by cases e),(fun e=>by cases e)⟩
  case step =>
   clear h
   intro l b w' hI i hi
   obtain ⟨l0,l1,l2,l3,l4,l5,l6,l7,l8,g5,g6,rfl,rfl,h,hc7,hc8⟩:=hI
   have hlt:i < 9:=ready_lt hi
   obtain rfl | rfl | rfl | rfl | rfl | rfl | rfl | rfl | rfl:=(by omega:i = 0 ∨ i = 1 ∨ i = 2 ∨ i = 3 ∨ i = 4 ∨ i = 5 ∨ i = 6 ∨ i = 7 ∨ i = 8)
   ·have hn:l0 = false:=ready_not hi
    clear hi hlt
    subst hn
    refine wpOp_inv rfl rfl (fun K hK=>?_)
    simp only [putsA,Act.put,stA,st0,st1,cond_false] at h ⊢
    refine wp_value (.agg (C .u8 sd).toArray) (exec_load_W 22 _ rfl rfl (h.rowo (k:=0) rfl) Tryz.underlying22 rfl (iB ls)) ?_
    exact hK.out _ _ ⟨true,l1,l2,l3,l4,l5,l6,l7,l8,g5,g6,by kernel_rfl,by kernel_rfl,h,(by first | exact hc7 | exact fun _=>rfl | exact fun e=>(by cases e)),(by first | exact hc8 | exact fun _=>rfl | exact fun e=>(by cases e))⟩
   ·have hn:l1 = false:=ready_not hi
    have hd0:l0 = true:=ready_dep hi rfl (k:=0) rfl rfl
    clear hi hlt
    subst hn hd0
    refine wpOp_inv rfl rfl (fun K hK=>?_)
    simp only [putsA,Act.put,stA,st0,st1,cond_true,cond_false] at h ⊢
    go_simp
    refine callOK (cG _ (hT.below h.bel)) h ?_
    clear h
    rintro _ wn rfl h
    exact hK.out _ _ ⟨true,true,l2,l3,l4,l5,l6,l7,l8,g5,g6,by kernel_rfl,by kernel_rfl,h,(by first | exact hc7 | exact fun _=>rfl | exact fun e=>(by cases e)),(by first | exact hc8 | exact fun _=>rfl | exact fun e=>(by cases e))⟩
   ·have hn:l2 = false:=ready_not hi
    clear hi hlt
    subst hn
    refine wpOp_inv rfl rfl (fun K hK=>?_)
    simp only [putsA,Act.put,stA,st0,st1,cond_false] at h ⊢
    refine wp_value (.agg (C .u8 sd).toArray) (exec_load_W 22 _ rfl rfl (h.rowo (k:=0) rfl) Tryz.underlying22 rfl (iB ls)) ?_
    exact hK.out _ _ ⟨l0,l1,true,l3,l4,l5,l6,l7,l8,g5,g6,by kernel_rfl,by kernel_rfl,h,(by first | exact hc7 | exact fun _=>rfl | exact fun e=>(by cases e)),(by first | exact hc8 | exact fun _=>rfl | exact fun e=>(by cases e))⟩
   ·have hn:l3 = false:=ready_not hi
    clear hi hlt
    subst hn
    refine wpOp_inv rfl rfl (fun K hK=>?_)
    simp only [putsA,Act.put,stA,st0,st1,cond_false] at h ⊢
    refine wp_value (.slice ma mn mc) (by go_simp) ?_
    exact hK.out _ _ ⟨l0,l1,l2,true,l4,l5,l6,l7,l8,g5,g6,by kernel_rfl,by kernel_rfl,h,(by first | exact hc7 | exact fun _=>rfl | exact fun e=>(by cases e)),(by first | exact hc8 | exact fun _=>rfl | exact fun e=>(by cases e))⟩
   ·have hn:l4 = false:=ready_not hi
    have hd2:l2 = true:=ready_dep hi rfl (k:=0) rfl rfl
    have hd3:l3 = true:=ready_dep hi rfl (k:=1) rfl rfl
    clear hi hlt
    subst hn hd2 hd3
    refine wpOp_inv rfl rfl (fun K hK=>?_)
    simp only [putsA,Act.put,stA,st0,st1,cond_true,cond_false] at h ⊢
    go_simp
    refine callOK (cS _ _ (hv.below h.bel) (hT.below h.bel)) h ?_
    clear h
    rintro _ wn rfl h
    exact hK.out _ _ ⟨l0,l1,true,true,true,l5,l6,l7,l8,g5,g6,by kernel_rfl,by kernel_rfl,h,(by first | exact hc7 | exact fun _=>rfl | exact fun e=>(by cases e)),(by first | exact hc8 | exact fun _=>rfl | exact fun e=>(by cases e))⟩
   ·have hn:l5 = false:=ready_not hi
    clear hi hlt
    subst hn
    obtain rfl:l7 = false:=by cases l7 with | false=>rfl | true=>exact absurd (hc7 rfl) (by decide)
    refine wpOp_inv rfl rfl (fun K hK=>?_)
    simp only [putsA,Act.put,stA,st0,st1,cond_false] at h ⊢
    refine wp_alloc_R 22 rfl (C .u8 (Z 32)) z32 ?_
    obtain ⟨gn,hgq,hq⟩:=h.on (k:=1) rfl 22 (C .u8 (Z 32))
    rw [hgq]
    exact hK.out _ _ ⟨l0,l1,l2,l3,l4,true,l6,false,l8,gn,g6,by kernel_rfl,by kernel_rfl,hq,(by first | exact hc7 | exact fun _=>rfl | exact fun e=>(by cases e)),(by first | exact hc8 | exact fun _=>rfl | exact fun e=>(by cases e))⟩
   ·have hn:l6 = false:=ready_not hi
    clear hi hlt
    subst hn
    obtain rfl:l8 = false:=by cases l8 with | false=>rfl | true=>exact absurd (hc8 rfl) (by decide)
    refine wpOp_inv rfl rfl (fun K hK=>?_)
    simp only [putsA,Act.put,stA,st0,st1,cond_false] at h ⊢
    refine wp_alloc_R 26 rfl (C .u8 (Z 64)) zW ?_
    obtain ⟨gn,hgq,hq⟩:=h.on (k:=2) rfl 26 (C .u8 (Z 64))
    rw [hgq]
    exact hK.out _ _ ⟨l0,l1,l2,l3,l4,l5,true,l7,false,g5,gn,by kernel_rfl,by kernel_rfl,hq,(by first | exact hc7 | exact fun _=>rfl | exact fun e=>(by cases e)),(by first | exact hc8 | exact fun _=>rfl | exact fun e=>(by cases e))⟩
   ·have hn:l7 = false:=ready_not hi
    have hd5:l5 = true:=ready_dep hi rfl (k:=0) rfl rfl
    have hd1:l1 = true:=ready_dep hi rfl (k:=1) rfl rfl
    clear hi hlt
    subst hn hd5 hd1
    refine wpOp_inv rfl rfl (fun K hK=>?_)
    simp only [putsA,Act.put,stA,st0,st1,cond_true,cond_false] at h ⊢
    refine wp_store_R 22 _ _ rfl _ (C .u8 G) rfl rfl (h.rowo (k:=1) rfl) (iB (by first | assumption | rfl | (apply lLo;assumption) | (apply lHi;assumption) | (rw [List.length_append];omega))) (zB (n:=32) rfl (by first | assumption | rfl | (apply lLo;assumption) | (apply lHi;assumption) | (rw [List.length_append];omega))) (C_allL _ _) ?_
    intro wz q hg hz
    replace h:=h.puto (k:=1) rfl q hg
    exact hK.out _ _ ⟨l0,true,l2,l3,l4,true,l6,true,l8,g5,g6,by kernel_rfl,by kernel_rfl,h,(by first | exact hc7 | exact fun _=>rfl | exact fun e=>(by cases e)),(by first | exact hc8 | exact fun _=>rfl | exact fun e=>(by cases e))⟩
   ·have hn:l8 = false:=ready_not hi
    have hd6:l6 = true:=ready_dep hi rfl (k:=0) rfl rfl
    have hd4:l4 = true:=ready_dep hi rfl (k:=1) rfl rfl
    clear hi hlt
    subst hn hd6 hd4
    refine wpOp_inv rfl rfl (fun K hK=>?_)
    simp only [putsA,Act.put,stA,st0,st1,cond_true,cond_false] at h ⊢
    refine wp_store_R 26 _ _ rfl _ (C .u8 S) rfl rfl (h.rowo (k:=2) rfl) (iW (by first | assumption | rfl | (apply lLo;assumption) | (apply lHi;assumption) | (rw [List.length_append];omega))) (zB (n:=64) rfl (by first | assumption | rfl | (apply lLo;assumption) | (apply lHi;assumption) | (rw [List.length_append];omega))) (C_allL _ _) ?_
    intro wz q hg hz
    replace h:=h.puto (k:=2) rfl q hg
    exact hK.out _ _ ⟨l0,l1,l2,l3,true,l5,true,l7,true,g5,g6,by kernel_rfl,by kernel_rfl,h,(by first | exact hc7 | exact fun _=>rfl | exact fun e=>(by cases e)),(by first | exact hc8 | exact fun _=>rfl | exact fun e=>(by cases e))⟩
  case rest =>
   clear h
   intro l b w' hI hr
   obtain ⟨l0,l1,l2,l3,l4,l5,l6,l7,l8,g5,g6,rfl,rfl,h,hc7,hc8⟩:=hI
   have hd:l0 = true:=ready_nil (i:=0) hr rfl (by rfl)
   subst hd
   have hd:l1 = true:=ready_nil (i:=1) hr rfl (by rfl)
   subst hd
   have hd:l2 = true:=ready_nil (i:=2) hr rfl (by rfl)
   subst hd
   have hd:l3 = true:=ready_nil (i:=3) hr rfl (by rfl)
   subst hd
   have hd:l4 = true:=ready_nil (i:=4) hr rfl (by rfl)
   subst hd
   have hd:l5 = true:=ready_nil (i:=5) hr rfl (by rfl)
   subst hd
   have hd:l6 = true:=ready_nil (i:=6) hr rfl (by rfl)
   subst hd
   have hd:l7 = true:=ready_nil (i:=7) hr rfl (by rfl)
   subst hd
   have hd:l8 = true:=ready_nil (i:=8) hr rfl (by rfl)
   subst hd
   clear hr hc7 hc8
   simp only [putsA,Act.put,stA,st0,st1,cond_true]
   replace h:Fr w w' [(w.heap.size,22,C .u8 sd),(g5,22,C .u8 G),(g6,26,C .u8 S)]:=h
   go_upto_region 4 with fail
   have hO:=Ow.empty h 5
   have hSl:=slB (hO.h.row (i:=2) rfl) lS (by decide)
   go_upto_region 5 with (at_builtin;refine wpList_append_at rfl (.tmp 17) (.tmp 18) 23 rfl w.heap.size 5 _ 1 Tryz.underlying23 S3.inf8 rfl _ 0 [] rfl hO.o _ (C .u8 S) rfl hSl (C_one _ _) (by rw [C_length,lS];unfold maxLen;decide) (by rw [C_length,lS];decide) hO.h.bel.size ?_;intro v1 w1 ho1 hg1 hw1)
   replace hO:=hO.app ho1 hg1 hw1
   clear ho1 hg1 hw1 hSl h
   have hO2:=hO
   obtain ⟨g21,hgq,hq⟩:=hO.more 3 5 (C .u8 [0])
   replace hq:Ow w _ [(w.heap.size,22,C .u8 sd),(g5,22,C .u8 G),(g6,26,C .u8 S),(g21,5,C .u8 [0])] 5 _ _ _:=hq
   have hSl:=slB (hq.h.row (i:=3) rfl) rfl (by decide)
   go_upto_region 6 with (first | (refine wpList_parts rfl 23 5 1 _ rfl (C .u8 [0]) (by first | rfl | kernel_rfl) Tryz.underlying23 sl8 uz8 rfl (by decide) (by decide) rfl ?_;rw [hgq]) | (at_builtin;refine wpList_append_at rfl (.tmp 20) (.tmp 21) 23 rfl w.heap.size 5 _ 1 Tryz.underlying23 S3.inf8 rfl _ _ _ rfl hq.o _ (C .u8 [0]) rfl hSl (C_one _ _) (by rw [C_length,C_length,lS];unfold maxLen;decide) (by rw [C_length,C_length,lS];decide) hq.h.bel.size ?_;intro v2 w2 ho2 hg2 hw2))
   replace hq:=hq.app ho2 hg2 hw2
   obtain ⟨gv,cap,rest,rfl,hc1,hc2,h⟩:=hq.row (by rw [C_length,C_length];exact Nat.succ_pos _)
   rw [List.nil_append,← C_append] at h
   have e65:0 + (C .u8 S).length + (C .u8 [0]).length = 65:=by rw [C_length,C_length,lS];rfl
   rw [e65] at hc1 ⊢
   clear ho2 hg2 hw2 hq hSl hO hO2 hgq e65
   replace h:Fr w w2 [(w.heap.size,22,C .u8 sd),(g5,22,C .u8 G),(g6,26,C .u8 S),(g21,5,C .u8 [0]),(gv,5,C .u8 (S ++ [0]) ++ rest)]:=h
   try simp only [Act.put,stA,st0,st1]
   replace h:=h.drew
   refine wp_region_inv (by kernel_rfl) (fun a0 l b w'=>∃ (l0 l1 l2 l3 l4 l5 l6 l7 l8 l9 l10 l11 l12 l13 l14 l15 l16 l17 l18 l19 l20 l21:Bool) ,l = #[l0,l1,l2,l3,l4,l5,l6,l7,l8,l9,l10,l11,l12,l13,l14,l15,l16,l17,l18,l19,l20,l21] ∧ b = putsA a0 [(23,l0,.bool true,undef),(24,l1,.bool true,undef),(25,l2,.agg (C .u8 G).toArray,undef),(26,l3,.slice ma mn mc,undef),(27,l4,.slice (some ⟨g6,0,none⟩) 64 64,undef),(28,l5,.bool true,undef),(29,l6,.bool true,undef),(30,l7,.bool true,undef),(31,l8,.agg (C .u8 G).toArray,undef),(32,l9,.slice ma mn mc,undef),(33,l10,.slice (some ⟨g6,0,none⟩) 63 64,undef),(34,l11,.bool false,undef),(35,l12,.bool true,undef),(36,l13,.bool true,undef),(37,l14,.bool true,undef),(38,l15,.agg (C .u8 G).toArray,undef),(39,l16,.slice ma mn mc,undef),(40,l17,.slice (some ⟨gv,0,none⟩) 65 cap,undef),(41,l18,.bool false,undef),(42,l19,.bool true,undef),(43,l20,.bool true,undef),(4,l21,.bool true,.bool false)] ∧ Fr w w' (opt [(true,(w.heap.size,22,C .u8 sd)),(true,(g5,22,C .u8 G)),(true,(g6,26,C .u8 S)),(true,(g21,5,C .u8 [0])),(true,(gv,5,C .u8 (S ++ [0]) ++ rest))])) ?start ?step ?rest
   case start=>exact ⟨false,false,false,false,false,false,false,false,false,false,false,false,false,false,false,false,false,false,false,false,false,false,by kernel_rfl,by kernel_rfl,h⟩
   case step =>
    clear h
    intro l b w' hI i hi
    obtain ⟨l0,l1,l2,l3,l4,l5,l6,l7,l8,l9,l10,l11,l12,l13,l14,l15,l16,l17,l18,l19,l20,l21,rfl,rfl,h⟩:=hI
    have hlt:i < 22:=ready_lt hi
    obtain rfl | rfl | rfl | rfl | rfl | rfl | rfl | rfl | rfl | rfl | rfl | rfl | rfl | rfl | rfl | rfl | rfl | rfl | rfl | rfl | rfl | rfl:=(by omega:i = 0 ∨ i = 1 ∨ i = 2 ∨ i = 3 ∨ i = 4 ∨ i = 5 ∨ i = 6 ∨ i = 7 ∨ i = 8 ∨ i = 9 ∨ i = 10 ∨ i = 11 ∨ i = 12 ∨ i = 13 ∨ i = 14 ∨ i = 15 ∨ i = 16 ∨ i = 17 ∨ i = 18 ∨ i = 19 ∨ i = 20 ∨ i = 21)
    ·have hn:l0 = false:=ready_not hi
     clear hi hlt
     subst hn
     refine wpOp_inv rfl rfl (fun K hK=>?_)
     simp only [putsA,Act.put,stA,st0,st1,cond_false] at h ⊢
     go_simp
     refine callOK (alive14_true _ (hT.below h.bel)) h ?_
     clear h
     rintro _ wn rfl h
     exact hK.out _ _ ⟨true,l1,l2,l3,l4,l5,l6,l7,l8,l9,l10,l11,l12,l13,l14,l15,l16,l17,l18,l19,l20,l21,by kernel_rfl,by kernel_rfl,h⟩
    ·have hn:l1 = false:=ready_not hi
     have hd0:l0 = true:=ready_dep hi rfl (k:=0) rfl rfl
     clear hi hlt
     subst hn hd0
     refine wpOp_inv rfl rfl (fun K hK=>?_)
     simp only [putsA,Act.put,stA,st0,st1,cond_true,cond_false] at h ⊢
     refine wp_value (.bool true) (by go_simp) ?_
     exact hK.out _ _ ⟨true,true,l2,l3,l4,l5,l6,l7,l8,l9,l10,l11,l12,l13,l14,l15,l16,l17,l18,l19,l20,l21,by kernel_rfl,by kernel_rfl,h⟩
    ·have hn:l2 = false:=ready_not hi
     have hd1:l1 = true:=ready_dep hi rfl (k:=0) rfl rfl
     clear hi hlt
     subst hn hd1
     simp only [putsA,Act.put,stA,st0,st1,cond_true,cond_false] at h ⊢
     refine wpOp_invW rfl (by rfl) (fun K hK=>?_)
     refine wp_value (.agg (C .u8 G).toArray) (exec_load_W 22 _ rfl rfl (h.rowo (k:=1) rfl) Tryz.underlying22 rfl (iB lG)) ?_
     exact hK.out _ _ ⟨l0,true,true,l3,l4,l5,l6,l7,l8,l9,l10,l11,l12,l13,l14,l15,l16,l17,l18,l19,l20,l21,by kernel_rfl,by kernel_rfl,h⟩
    ·have hn:l3 = false:=ready_not hi
     have hd1:l1 = true:=ready_dep hi rfl (k:=0) rfl rfl
     clear hi hlt
     subst hn hd1
     simp only [putsA,Act.put,stA,st0,st1,cond_true,cond_false] at h ⊢
     refine wpOp_invW rfl (by rfl) (fun K hK=>?_)
     refine wp_value (.slice ma mn mc) (by go_simp) ?_
     exact hK.out _ _ ⟨l0,true,l2,true,l4,l5,l6,l7,l8,l9,l10,l11,l12,l13,l14,l15,l16,l17,l18,l19,l20,l21,by kernel_rfl,by kernel_rfl,h⟩
    ·have hn:l4 = false:=ready_not hi
     have hd1:l1 = true:=ready_dep hi rfl (k:=0) rfl rfl
     clear hi hlt
     subst hn hd1
     simp only [putsA,Act.put,stA,st0,st1,cond_true,cond_false] at h ⊢
     refine wpOp_invW rfl (by rfl) (fun K hK=>?_)
     refine wp_value (.slice (some ⟨g6,0,none⟩) 64 64) (by go_simp) ?_
     exact hK.out _ _ ⟨l0,true,l2,l3,true,l5,l6,l7,l8,l9,l10,l11,l12,l13,l14,l15,l16,l17,l18,l19,l20,l21,by kernel_rfl,by kernel_rfl,h⟩
    ·have hn:l5 = false:=ready_not hi
     have hd2:l2 = true:=ready_dep hi rfl (k:=0) rfl rfl
     have hd3:l3 = true:=ready_dep hi rfl (k:=1) rfl rfl
     have hd4:l4 = true:=ready_dep hi rfl (k:=2) rfl rfl
     have hd1:l1 = true:=ready_dep hi rfl (k:=3) rfl rfl
     clear hi hlt
     subst hn hd2 hd3 hd4 hd1
     simp only [putsA,Act.put,stA,st0,st1,cond_true,cond_false] at h ⊢
     refine wpOp_invW rfl (by rfl) (fun K hK=>?_)
     go_simp
     refine callOK (cV1 _ _ _ (hv.below h.bel) (slB (h.rowo (k:=2) rfl) lS (by decide)) (hT.below h.bel)) h ?_
     clear h
     rintro _ wn rfl h
     exact hK.out _ _ ⟨l0,true,true,true,true,true,l6,l7,l8,l9,l10,l11,l12,l13,l14,l15,l16,l17,l18,l19,l20,l21,by kernel_rfl,by kernel_rfl,h⟩
    ·have hn:l6 = false:=ready_not hi
     have hd1:l1 = true:=ready_dep hi rfl (k:=0) rfl rfl
     have hd5:l5 = true:=ready_dep hi rfl (k:=1) rfl rfl
     clear hi hlt
     subst hn hd1 hd5
     refine wpOp_inv rfl rfl (fun K hK=>?_)
     simp only [putsA,Act.put,stA,st0,st1,cond_true,cond_false] at h ⊢
     refine wp_value (.bool true) (by go_simp) ?_
     exact hK.out _ _ ⟨l0,true,l2,l3,l4,true,true,l7,l8,l9,l10,l11,l12,l13,l14,l15,l16,l17,l18,l19,l20,l21,by kernel_rfl,by kernel_rfl,h⟩
    ·have hn:l7 = false:=ready_not hi
     have hd6:l6 = true:=ready_dep hi rfl (k:=0) rfl rfl
     clear hi hlt
     subst hn hd6
     refine wpOp_inv rfl rfl (fun K hK=>?_)
     simp only [putsA,Act.put,stA,st0,st1,cond_true,cond_false] at h ⊢
     refine wp_value (.bool true) (by go_simp) ?_
     exact hK.out _ _ ⟨l0,l1,l2,l3,l4,l5,true,true,l8,l9,l10,l11,l12,l13,l14,l15,l16,l17,l18,l19,l20,l21,by kernel_rfl,by kernel_rfl,h⟩
    ·have hn:l8 = false:=ready_not hi
     have hd7:l7 = true:=ready_dep hi rfl (k:=0) rfl rfl
     clear hi hlt
     subst hn hd7
     simp only [putsA,Act.put,stA,st0,st1,cond_true,cond_false] at h ⊢
     refine wpOp_invW rfl (by rfl) (fun K hK=>?_)
     refine wp_value (.agg (C .u8 G).toArray) (exec_load_W 22 _ rfl rfl (h.rowo (k:=1) rfl) Tryz.underlying22 rfl (iB lG)) ?_
     exact hK.out _ _ ⟨l0,l1,l2,l3,l4,l5,l6,true,true,l9,l10,l11,l12,l13,l14,l15,l16,l17,l18,l19,l20,l21,by kernel_rfl,by kernel_rfl,h⟩
    ·have hn:l9 = false:=ready_not hi
     have hd7:l7 = true:=ready_dep hi rfl (k:=0) rfl rfl
     clear hi hlt
     subst hn hd7
     simp only [putsA,Act.put,stA,st0,st1,cond_true,cond_false] at h ⊢
     refine wpOp_invW rfl (by rfl) (fun K hK=>?_)
     refine wp_value (.slice ma mn mc) (by go_simp) ?_
     exact hK.out _ _ ⟨l0,l1,l2,l3,l4,l5,l6,true,l8,true,l10,l11,l12,l13,l14,l15,l16,l17,l18,l19,l20,l21,by kernel_rfl,by kernel_rfl,h⟩
    ·have hn:l10 = false:=ready_not hi
     have hd7:l7 = true:=ready_dep hi rfl (k:=0) rfl rfl
     clear hi hlt
     subst hn hd7
     simp only [putsA,Act.put,stA,st0,st1,cond_true,cond_false] at h ⊢
     refine wpOp_invW rfl (by rfl) (fun K hK=>?_)
     refine wp_value (.slice (some ⟨g6,0,none⟩) 63 64) (by go_simp) ?_
     exact hK.out _ _ ⟨l0,l1,l2,l3,l4,l5,l6,true,l8,l9,true,l11,l12,l13,l14,l15,l16,l17,l18,l19,l20,l21,by kernel_rfl,by kernel_rfl,h⟩
    ·have hn:l11 = false:=ready_not hi
     have hd8:l8 = true:=ready_dep hi rfl (k:=0) rfl rfl
     have hd9:l9 = true:=ready_dep hi rfl (k:=1) rfl rfl
     have hd10:l10 = true:=ready_dep hi rfl (k:=2) rfl rfl
     have hd7:l7 = true:=ready_dep hi rfl (k:=3) rfl rfl
     clear hi hlt
     subst hn hd8 hd9 hd10 hd7
     simp only [putsA,Act.put,stA,st0,st1,cond_true,cond_false] at h ⊢
     refine wpOp_invW rfl (by rfl) (fun K hK=>?_)
     go_simp
     refine callOK (cV2 _ _ _ (hv.below h.bel) (slN (h.rowo (k:=2) rfl) lS (by decide)) (hT.below h.bel)) h ?_
     clear h
     rintro _ wn rfl h
     exact hK.out _ _ ⟨l0,l1,l2,l3,l4,l5,l6,true,true,true,true,true,l12,l13,l14,l15,l16,l17,l18,l19,l20,l21,by kernel_rfl,by kernel_rfl,h⟩
    ·have hn:l12 = false:=ready_not hi
     have hd11:l11 = true:=ready_dep hi rfl (k:=0) rfl rfl
     have hd7:l7 = true:=ready_dep hi rfl (k:=1) rfl rfl
     clear hi hlt
     subst hn hd11 hd7
     simp only [putsA,Act.put,stA,st0,st1,cond_true,cond_false] at h ⊢
     refine wpOp_invW rfl (by rfl) (fun K hK=>?_)
     refine wp_value (.bool true) (by go_simp) ?_
     exact hK.out _ _ ⟨l0,l1,l2,l3,l4,l5,l6,true,l8,l9,l10,true,true,l13,l14,l15,l16,l17,l18,l19,l20,l21,by kernel_rfl,by kernel_rfl,h⟩
    ·have hn:l13 = false:=ready_not hi
     have hd7:l7 = true:=ready_dep hi rfl (k:=0) rfl rfl
     have hd12:l12 = true:=ready_dep hi rfl (k:=1) rfl rfl
     clear hi hlt
     subst hn hd7 hd12
     refine wpOp_inv rfl rfl (fun K hK=>?_)
     simp only [putsA,Act.put,stA,st0,st1,cond_true,cond_false] at h ⊢
     refine wp_value (.bool true) (by go_simp) ?_
     exact hK.out _ _ ⟨l0,l1,l2,l3,l4,l5,l6,true,l8,l9,l10,l11,true,true,l14,l15,l16,l17,l18,l19,l20,l21,by kernel_rfl,by kernel_rfl,h⟩
    ·have hn:l14 = false:=ready_not hi
     have hd13:l13 = true:=ready_dep hi rfl (k:=0) rfl rfl
     clear hi hlt
     subst hn hd13
     refine wpOp_inv rfl rfl (fun K hK=>?_)
     simp only [putsA,Act.put,stA,st0,st1,cond_true,cond_false] at h ⊢
     refine wp_value (.bool true) (by go_simp) ?_
     exact hK.out _ _ ⟨l0,l1,l2,l3,l4,l5,l6,l7,l8,l9,l10,l11,l12,true,true,l15,l16,l17,l18,l19,l20,l21,by kernel_rfl,by kernel_rfl,h⟩
    ·have hn:l15 = false:=ready_not hi
     have hd14:l14 = true:=ready_dep hi rfl (k:=0) rfl rfl
     clear hi hlt
     subst hn hd14
     simp only [putsA,Act.put,stA,st0,st1,cond_true,cond_false] at h ⊢
     refine wpOp_invW rfl (by rfl) (fun K hK=>?_)
     refine wp_value (.agg (C .u8 G).toArray) (exec_load_W 22 _ rfl rfl (h.rowo (k:=1) rfl) Tryz.underlying22 rfl (iB lG)) ?_
     exact hK.out _ _ ⟨l0,l1,l2,l3,l4,l5,l6,l7,l8,l9,l10,l11,l12,l13,true,true,l16,l17,l18,l19,l20,l21,by kernel_rfl,by kernel_rfl,h⟩
    ·have hn:l16 = false:=ready_not hi
     have hd14:l14 = true:=ready_dep hi rfl (k:=0) rfl rfl
     clear hi hlt
     subst hn hd14
     simp only [putsA,Act.put,stA,st0,st1,cond_true,cond_false] at h ⊢
     refine wpOp_invW rfl (by rfl) (fun K hK=>?_)
     refine wp_value (.slice ma mn mc) (by go_simp) ?_
     exact hK.out _ _ ⟨l0,l1,l2,l3,l4,l5,l6,l7,l8,l9,l10,l11,l12,l13,true,l15,true,l17,l18,l19,l20,l21,by kernel_rfl,by kernel_rfl,h⟩
    ·have hn:l17 = false:=ready_not hi
     have hd14:l14 = true:=ready_dep hi rfl (k:=0) rfl rfl
     clear hi hlt
     subst hn hd14
     simp only [putsA,Act.put,stA,st0,st1,cond_true,cond_false] at h ⊢
     refine wpOp_invW rfl (by rfl) (fun K hK=>?_)
     refine wp_value (.slice (some ⟨gv,0,none⟩) 65 cap) (by go_simp) ?_
     exact hK.out _ _ ⟨l0,l1,l2,l3,l4,l5,l6,l7,l8,l9,l10,l11,l12,l13,true,l15,l16,true,l18,l19,l20,l21,by kernel_rfl,by kernel_rfl,h⟩
    ·have hn:l18 = false:=ready_not hi
     have hd15:l15 = true:=ready_dep hi rfl (k:=0) rfl rfl
     have hd16:l16 = true:=ready_dep hi rfl (k:=1) rfl rfl
     have hd17:l17 = true:=ready_dep hi rfl (k:=2) rfl rfl
     have hd14:l14 = true:=ready_dep hi rfl (k:=3) rfl rfl
     clear hi hlt
     subst hn hd15 hd16 hd17 hd14
     simp only [putsA,Act.put,stA,st0,st1,cond_true,cond_false] at h ⊢
     refine wpOp_invW rfl (by rfl) (fun K hK=>?_)
     go_simp
     refine callOK (cV3 _ _ _ (hv.below h.bel) (row_sl (h.rowo (k:=4) rfl) lS2 hc1 hc2) (hT.below h.bel)) h ?_
     clear h
     rintro _ wn rfl h
     exact hK.out _ _ ⟨l0,l1,l2,l3,l4,l5,l6,l7,l8,l9,l10,l11,l12,l13,true,true,true,true,true,l19,l20,l21,by kernel_rfl,by kernel_rfl,h⟩
    ·have hn:l19 = false:=ready_not hi
     have hd18:l18 = true:=ready_dep hi rfl (k:=0) rfl rfl
     have hd14:l14 = true:=ready_dep hi rfl (k:=1) rfl rfl
     clear hi hlt
     subst hn hd18 hd14
     simp only [putsA,Act.put,stA,st0,st1,cond_true,cond_false] at h ⊢
     refine wpOp_invW rfl (by rfl) (fun K hK=>?_)
     refine wp_value (.bool true) (by go_simp) ?_
     exact hK.out _ _ ⟨l0,l1,l2,l3,l4,l5,l6,l7,l8,l9,l10,l11,l12,l13,true,l15,l16,l17,true,true,l20,l21,by kernel_rfl,by kernel_rfl,h⟩
    ·have hn:l20 = false:=ready_not hi
     have hd14:l14 = true:=ready_dep hi rfl (k:=0) rfl rfl
     have hd19:l19 = true:=ready_dep hi rfl (k:=1) rfl rfl
     clear hi hlt
     subst hn hd14 hd19
     refine wpOp_inv rfl rfl (fun K hK=>?_)
     simp only [putsA,Act.put,stA,st0,st1,cond_true,cond_false] at h ⊢
     refine wp_value (.bool true) (by go_simp) ?_
     exact hK.out _ _ ⟨l0,l1,l2,l3,l4,l5,l6,l7,l8,l9,l10,l11,l12,l13,true,l15,l16,l17,l18,true,true,l21,by kernel_rfl,by kernel_rfl,h⟩
    ·have hn:l21 = false:=ready_not hi
     have hd20:l20 = true:=ready_dep hi rfl (k:=0) rfl rfl
     clear hi hlt
     subst hn hd20
     refine wpOp_inv rfl rfl (fun K hK=>?_)
     simp only [putsA,Act.put,stA,st0,st1,cond_true,cond_false] at h ⊢
     refine wp_value (.bool true) (by go_simp) ?_
     exact hK.out _ _ ⟨l0,l1,l2,l3,l4,l5,l6,l7,l8,l9,l10,l11,l12,l13,l14,l15,l16,l17,l18,l19,true,true,by kernel_rfl,by kernel_rfl,h⟩
   case rest =>
    clear h
    intro l b w' hI hr
    obtain ⟨l0,l1,l2,l3,l4,l5,l6,l7,l8,l9,l10,l11,l12,l13,l14,l15,l16,l17,l18,l19,l20,l21,rfl,rfl,h⟩:=hI
    have hd:l0 = true:=ready_nil (i:=0) hr rfl (by rfl)
    subst hd
    have hd:l1 = true:=ready_nil (i:=1) hr rfl (by rfl)
    subst hd
    have hd:l2 = true:=ready_nil (i:=2) hr rfl (by rfl)
    subst hd
    have hd:l3 = true:=ready_nil (i:=3) hr rfl (by rfl)
    subst hd
    have hd:l4 = true:=ready_nil (i:=4) hr rfl (by rfl)
    subst hd
    have hd:l5 = true:=ready_nil (i:=5) hr rfl (by rfl)
    subst hd
    have hd:l6 = true:=ready_nil (i:=6) hr rfl (by rfl)
    subst hd
    have hd:l7 = true:=ready_nil (i:=7) hr rfl (by rfl)
    subst hd
    have hd:l8 = true:=ready_nil (i:=8) hr rfl (by rfl)
    subst hd
    have hd:l9 = true:=ready_nil (i:=9) hr rfl (by rfl)
    subst hd
    have hd:l10 = true:=ready_nil (i:=10) hr rfl (by rfl)
    subst hd
    have hd:l11 = true:=ready_nil (i:=11) hr rfl (by rfl)
    subst hd
    have hd:l12 = true:=ready_nil (i:=12) hr rfl (by rfl)
    subst hd
    have hd:l13 = true:=ready_nil (i:=13) hr rfl (by rfl)
    subst hd
    have hd:l14 = true:=ready_nil (i:=14) hr rfl (by rfl)
    subst hd
    have hd:l15 = true:=ready_nil (i:=15) hr rfl (by rfl)
    subst hd
    have hd:l16 = true:=ready_nil (i:=16) hr rfl (by rfl)
    subst hd
    have hd:l17 = true:=ready_nil (i:=17) hr rfl (by rfl)
    subst hd
    have hd:l18 = true:=ready_nil (i:=18) hr rfl (by rfl)
    subst hd
    have hd:l19 = true:=ready_nil (i:=19) hr rfl (by rfl)
    subst hd
    have hd:l20 = true:=ready_nil (i:=20) hr rfl (by rfl)
    subst hd
    have hd:l21 = true:=ready_nil (i:=21) hr rfl (by rfl)
    subst hd
    clear hr
    simp only [putsA,Act.put,stA,st0,st1,cond_true]
    replace h:Fr w w' [(w.heap.size,22,C .u8 sd),(g5,22,C .u8 G),(g6,26,C .u8 S),(g21,5,C .u8 [0]),(gv,5,C .u8 (S ++ [0]) ++ rest)]:=h
    go_wp2
    go_ret
    exact ⟨rfl,h.bel⟩
set_option maxRecDepth 100000 in
theorem lifted (os:Os) (started:os.Started) (H:Type) (enc:TypeId × Value → H) :
  ReturnsInHanded {} Tryz.checked os 5 .any (fun w args=>(Rows.eddsaSignsSpec.pre enc Tryz.prog Tryz.f5 [] false w args ∧ laidMetH Tryz.prog F.laid1 w) ∧ sizedMet enc Tryz.prog Tryz.f5 (OpenSpec.ofChange Rows.eddsaSignsSpec) false w args) (Rows.eddsaSignsSpec.post enc Tryz.prog Tryz.f5 false true false false):=by
 refine returnsInHanded_of_change_and (C:=Tryz.checked) (X:=fun w _=>laidMetH Tryz.prog F.laid1 w) (fun _ _ _ hh h=>h.of_heap hh) own started (by kernel_rfl) Tryz.func5
  (ChangeSpec.witness_shaped (enc:=enc) (C:=Tryz.checked) (os:=os) (X:=fun w _=>laidMetH Tryz.prog F.laid1 w) false (World.doorLaid Tryz.prog 400 os) #[.agg (C .u8 (Z 32)).toArray,.slice none 0 0] 8 rfl (World.shaped_of_RefB (by kernel_rfl) (by kernel_rfl)) (by kernel_rfl) (by kernel_rfl) (by kernel_rfl) (F.door_met os _)) ?_
 intro W base args ds gs before hval0 hW _ _ hLd _
 have hval:∀ (j:Nat) t v,Tryz.f5.params[j]? = some t → args[j]? = some v → Value.okWide Tryz.prog W .any base t v:=hval0
 have hW':=hW
 obtain ⟨p,q,hA0,hV,rfl,hfz,hnd⟩:=hW
 have hA:DataW.TrodAll enc Tryz.prog W 0 (fun _=>true) true Tryz.f5.params.toList args.toList ds p:=hA0
 rw [Tryz.params5] at hA hval
 obtain ⟨v0,vs0,d0,ds0,p0,q0,hargs,rfl,rfl,h0,r0⟩:=trodAll_cons hA
 obtain ⟨v1,vs1,d1,ds1,p1,q1,rfl,rfl,rfl,h1,r1⟩:=trodAll_cons r0
 obtain ⟨rfl,rfl,rfl⟩:=trodAll_nil r1
 obtain rfl:args = #[v0,v1]:=by cases args;simp_all
 obtain ⟨rfl,rfl⟩:=trodVars_none hV
 obtain ⟨a1,len1,cap1,rfl⟩:=okWide_slice Tryz.underlying23 (hval 1 23 v1 rfl rfl)
 have k0:=h0
 have lt0:∀ x ∈ p0,x.block < W.heap.size:=by obtain ⟨m,hm⟩:=k0;exact DataW.trod_lt m _ _ _ hm
 have k1:=h1
 have lt1:∀ x ∈ p1,x.block < W.heap.size:=by obtain ⟨m,hm⟩:=k1;exact DataW.trod_lt m _ _ _ hm
 obtain ⟨z0,rfl,hl0,hz0⟩:=open_array Tryz.underlying22 Tryz.underlying5 (by kernel_rfl) (by kernel_rfl) (hval 0 22 v0 rfl rfl) h0
 obtain ⟨n0,e0,l0,b0⟩:=arr_bytes hz0
 obtain ⟨z1,w1⟩:∃ zs,IsRow .u8 W a1 len1 cap1 zs:=by
  obtain ⟨fuel,hf⟩:=h1
  rcases open_ints Tryz.underlying23 Tryz.underlying5 (by kernel_rfl) hf with ⟨hcs,_⟩ | ⟨x,l,c,zs,hcs,_,hl,hm,hz,_,hcell,hwz⟩
  ·simp [Value.cells] at hcs
   obtain ⟨rfl,rfl,rfl⟩:=hcs
   exact ⟨[],.inl ⟨rfl,rfl,rfl,rfl⟩⟩
  ·simp [Value.cells] at hcs
   obtain ⟨rfl,rfl,rfl⟩:=hcs
   exact ⟨zs,.inr ⟨_,rfl,hl,hm,by simpa using hz,hcell,hwz⟩⟩
 obtain ⟨n1,s1,l1,b1⟩:=w1.bytes
 rw [e0] at hW' ⊢
 rw [e0] at k0
 clear hA0 hval0
 refine (walk n0 b0 (l0.trans hl0) a1 len1 cap1 n1 b1 l1 W s1 (F.of_laid hLd)).mono fun e W' ⟨he,bel⟩=>?_
 subst he
 exact ⟨_,rfl,_,_,_,[],_,[],hW',trodAll_mk1 (shut_bool Tryz.underlying4 _),(trodAll_cons_mk (Below.trod laidOut (by kernel_rfl) (of_decide_eq_true (by kernel_rfl)) k0 bel lt0) (trodAll_cons_mk (Below.trod laidOut (by kernel_rfl) (of_decide_eq_true (by kernel_rfl)) k1 bel lt1) trodAll_mk0)),rfl,bel.frame _,fun h=>by cases h⟩
theorem over:Rows.eddsaSignsRow.holds Tryz.pinned (OpenSpec.ofChange Rows.eddsaSignsSpec) :=
 OpenClaim.holds_of_wide 5 Tryz.f5 rfl rfl rfl rfl rfl rfl rfl ⟨rfl,rfl,rfl,rfl,rfl⟩ rfl rfl rfl rfl rfl (by kernel_rfl) Tryz.func5 (by kernel_rfl)
  (of_decide_eq_true (by kernel_rfl)) (by unfold Func.isWrapper;first | (rw [if_pos (by decide +kernel)];kernel_rfl) | (rw [if_neg (by decide +kernel)];exact ⟨rfl,rfl⟩))
  (fun os started H enc _=>lifted os started H enc)
end Go.Proofs.YtmjimilhomabfaaGreatDoor.eddsaSigns
namespace Go.Proofs.YtmjimilhomabfaaGreatDoor
theorem eddsaSigns_proved:Rows.EddsaSignsCardSaid :=
 Claim7.holds_tied_plain_at .later [] [.data, .data, .data, .data, .data, .data, .data, .data, .data] true (true, "32266f3c2c1da12c4b3768ac40d32ab501c6aa104d3de57cff571e22d9757302") false
  eddsaSigns.over (fun _ h=>by cases h) (by kernel_rfl) (fun _ h=>by cases h) eddsaSigns_row_tie rfl ⟨rfl,rfl⟩ (by kernel_rfl) rfl
  (fun f fn hf hfn=>by
   obtain rfl : f = 5 := Option.some.inj ((show Tryz.prog.funcNamed "affiant/affiantlaw14.EddsaSigns" = some 5 by kernel_rfl).symm.trans hf) |>.symm
   obtain rfl:fn = Tryz.f5:=(Option.some.inj (Tryz.func5.symm.trans hfn)).symm
   exact ⟨by kernel_rfl,fun j t ht=>by
    rw [Tryz.params5] at ht
    have hm:t ∈ ([22,23]:List TypeId):=by simpa using Array.mem_of_getElem? ht
    have hall:(([22,23]:List TypeId).all fun u=>!Tryz.prog.wantsStandIn u) = true:=by kernel_rfl
    exact (show Tryz.prog.wantsStandIn t = false by simpa using List.all_eq_true.1 hall t hm)⟩)
  (by kernel_rfl)
end Go.Proofs.YtmjimilhomabfaaGreatDoor
