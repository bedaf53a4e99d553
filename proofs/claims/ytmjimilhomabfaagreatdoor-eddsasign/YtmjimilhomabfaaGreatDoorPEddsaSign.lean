/-
 Proved: for every seed and message the law EddsaSign returns true, and its arguments read as before. No conditions of ours; the packages' variables start as their initialisers lay them, as the given card ties it.
-/
import Derived.Test.YtmjimilhomabfaaGreatDoorRows
import Derived.Test.YtmjimilhomabfaaGreatDoorCards
import Derived.Test.YtmjimilhomabfaaGreatDoorTie
import Derived.SevenTiedAt
import Derived.Test.YtmjimilhomabfaaGreatDoorEsN
import Derived.Test.YtmjimilhomabfaaGreatDoorEsU
import Derived.WalkKit
import Derived.ProofKit
import Derived.OpenShut
import Derived.ShutString
import Derived.ChangeOld
import Derived.Below
namespace Go.Proofs.YtmjimilhomabfaaGreatDoor.eddsaSign
open Go.ChangeShapes Go.WideShapes Go.ChangeAt Go.RowKit
open F
set_option linter.unusedVariables false
set_option maxRecDepth 10000
theorem own:ownKnob Tryz.prog.godebug = none:=by kernel_rfl
theorem laidOut:laidOutB Tryz.prog = true:=by kernel_rfl
theorem exec_str {w:World} {o:Oper} {ev:Operand → Value} (ty tz:TypeId) (x:Operand) (ho:o.op = .convert 23 9 x) {v:Value} {xs:List Nat} {st:ByteArray} (hx:ev x = v) (hs:SlV w v (C .u8 xs)) (hst:strOfNums (xs.map Int.ofNat) = st):(execOp ev o).run Tryz.prog w = .ok (.value (.string st)) w:=by
 unfold execOp
 have h:=run_string_C w 23 9 5 Tryz.underlying23 Tryz.underlying5 Tryz.underlying9 v xs hs
 rw [hst] at h
 simp [ho,hx,h]
theorem eq64 (w:World) (xs:List Nat) (hx:xs.length = 64):(Op.equalIn 10000 26 (.agg (C .u8 xs).toArray) (.agg (C .u8 xs).toArray)).run Tryz.prog w = .ok true w:=by
 have h:=run_equal_C (P:=Tryz.prog) w 9998 (q:=.u8) (t:=26) (e:=5) (n:=64) Tryz.underlying26 (by kernel_rfl) Tryz.underlying5 (by cases hi:Tryz.prog.info? 5 with | none=>exact absurd (sl8) (by rw [hi];exact fun h=>by cases h) | some i=>exact ⟨i,rfl⟩) (by kernel_rfl) xs xs hx hx
 rw [decide_eq_true rfl] at h
 exact h
set_option maxHeartbeats 4000000 in
theorem walk (sd:List Nat) (os:Lo 256 sd) (ls:sd.length = 32) (ma:Option Addr) (mn mc:Nat) (m:List Nat) (om:Lo 256 m) (lm:m.length = mn) (w:World) (hv:SlV w (.slice ma mn mc) (C .u8 m)) (hT:TS w) :
  Calls Tryz.prog 3 #[.agg (C .u8 sd).toArray,.slice ma mn mc] w fun e w'=>e = .returned (.bool true) ∧ Below w.heap.size w w':=by
 have h:=Fr.one w 22 (C .u8 sd)
 by_cases hlen:mn ≤ 300
 case neg =>
  have d:decide (300 < (mn:Int)) = true:=decide_eq_true (by omega)
  go_enter Tryz.func3,Tryz.ntmps3
  go_wp2_with fail
  refine callOK (alive14_true _ (hT.below h.bel)) h ?_
  clear h
  rintro _ wn rfl h
  go_wp2
  go_ret
  exact ⟨rfl,h.bel⟩
 case pos =>
  have d:decide (300 < (mn:Int)) = false:=decide_eq_false (by omega)
  obtain ⟨G,eG,lG,oG,cG⟩:=key_let sd os ls
  have cG2:=fun w=>key14_any sd os ls w
  rw [eG.out] at cG2
  obtain ⟨S,eS,lS,oS,cS⟩:=sign_let sd os ls m om (by omega)
  have cS2:=fun w hv=>sign14_any sd os ls (.slice ma mn mc) m om (by omega) w hv
  rw [eS.out] at cS2
  have hEq:∀ w,(Op.equalIn 10000 22 (.agg (C .u8 G).toArray) (.agg (C .u8 G).toArray)).run Tryz.prog w = .ok true w:=fun w=>by rw [eq32 w G G lG lG];simp
  have hEq2:=fun w=>eq64 w S lS
  obtain ⟨st,hst⟩:∃ st,strOfNums (m.map Int.ofNat) = st:=⟨_,rfl⟩
  have HSt:=Away.mk hst
  clear eG eS hst
  have hO:=Ow.empty h 5
  have hm0:=hv.below hO.h.bel
  rw [alloc_size] at hO
  go_enter Tryz.func3,Tryz.ntmps3
  go_upto_region 4 with (at_builtin;refine wpList_append_at rfl (.tmp 10) (.tmp 11) 23 rfl w.heap.size 5 _ 1 Tryz.underlying23 S3.inf8 rfl _ 0 [] rfl hO.o _ (C .u8 m) rfl hm0 (C_one _ _) (by rw [C_length];unfold maxLen;omega) (by rw [C_length];omega) hO.h.bel.size ?_;intro v1 w1 ho1 hg1 hw1)
  replace hO:=hO.app ho1 hg1 hw1
  have hbox:=hO.h.row (i:=0) rfl
  have hm1:=SlV.ofOwn hO.o
  rw [List.nil_append] at hm1
  have hb0:=hO.h.bel
  have hm:=hv.below hb0
  replace hT:=hT.below hb0
  have hst:=HSt.out
  clear ho1 hg1 hw1 hO h hm0 hv
  have h:=Fr.start w1
  try simp only [Act.put,stA,st0,st1]
  replace h:=h.drew
  refine wp_region_inv (by kernel_rfl) (fun a0 l b w'=>∃ (l0 l1 l2 l3 l4 l5 l6 l7 l8 l9 l10 l11 l12 l13 l14 l15 l16 l17 l18 l19 l20 l21 l22 l23 l24:Bool) ,l = #[l0,l1,l2,l3,l4,l5,l6,l7,l8,l9,l10,l11,l12,l13,l14,l15,l16,l17,l18,l19,l20,l21,l22,l23,l24] ∧ b = putsA a0 [(13,l0,.bool true,undef),(14,l1,.bool true,undef),(15,l2,.agg (C .u8 sd).toArray,undef),(16,l3,.agg (C .u8 G).toArray,undef),(17,l4,.agg (C .u8 sd).toArray,undef),(18,l5,.agg (C .u8 G).toArray,undef),(19,l6,.bool true,undef),(20,l7,.bool true,undef),(21,l8,.bool true,undef),(22,l9,.agg (C .u8 sd).toArray,undef),(23,l10,v1,undef),(24,l11,.agg (C .u8 S).toArray,undef),(25,l12,.agg (C .u8 sd).toArray,undef),(26,l13,.slice ma mn mc,undef),(27,l14,.agg (C .u8 S).toArray,undef),(28,l15,.bool true,undef),(29,l16,.bool true,undef),(30,l17,.bool true,undef),(31,l18,v1,undef),(32,l19,.string st,undef),(33,l20,.slice ma mn mc,undef),(34,l21,.string st,undef),(35,l22,.bool true,undef),(36,l23,.bool true,undef),(4,l24,.bool true,.bool false)] ∧ Fr w1 w' (opt [])) ?start ?step ?rest
  case start=>exact ⟨false,false,false,false,false,false,false,false,false,false,false,false,false,false,false,false,false,false,false,false,false,false,false,false,false,by kernel_rfl,by kernel_rfl,h⟩
  case step =>
   clear h
   intro l b w' hI i hi
   obtain ⟨l0,l1,l2,l3,l4,l5,l6,l7,l8,l9,l10,l11,l12,l13,l14,l15,l16,l17,l18,l19,l20,l21,l22,l23,l24,rfl,rfl,h⟩:=hI
   have hlt:i < 25:=ready_lt hi
   obtain rfl | rfl | rfl | rfl | rfl | rfl | rfl | rfl | rfl | rfl | rfl | rfl | rfl | rfl | rfl | rfl | rfl | rfl | rfl | rfl | rfl | rfl | rfl | rfl | rfl:=(by omega:i = 0 ∨ i = 1 ∨ i = 2 ∨ i = 3 ∨ i = 4 ∨ i = 5 ∨ i = 6 ∨ i = 7 ∨ i = 8 ∨ i = 9 ∨ i = 10 ∨ i = 11 ∨ i = 12 ∨ i = 13 ∨ i = 14 ∨ i = 15 ∨ i = 16 ∨ i = 17 ∨ i = 18 ∨ i = 19 ∨ i = 20 ∨ i = 21 ∨ i = 22 ∨ i = 23 ∨ i = 24)
   ·have hn:l0 = false:=ready_not hi
    clear hi hlt
    subst hn
    refine wpOp_inv rfl rfl (fun K hK=>?_)
    simp only [putsA,Act.put,stA,st0,st1,cond_false] at h ⊢
    go_simp
    refine callOK (alive14_true _ (hT.below h.bel)) h ?_
    clear h
    rintro _ wn rfl h
    exact hK.out _ _ ⟨true,l1,l2,l3,l4,l5,l6,l7,l8,l9,l10,l11,l12,l13,l14,l15,l16,l17,l18,l19,l20,l21,l22,l23,l24,by kernel_rfl,by kernel_rfl,h⟩
   ·have hn:l1 = false:=ready_not hi
    have hd0:l0 = true:=ready_dep hi rfl (k:=0) rfl rfl
    clear hi hlt
    subst hn hd0
    refine wpOp_inv rfl rfl (fun K hK=>?_)
    simp only [putsA,Act.put,stA,st0,st1,cond_true,cond_false] at h ⊢
    refine wp_value (.bool true) (by go_simp) ?_
    exact hK.out _ _ ⟨true,true,l2,l3,l4,l5,l6,l7,l8,l9,l10,l11,l12,l13,l14,l15,l16,l17,l18,l19,l20,l21,l22,l23,l24,by kernel_rfl,by kernel_rfl,h⟩
   ·have hn:l2 = false:=ready_not hi
    have hd1:l1 = true:=ready_dep hi rfl (k:=0) rfl rfl
    clear hi hlt
    subst hn hd1
    simp only [putsA,Act.put,stA,st0,st1,cond_true,cond_false] at h ⊢
    refine wpOp_invW rfl (by rfl) (fun K hK=>?_)
    refine wp_value (.agg (C .u8 sd).toArray) (exec_load_W 22 _ rfl rfl (hbox.belowS h.bel) Tryz.underlying22 rfl (iB ls)) ?_
    exact hK.out _ _ ⟨l0,true,true,l3,l4,l5,l6,l7,l8,l9,l10,l11,l12,l13,l14,l15,l16,l17,l18,l19,l20,l21,l22,l23,l24,by kernel_rfl,by kernel_rfl,h⟩
   ·have hn:l3 = false:=ready_not hi
    have hd2:l2 = true:=ready_dep hi rfl (k:=0) rfl rfl
    have hd1:l1 = true:=ready_dep hi rfl (k:=1) rfl rfl
    clear hi hlt
    subst hn hd2 hd1
    simp only [putsA,Act.put,stA,st0,st1,cond_true,cond_false] at h ⊢
    refine wpOp_invW rfl (by rfl) (fun K hK=>?_)
    go_simp
    refine callOK (cG _ (hT.below h.bel)) h ?_
    clear h
    rintro _ wn rfl h
    exact hK.out _ _ ⟨l0,true,true,true,l4,l5,l6,l7,l8,l9,l10,l11,l12,l13,l14,l15,l16,l17,l18,l19,l20,l21,l22,l23,l24,by kernel_rfl,by kernel_rfl,h⟩
   ·have hn:l4 = false:=ready_not hi
    have hd1:l1 = true:=ready_dep hi rfl (k:=0) rfl rfl
    clear hi hlt
    subst hn hd1
    simp only [putsA,Act.put,stA,st0,st1,cond_true,cond_false] at h ⊢
    refine wpOp_invW rfl (by rfl) (fun K hK=>?_)
    refine wp_value (.agg (C .u8 sd).toArray) (exec_load_W 22 _ rfl rfl (hbox.belowS h.bel) Tryz.underlying22 rfl (iB ls)) ?_
    exact hK.out _ _ ⟨l0,true,l2,l3,true,l5,l6,l7,l8,l9,l10,l11,l12,l13,l14,l15,l16,l17,l18,l19,l20,l21,l22,l23,l24,by kernel_rfl,by kernel_rfl,h⟩
   ·have hn:l5 = false:=ready_not hi
    have hd4:l4 = true:=ready_dep hi rfl (k:=0) rfl rfl
    have hd1:l1 = true:=ready_dep hi rfl (k:=2) rfl rfl
    clear hi hlt
    subst hn hd4 hd1
    simp only [putsA,Act.put,stA,st0,st1,cond_true,cond_false] at h ⊢
    refine wpOp_invW rfl (by rfl) (fun K hK=>?_)
    go_simp
    refine callOK (cG2 _) h ?_
    clear h
    rintro _ wn rfl h
    exact hK.out _ _ ⟨l0,true,l2,l3,true,true,l6,l7,l8,l9,l10,l11,l12,l13,l14,l15,l16,l17,l18,l19,l20,l21,l22,l23,l24,by kernel_rfl,by kernel_rfl,h⟩
   ·have hn:l6 = false:=ready_not hi
    have hd3:l3 = true:=ready_dep hi rfl (k:=0) rfl rfl
    have hd5:l5 = true:=ready_dep hi rfl (k:=1) rfl rfl
    have hd1:l1 = true:=ready_dep hi rfl (k:=2) rfl rfl
    clear hi hlt
    subst hn hd3 hd5 hd1
    simp only [putsA,Act.put,stA,st0,st1,cond_true,cond_false] at h ⊢
    refine wpOp_invW rfl (by rfl) (fun K hK=>?_)
    refine wp_value (.bool true) (by go_simp) ?_
    exact hK.out _ _ ⟨l0,true,l2,true,l4,true,true,l7,l8,l9,l10,l11,l12,l13,l14,l15,l16,l17,l18,l19,l20,l21,l22,l23,l24,by kernel_rfl,by kernel_rfl,h⟩
   ·have hn:l7 = false:=ready_not hi
    have hd1:l1 = true:=ready_dep hi rfl (k:=0) rfl rfl
    have hd6:l6 = true:=ready_dep hi rfl (k:=1) rfl rfl
    clear hi hlt
    subst hn hd1 hd6
    refine wpOp_inv rfl rfl (fun K hK=>?_)
    simp only [putsA,Act.put,stA,st0,st1,cond_true,cond_false] at h ⊢
    refine wp_value (.bool true) (by go_simp) ?_
    exact hK.out _ _ ⟨l0,true,l2,l3,l4,l5,true,true,l8,l9,l10,l11,l12,l13,l14,l15,l16,l17,l18,l19,l20,l21,l22,l23,l24,by kernel_rfl,by kernel_rfl,h⟩
   ·have hn:l8 = false:=ready_not hi
    have hd7:l7 = true:=ready_dep hi rfl (k:=0) rfl rfl
    clear hi hlt
    subst hn hd7
    refine wpOp_inv rfl rfl (fun K hK=>?_)
    simp only [putsA,Act.put,stA,st0,st1,cond_true,cond_false] at h ⊢
    refine wp_value (.bool true) (by go_simp) ?_
    exact hK.out _ _ ⟨l0,l1,l2,l3,l4,l5,l6,true,true,l9,l10,l11,l12,l13,l14,l15,l16,l17,l18,l19,l20,l21,l22,l23,l24,by kernel_rfl,by kernel_rfl,h⟩
   ·have hn:l9 = false:=ready_not hi
    have hd8:l8 = true:=ready_dep hi rfl (k:=0) rfl rfl
    clear hi hlt
    subst hn hd8
    simp only [putsA,Act.put,stA,st0,st1,cond_true,cond_false] at h ⊢
    refine wpOp_invW rfl (by rfl) (fun K hK=>?_)
    refine wp_value (.agg (C .u8 sd).toArray) (exec_load_W 22 _ rfl rfl (hbox.belowS h.bel) Tryz.underlying22 rfl (iB ls)) ?_
    exact hK.out _ _ ⟨l0,l1,l2,l3,l4,l5,l6,l7,true,true,l10,l11,l12,l13,l14,l15,l16,l17,l18,l19,l20,l21,l22,l23,l24,by kernel_rfl,by kernel_rfl,h⟩
   ·have hn:l10 = false:=ready_not hi
    have hd8:l8 = true:=ready_dep hi rfl (k:=0) rfl rfl
    clear hi hlt
    subst hn hd8
    simp only [putsA,Act.put,stA,st0,st1,cond_true,cond_false] at h ⊢
    refine wpOp_invW rfl (by rfl) (fun K hK=>?_)
    refine wp_value (v1) (by go_simp) ?_
    exact hK.out _ _ ⟨l0,l1,l2,l3,l4,l5,l6,l7,true,l9,true,l11,l12,l13,l14,l15,l16,l17,l18,l19,l20,l21,l22,l23,l24,by kernel_rfl,by kernel_rfl,h⟩
   ·have hn:l11 = false:=ready_not hi
    have hd9:l9 = true:=ready_dep hi rfl (k:=0) rfl rfl
    have hd10:l10 = true:=ready_dep hi rfl (k:=1) rfl rfl
    have hd8:l8 = true:=ready_dep hi rfl (k:=2) rfl rfl
    clear hi hlt
    subst hn hd9 hd10 hd8
    simp only [putsA,Act.put,stA,st0,st1,cond_true,cond_false] at h ⊢
    refine wpOp_invW rfl (by rfl) (fun K hK=>?_)
    go_simp
    refine callOK (cS _ _ (hm1.below h.bel) (hT.below h.bel)) h ?_
    clear h
    rintro _ wn rfl h
    exact hK.out _ _ ⟨l0,l1,l2,l3,l4,l5,l6,l7,true,true,true,true,l12,l13,l14,l15,l16,l17,l18,l19,l20,l21,l22,l23,l24,by kernel_rfl,by kernel_rfl,h⟩
   ·have hn:l12 = false:=ready_not hi
    have hd8:l8 = true:=ready_dep hi rfl (k:=0) rfl rfl
    clear hi hlt
    subst hn hd8
    simp only [putsA,Act.put,stA,st0,st1,cond_true,cond_false] at h ⊢
    refine wpOp_invW rfl (by rfl) (fun K hK=>?_)
    refine wp_value (.agg (C .u8 sd).toArray) (exec_load_W 22 _ rfl rfl (hbox.belowS h.bel) Tryz.underlying22 rfl (iB ls)) ?_
    exact hK.out _ _ ⟨l0,l1,l2,l3,l4,l5,l6,l7,true,l9,l10,l11,true,l13,l14,l15,l16,l17,l18,l19,l20,l21,l22,l23,l24,by kernel_rfl,by kernel_rfl,h⟩
   ·have hn:l13 = false:=ready_not hi
    have hd8:l8 = true:=ready_dep hi rfl (k:=0) rfl rfl
    clear hi hlt
    subst hn hd8
    simp only [putsA,Act.put,stA,st0,st1,cond_true,cond_false] at h ⊢
    refine wpOp_invW rfl (by rfl) (fun K hK=>?_)
    refine wp_value (.slice ma mn mc) (by go_simp) ?_
    exact hK.out _ _ ⟨l0,l1,l2,l3,l4,l5,l6,l7,true,l9,l10,l11,l12,true,l14,l15,l16,l17,l18,l19,l20,l21,l22,l23,l24,by kernel_rfl,by kernel_rfl,h⟩
   ·have hn:l14 = false:=ready_not hi
    have hd12:l12 = true:=ready_dep hi rfl (k:=0) rfl rfl
    have hd13:l13 = true:=ready_dep hi rfl (k:=1) rfl rfl
    have hd8:l8 = true:=ready_dep hi rfl (k:=3) rfl rfl
    clear hi hlt
    subst hn hd12 hd13 hd8
    simp only [putsA,Act.put,stA,st0,st1,cond_true,cond_false] at h ⊢
    refine wpOp_invW rfl (by rfl) (fun K hK=>?_)
    go_simp
    refine callOK (cS2 _ (hm.below h.bel)) h ?_
    clear h
    rintro _ wn rfl h
    exact hK.out _ _ ⟨l0,l1,l2,l3,l4,l5,l6,l7,true,l9,l10,l11,true,true,true,l15,l16,l17,l18,l19,l20,l21,l22,l23,l24,by kernel_rfl,by kernel_rfl,h⟩
   ·have hn:l15 = false:=ready_not hi
    have hd11:l11 = true:=ready_dep hi rfl (k:=0) rfl rfl
    have hd14:l14 = true:=ready_dep hi rfl (k:=1) rfl rfl
    have hd8:l8 = true:=ready_dep hi rfl (k:=2) rfl rfl
    clear hi hlt
    subst hn hd11 hd14 hd8
    simp only [putsA,Act.put,stA,st0,st1,cond_true,cond_false] at h ⊢
    refine wpOp_invW rfl (by rfl) (fun K hK=>?_)
    refine wp_value (.bool true) (by go_simp) ?_
    exact hK.out _ _ ⟨l0,l1,l2,l3,l4,l5,l6,l7,true,l9,l10,true,l12,l13,true,true,l16,l17,l18,l19,l20,l21,l22,l23,l24,by kernel_rfl,by kernel_rfl,h⟩
   ·have hn:l16 = false:=ready_not hi
    have hd8:l8 = true:=ready_dep hi rfl (k:=0) rfl rfl
    have hd15:l15 = true:=ready_dep hi rfl (k:=1) rfl rfl
    clear hi hlt
    subst hn hd8 hd15
    refine wpOp_inv rfl rfl (fun K hK=>?_)
    simp only [putsA,Act.put,stA,st0,st1,cond_true,cond_false] at h ⊢
    refine wp_value (.bool true) (by go_simp) ?_
    exact hK.out _ _ ⟨l0,l1,l2,l3,l4,l5,l6,l7,true,l9,l10,l11,l12,l13,l14,true,true,l17,l18,l19,l20,l21,l22,l23,l24,by kernel_rfl,by kernel_rfl,h⟩
   ·have hn:l17 = false:=ready_not hi
    have hd16:l16 = true:=ready_dep hi rfl (k:=0) rfl rfl
    clear hi hlt
    subst hn hd16
    refine wpOp_inv rfl rfl (fun K hK=>?_)
    simp only [putsA,Act.put,stA,st0,st1,cond_true,cond_false] at h ⊢
    refine wp_value (.bool true) (by go_simp) ?_
    exact hK.out _ _ ⟨l0,l1,l2,l3,l4,l5,l6,l7,l8,l9,l10,l11,l12,l13,l14,l15,true,true,l18,l19,l20,l21,l22,l23,l24,by kernel_rfl,by kernel_rfl,h⟩
   ·have hn:l18 = false:=ready_not hi
    have hd17:l17 = true:=ready_dep hi rfl (k:=0) rfl rfl
    clear hi hlt
    subst hn hd17
    simp only [putsA,Act.put,stA,st0,st1,cond_true,cond_false] at h ⊢
    refine wpOp_invW rfl (by rfl) (fun K hK=>?_)
    refine wp_value (v1) (by go_simp) ?_
    exact hK.out _ _ ⟨l0,l1,l2,l3,l4,l5,l6,l7,l8,l9,l10,l11,l12,l13,l14,l15,l16,true,true,l19,l20,l21,l22,l23,l24,by kernel_rfl,by kernel_rfl,h⟩
   ·have hn:l19 = false:=ready_not hi
    have hd18:l18 = true:=ready_dep hi rfl (k:=0) rfl rfl
    have hd17:l17 = true:=ready_dep hi rfl (k:=1) rfl rfl
    clear hi hlt
    subst hn hd18 hd17
    simp only [putsA,Act.put,stA,st0,st1,cond_true,cond_false] at h ⊢
    refine wpOp_invW rfl (by rfl) (fun K hK=>?_)
    refine wp_value (.string st) (exec_str (v:=v1) 23 9 _ rfl rfl (hm1.below h.bel) hst) ?_
    exact hK.out _ _ ⟨l0,l1,l2,l3,l4,l5,l6,l7,l8,l9,l10,l11,l12,l13,l14,l15,l16,true,true,true,l20,l21,l22,l23,l24,by kernel_rfl,by kernel_rfl,h⟩
   ·have hn:l20 = false:=ready_not hi
    have hd17:l17 = true:=ready_dep hi rfl (k:=0) rfl rfl
    clear hi hlt
    subst hn hd17
    simp only [putsA,Act.put,stA,st0,st1,cond_true,cond_false] at h ⊢
    refine wpOp_invW rfl (by rfl) (fun K hK=>?_)
    refine wp_value (.slice ma mn mc) (by go_simp) ?_
    exact hK.out _ _ ⟨l0,l1,l2,l3,l4,l5,l6,l7,l8,l9,l10,l11,l12,l13,l14,l15,l16,true,l18,l19,true,l21,l22,l23,l24,by kernel_rfl,by kernel_rfl,h⟩
   ·have hn:l21 = false:=ready_not hi
    have hd20:l20 = true:=ready_dep hi rfl (k:=0) rfl rfl
    have hd17:l17 = true:=ready_dep hi rfl (k:=1) rfl rfl
    clear hi hlt
    subst hn hd20 hd17
    simp only [putsA,Act.put,stA,st0,st1,cond_true,cond_false] at h ⊢
    refine wpOp_invW rfl (by rfl) (fun K hK=>?_)
    refine wp_value (.string st) (exec_str (v:=.slice ma mn mc) 23 9 _ rfl rfl (hm.below h.bel) hst) ?_
    exact hK.out _ _ ⟨l0,l1,l2,l3,l4,l5,l6,l7,l8,l9,l10,l11,l12,l13,l14,l15,l16,true,l18,l19,true,true,l22,l23,l24,by kernel_rfl,by kernel_rfl,h⟩
   ·have hn:l22 = false:=ready_not hi
    have hd19:l19 = true:=ready_dep hi rfl (k:=0) rfl rfl
    have hd21:l21 = true:=ready_dep hi rfl (k:=1) rfl rfl
    have hd17:l17 = true:=ready_dep hi rfl (k:=2) rfl rfl
    clear hi hlt
    subst hn hd19 hd21 hd17
    simp only [putsA,Act.put,stA,st0,st1,cond_true,cond_false] at h ⊢
    refine wpOp_invW rfl (by rfl) (fun K hK=>?_)
    refine wp_value (.bool true) (by go_simp) ?_
    exact hK.out _ _ ⟨l0,l1,l2,l3,l4,l5,l6,l7,l8,l9,l10,l11,l12,l13,l14,l15,l16,true,l18,true,l20,true,true,l23,l24,by kernel_rfl,by kernel_rfl,h⟩
   ·have hn:l23 = false:=ready_not hi
    have hd17:l17 = true:=ready_dep hi rfl (k:=0) rfl rfl
    have hd22:l22 = true:=ready_dep hi rfl (k:=1) rfl rfl
    clear hi hlt
    subst hn hd17 hd22
    refine wpOp_inv rfl rfl (fun K hK=>?_)
    simp only [putsA,Act.put,stA,st0,st1,cond_true,cond_false] at h ⊢
    refine wp_value (.bool true) (by go_simp) ?_
    exact hK.out _ _ ⟨l0,l1,l2,l3,l4,l5,l6,l7,l8,l9,l10,l11,l12,l13,l14,l15,l16,true,l18,l19,l20,l21,true,true,l24,by kernel_rfl,by kernel_rfl,h⟩
   ·have hn:l24 = false:=ready_not hi
    have hd23:l23 = true:=ready_dep hi rfl (k:=0) rfl rfl
    clear hi hlt
    subst hn hd23
    refine wpOp_inv rfl rfl (fun K hK=>?_)
    simp only [putsA,Act.put,stA,st0,st1,cond_true,cond_false] at h ⊢
    refine wp_value (.bool true) (by go_simp) ?_
    exact hK.out _ _ ⟨l0,l1,l2,l3,l4,l5,l6,l7,l8,l9,l10,l11,l12,l13,l14,l15,l16,l17,l18,l19,l20,l21,l22,true,true,by kernel_rfl,by kernel_rfl,h⟩
  case rest =>
   clear h
   intro l b w' hI hr
   obtain ⟨l0,l1,l2,l3,l4,l5,l6,l7,l8,l9,l10,l11,l12,l13,l14,l15,l16,l17,l18,l19,l20,l21,l22,l23,l24,rfl,rfl,h⟩:=hI
   have hd:l0 = true:=ready_nil (i:=0) hr rfl (by rfl)
   subst hd
   have hd:l1 = true:=ready_nil (i:=1) hr rfl (by rfl)
   subst hd
   have hd:l2 = true:=ready_nil (i:=2) hr rfl (by rfl)
   subst hd
   have hd:l3 = true:=ready_nil (i:=3) hr rfl (by rfl)
   subst hd
   have hd:l4 = true:=ready_nil (i:=4) hr rfl (by rfl)
   subst hd
   have hd:l5 = true:=ready_nil (i:=5) hr rfl (by rfl)
   subst hd
   have hd:l6 = true:=ready_nil (i:=6) hr rfl (by rfl)
   subst hd
   have hd:l7 = true:=ready_nil (i:=7) hr rfl (by rfl)
   subst hd
   have hd:l8 = true:=ready_nil (i:=8) hr rfl (by rfl)
   subst hd
   have hd:l9 = true:=ready_nil (i:=9) hr rfl (by rfl)
   subst hd
   have hd:l10 = true:=ready_nil (i:=10) hr rfl (by rfl)
   subst hd
   have hd:l11 = true:=ready_nil (i:=11) hr rfl (by rfl)
   subst hd
   have hd:l12 = true:=ready_nil (i:=12) hr rfl (by rfl)
   subst hd
   have hd:l13 = true:=ready_nil (i:=13) hr rfl (by rfl)
   subst hd
   have hd:l14 = true:=ready_nil (i:=14) hr rfl (by rfl)
   subst hd
   have hd:l15 = true:=ready_nil (i:=15) hr rfl (by rfl)
   subst hd
   have hd:l16 = true:=ready_nil (i:=16) hr rfl (by rfl)
   subst hd
   have hd:l17 = true:=ready_nil (i:=17) hr rfl (by rfl)
   subst hd
   have hd:l18 = true:=ready_nil (i:=18) hr rfl (by rfl)
   subst hd
   have hd:l19 = true:=ready_nil (i:=19) hr rfl (by rfl)
   subst hd
   have hd:l20 = true:=ready_nil (i:=20) hr rfl (by rfl)
   subst hd
   have hd:l21 = true:=ready_nil (i:=21) hr rfl (by rfl)
   subst hd
   have hd:l22 = true:=ready_nil (i:=22) hr rfl (by rfl)
   subst hd
   have hd:l23 = true:=ready_nil (i:=23) hr rfl (by rfl)
   subst hd
   have hd:l24 = true:=ready_nil (i:=24) hr rfl (by rfl)
   subst hd
   clear hr
   simp only [putsA,Act.put,stA,st0,st1,cond_true]
   replace h:Fr w1 w' []:=h
   go_wp2
   go_ret
   exact ⟨rfl,hb0.trans (h.bel.mono hb0.size)⟩
set_option maxRecDepth 100000 in
theorem lifted (os:Os) (started:os.Started) (H:Type) (enc:TypeId × Value → H) :
  ReturnsInHanded {} Tryz.checked os 3 .any (fun w args=>(Rows.eddsaSignSpec.pre enc Tryz.prog Tryz.f3 [] false w args ∧ laidMetH Tryz.prog F.laid1 w) ∧ sizedMet enc Tryz.prog Tryz.f3 (OpenSpec.ofChange Rows.eddsaSignSpec) false w args) (Rows.eddsaSignSpec.post enc Tryz.prog Tryz.f3 false true false false):=by
 refine returnsInHanded_of_change_and (C:=Tryz.checked) (X:=fun w _=>laidMetH Tryz.prog F.laid1 w) (fun _ _ _ hh h=>h.of_heap hh) own started (by kernel_rfl) Tryz.func3
  (ChangeSpec.witness_shaped (enc:=enc) (C:=Tryz.checked) (os:=os) (X:=fun w _=>laidMetH Tryz.prog F.laid1 w) false (World.doorLaid Tryz.prog 400 os) #[.agg (C .u8 (Z 32)).toArray,.slice none 0 0] 8 rfl (World.shaped_of_RefB (by kernel_rfl) (by kernel_rfl)) (by kernel_rfl) (by kernel_rfl) (by kernel_rfl) (F.door_met os _)) ?_
 intro W base args ds gs before hval0 hW _ _ hLd _
 have hval:∀ (j:Nat) t v,Tryz.f3.params[j]? = some t → args[j]? = some v → Value.okWide Tryz.prog W .any base t v:=hval0
 have hW':=hW
 obtain ⟨p,q,hA0,hV,rfl,hfz,hnd⟩:=hW
 have hA:DataW.TrodAll enc Tryz.prog W 0 (fun _=>true) true Tryz.f3.params.toList args.toList ds p:=hA0
 rw [Tryz.params3] at hA hval
 obtain ⟨v0,vs0,d0,ds0,p0,q0,hargs,rfl,rfl,h0,r0⟩:=trodAll_cons hA
 obtain ⟨v1,vs1,d1,ds1,p1,q1,rfl,rfl,rfl,h1,r1⟩:=trodAll_cons r0
 obtain ⟨rfl,rfl,rfl⟩:=trodAll_nil r1
 obtain rfl:args = #[v0,v1]:=by cases args;simp_all
 obtain ⟨rfl,rfl⟩:=trodVars_none hV
 obtain ⟨a1,len1,cap1,rfl⟩:=okWide_slice Tryz.underlying23 (hval 1 23 v1 rfl rfl)
 have k0:=h0
 have lt0:∀ x ∈ p0,x.block < W.heap.size:=by obtain ⟨m,hm⟩:=k0;exact DataW.trod_lt m _ _ _ hm
 have k1:=h1
 have lt1:∀ x ∈ p1,x.block < W.heap.size:=by obtain ⟨m,hm⟩:=k1;exact DataW.trod_lt m _ _ _ hm
 obtain ⟨z0,rfl,hl0,hz0⟩:=open_array Tryz.underlying22 Tryz.underlying5 (by kernel_rfl) (by kernel_rfl) (hval 0 22 v0 rfl rfl) h0
 obtain ⟨n0,e0,l0,b0⟩:=arr_bytes hz0
 obtain ⟨z1,w1⟩:∃ zs,IsRow .u8 W a1 len1 cap1 zs:=by
  obtain ⟨fuel,hf⟩:=h1
  rcases open_ints Tryz.underlying23 Tryz.underlying5 (by kernel_rfl) hf with ⟨hcs,_⟩ | ⟨x,l,c,zs,hcs,_,hl,hm,hz,_,hcell,hwz⟩
  ·simp [Value.cells] at hcs
   obtain ⟨rfl,rfl,rfl⟩:=hcs
   exact ⟨[],.inl ⟨rfl,rfl,rfl,rfl⟩⟩
  ·simp [Value.cells] at hcs
   obtain ⟨rfl,rfl,rfl⟩:=hcs
   exact ⟨zs,.inr ⟨_,rfl,hl,hm,by simpa using hz,hcell,hwz⟩⟩
 obtain ⟨n1,s1,l1,b1⟩:=w1.bytes
 rw [e0] at hW' ⊢
 rw [e0] at k0
 clear hA0 hval0
 refine (walk n0 b0 (l0.trans hl0) a1 len1 cap1 n1 b1 l1 W s1 (F.of_laid hLd)).mono fun e W' ⟨he,bel⟩=>?_
 subst he
 exact ⟨_,rfl,_,_,_,[],_,[],hW',trodAll_mk1 (shut_bool Tryz.underlying4 _),(trodAll_cons_mk (Below.trod laidOut (by kernel_rfl) (of_decide_eq_true (by kernel_rfl)) k0 bel lt0) (trodAll_cons_mk (Below.trod laidOut (by kernel_rfl) (of_decide_eq_true (by kernel_rfl)) k1 bel lt1) trodAll_mk0)),rfl,bel.frame _,fun h=>by cases h⟩
theorem over:Rows.eddsaSignRow.holds Tryz.pinned (OpenSpec.ofChange Rows.eddsaSignSpec) :=
 OpenClaim.holds_of_wide 3 Tryz.f3 rfl rfl rfl rfl rfl rfl rfl ⟨rfl,rfl,rfl,rfl,rfl⟩ rfl rfl rfl rfl rfl (by kernel_rfl) Tryz.func3 (by kernel_rfl)
  (of_decide_eq_true (by kernel_rfl)) (by unfold Func.isWrapper;first | (rw [if_pos (by decide +kernel)];kernel_rfl) | (rw [if_neg (by decide +kernel)];exact ⟨rfl,rfl⟩))
  (fun os started H enc _=>lifted os started H enc)
end Go.Proofs.YtmjimilhomabfaaGreatDoor.eddsaSign
namespace Go.Proofs.YtmjimilhomabfaaGreatDoor
theorem eddsaSign_proved:Rows.EddsaSignCardSaid :=
 Claim7.holds_tied_plain_at .later [] [.data, .data, .data, .data, .data, .data, .data, .data, .data] true (true, "32266f3c2c1da12c4b3768ac40d32ab501c6aa104d3de57cff571e22d9757302") false
  eddsaSign.over (fun _ h=>by cases h) (by kernel_rfl) (fun _ h=>by cases h) eddsaSign_row_tie rfl ⟨rfl,rfl⟩ (by kernel_rfl) rfl
  (fun f fn hf hfn=>by
   obtain rfl : f = 3 := Option.some.inj ((show Tryz.prog.funcNamed "affiant/affiantlaw14.EddsaSign" = some 3 by kernel_rfl).symm.trans hf) |>.symm
   obtain rfl:fn = Tryz.f3:=(Option.some.inj (Tryz.func3.symm.trans hfn)).symm
   exact ⟨by kernel_rfl,fun j t ht=>by
    rw [Tryz.params3] at ht
    have hm:t ∈ ([22,23]:List TypeId):=by simpa using Array.mem_of_getElem? ht
    have hall:(([22,23]:List TypeId).all fun u=>!Tryz.prog.wantsStandIn u) = true:=by kernel_rfl
    exact (show Tryz.prog.wantsStandIn t = false by simpa using List.all_eq_true.1 hall t hm)⟩)
  (by kernel_rfl)
end Go.Proofs.YtmjimilhomabfaaGreatDoor
