/-
 Proved: for every key, message and bytes the law EddsaVerify returns true, and its arguments read as before. No conditions of ours; the packages' variables start as their initialisers lay them, as the given card ties it.
-/
import Derived.Test.YtmjimilhomabfaaGreatDoorRows
import Derived.Test.YtmjimilhomabfaaGreatDoorCards
import Derived.Test.YtmjimilhomabfaaGreatDoorTie
import Derived.SevenTiedAt
import Derived.Test.YtmjimilhomabfaaGreatDoorEsN
import Derived.Test.YtmjimilhomabfaaGreatDoorEsW
import Derived.WalkKit
import Derived.ProofKit
import Derived.OpenShut
import Derived.ShutString
import Derived.ChangeOld
import Derived.Below
namespace Go.Proofs.YtmjimilhomabfaaGreatDoor.eddsaVerify
open Go.ChangeShapes Go.WideShapes Go.ChangeAt Go.RowKit
open F
set_option linter.unusedVariables false
set_option maxRecDepth 10000
theorem own:ownKnob Tryz.prog.godebug = none:=by kernel_rfl
theorem laidOut:laidOutB Tryz.prog = true:=by kernel_rfl
set_option maxHeartbeats 4000000 in
theorem walk (kb:List Nat) (okb:Lo 256 kb) (lk:kb.length = 32) (ma:Option Addr) (mn mc:Nat) (m:List Nat) (om:Lo 256 m) (lm:m.length = mn) (sa:Option Addr) (sn sc:Nat) (s:List Nat) (osg:Lo 256 s) (lsn:s.length = sn) (w:World) (hv:SlV w (.slice ma mn mc) (C .u8 m)) (hs:SlV w (.slice sa sn sc) (C .u8 s)) (hT:TS w) :
  Calls Tryz.prog 4 #[.agg (C .u8 kb).toArray,.slice ma mn mc,.slice sa sn sc] w fun e w'=>e = .returned (.bool true) ∧ Below w.heap.size w w':=by
 have h:=Fr.one w 22 (C .u8 kb)
 by_cases hlen:mn ≤ 300
 case neg =>
  have d:decide (300 < (mn:Int)) = true:=decide_eq_true (by omega)
  go_enter Tryz.func4,Tryz.ntmps4
  go_wp2_with fail
  refine callOK (alive14_true _ (hT.below h.bel)) h ?_
  clear h
  rintro _ wn rfl h
  go_wp2
  go_ret
  exact ⟨rfl,h.bel⟩
 by_cases hlen2:sn ≤ 300
 case neg =>
  have d:decide (300 < (mn:Int)) = false:=decide_eq_false (by omega)
  have d2:decide (300 < (sn:Int)) = true:=decide_eq_true (by omega)
  go_enter Tryz.func4,Tryz.ntmps4
  go_wp2_with fail
  refine callOK (alive14_true _ (hT.below h.bel)) h ?_
  clear h
  rintro _ wn rfl h
  go_wp2
  go_ret
  exact ⟨rfl,h.bel⟩
 case pos =>
  have d:decide (300 < (mn:Int)) = false:=decide_eq_false (by omega)
  have d2:decide (300 < (sn:Int)) = false:=decide_eq_false (by omega)
  have cV:=fun w hT hv hs=>verify_any kb okb lk (.slice ma mn mc) m om (by omega) (.slice sa sn sc) s osg w hv hs hT
  have cR:=fun w hv hs=>verify14_any kb okb lk (.slice ma mn mc) m om (by omega) (.slice sa sn sc) s osg w hv hs
  generalize vfy kb m s = vb at cV cR
  go_enter Tryz.func4,Tryz.ntmps4
  go_upto_region 3 with fail
  replace h:=h.drew
  refine wp_region_inv (by kernel_rfl) (fun a0 l b w'=>∃ (l0 l1 l2 l3 l4 l5 l6 l7 l8 l9 l10 l11 l12:Bool) ,l = #[l0,l1,l2,l3,l4,l5,l6,l7,l8,l9,l10,l11,l12] ∧ b = putsA a0 [(16,l0,.bool true,undef),(17,l1,.bool true,undef),(18,l2,.agg (C .u8 kb).toArray,undef),(19,l3,.slice ma mn mc,undef),(20,l4,.slice sa sn sc,undef),(21,l5,.bool vb,undef),(22,l6,.agg (C .u8 kb).toArray,undef),(23,l7,.slice ma mn mc,undef),(24,l8,.slice sa sn sc,undef),(25,l9,.bool vb,undef),(26,l10,.bool true,undef),(27,l11,.bool true,undef),(6,l12,.bool true,.bool false)] ∧ Fr w w' (opt [(true,(w.heap.size,22,C .u8 kb))])) ?start ?step ?rest
  case start=>exact ⟨false,false,false,false,false,false,false,false,false,false,false,false,false,by kernel_rfl,by kernel_rfl,h⟩
  case step =>
   clear h
   intro l b w' hI i hi
   obtain ⟨l0,l1,l2,l3,l4,l5,l6,l7,l8,l9,l10,l11,l12,rfl,rfl,h⟩:=hI
   have hlt:i < 13:=ready_lt hi
   obtain rfl | rfl | rfl | rfl | rfl | rfl | rfl | rfl | rfl | rfl | rfl | rfl | rfl:=(by omega:i = 0 ∨ i = 1 ∨ i = 2 ∨ i = 3 ∨ i = 4 ∨ i = 5 ∨ i = 6 ∨ i = 7 ∨ i = 8 ∨ i = 9 ∨ i = 10 ∨ i = 11 ∨ i = 12)
   ·have hn:l0 = false:=ready_not hi
    clear hi hlt
    subst hn
    refine wpOp_inv rfl rfl (fun K hK=>?_)
    simp only [putsA,Act.put,stA,st0,st1,cond_false] at h ⊢
    go_simp
    refine callOK (alive14_true _ (hT.below h.bel)) h ?_
    clear h
    rintro _ wn rfl h
    exact hK.out _ _ ⟨true,l1,l2,l3,l4,l5,l6,l7,l8,l9,l10,l11,l12,by kernel_rfl,by kernel_rfl,h⟩
   ·have hn:l1 = false:=ready_not hi
    have hd0:l0 = true:=ready_dep hi rfl (k:=0) rfl rfl
    clear hi hlt
    subst hn hd0
    refine wpOp_inv rfl rfl (fun K hK=>?_)
    simp only [putsA,Act.put,stA,st0,st1,cond_true,cond_false] at h ⊢
    refine wp_value (.bool true) (by go_simp) ?_
    exact hK.out _ _ ⟨true,true,l2,l3,l4,l5,l6,l7,l8,l9,l10,l11,l12,by kernel_rfl,by kernel_rfl,h⟩
   ·have hn:l2 = false:=ready_not hi
    have hd1:l1 = true:=ready_dep hi rfl (k:=0) rfl rfl
    clear hi hlt
    subst hn hd1
    simp only [putsA,Act.put,stA,st0,st1,cond_true,cond_false] at h ⊢
    refine wpOp_invW rfl (by rfl) (fun K hK=>?_)
    refine wp_value (.agg (C .u8 kb).toArray) (exec_load_W 22 _ rfl rfl (h.rowo (k:=0) rfl) Tryz.underlying22 rfl (iB lk)) ?_
    exact hK.out _ _ ⟨l0,true,true,l3,l4,l5,l6,l7,l8,l9,l10,l11,l12,by kernel_rfl,by kernel_rfl,h⟩
   ·have hn:l3 = false:=ready_not hi
    have hd1:l1 = true:=ready_dep hi rfl (k:=0) rfl rfl
    clear hi hlt
    subst hn hd1
    simp only [putsA,Act.put,stA,st0,st1,cond_true,cond_false] at h ⊢
    refine wpOp_invW rfl (by rfl) (fun K hK=>?_)
    refine wp_value (.slice ma mn mc) (by go_simp) ?_
    exact hK.out _ _ ⟨l0,true,l2,true,l4,l5,l6,l7,l8,l9,l10,l11,l12,by kernel_rfl,by kernel_rfl,h⟩
   ·have hn:l4 = false:=ready_not hi
    have hd1:l1 = true:=ready_dep hi rfl (k:=0) rfl rfl
    clear hi hlt
    subst hn hd1
    simp only [putsA,Act.put,stA,st0,st1,cond_true,cond_false] at h ⊢
    refine wpOp_invW rfl (by rfl) (fun K hK=>?_)
    refine wp_value (.slice sa sn sc) (by go_simp) ?_
    exact hK.out _ _ ⟨l0,true,l2,l3,true,l5,l6,l7,l8,l9,l10,l11,l12,by kernel_rfl,by kernel_rfl,h⟩
   ·have hn:l5 = false:=ready_not hi
    have hd2:l2 = true:=ready_dep hi rfl (k:=0) rfl rfl
    have hd3:l3 = true:=ready_dep hi rfl (k:=1) rfl rfl
    have hd4:l4 = true:=ready_dep hi rfl (k:=2) rfl rfl
    have hd1:l1 = true:=ready_dep hi rfl (k:=3) rfl rfl
    clear hi hlt
    subst hn hd2 hd3 hd4 hd1
    simp only [putsA,Act.put,stA,st0,st1,cond_true,cond_false] at h ⊢
    refine wpOp_invW rfl (by rfl) (fun K hK=>?_)
    go_simp
    refine callOK (cV _ (hT.below h.bel) (hv.below h.bel) (hs.below h.bel)) h ?_
    clear h
    rintro _ wn rfl h
    exact hK.out _ _ ⟨l0,true,true,true,true,true,l6,l7,l8,l9,l10,l11,l12,by kernel_rfl,by kernel_rfl,h⟩
   ·have hn:l6 = false:=ready_not hi
    have hd1:l1 = true:=ready_dep hi rfl (k:=0) rfl rfl
    clear hi hlt
    subst hn hd1
    simp only [putsA,Act.put,stA,st0,st1,cond_true,cond_false] at h ⊢
    refine wpOp_invW rfl (by rfl) (fun K hK=>?_)
    refine wp_value (.agg (C .u8 kb).toArray) (exec_load_W 22 _ rfl rfl (h.rowo (k:=0) rfl) Tryz.underlying22 rfl (iB lk)) ?_
    exact hK.out _ _ ⟨l0,true,l2,l3,l4,l5,true,l7,l8,l9,l10,l11,l12,by kernel_rfl,by kernel_rfl,h⟩
   ·have hn:l7 = false:=ready_not hi
    have hd1:l1 = true:=ready_dep hi rfl (k:=0) rfl rfl
    clear hi hlt
    subst hn hd1
    simp only [putsA,Act.put,stA,st0,st1,cond_true,cond_false] at h ⊢
    refine wpOp_invW rfl (by rfl) (fun K hK=>?_)
    refine wp_value (.slice ma mn mc) (by go_simp) ?_
    exact hK.out _ _ ⟨l0,true,l2,l3,l4,l5,l6,true,l8,l9,l10,l11,l12,by kernel_rfl,by kernel_rfl,h⟩
   ·have hn:l8 = false:=ready_not hi
    have hd1:l1 = true:=ready_dep hi rfl (k:=0) rfl rfl
    clear hi hlt
    subst hn hd1
    simp only [putsA,Act.put,stA,st0,st1,cond_true,cond_false] at h ⊢
    refine wpOp_invW rfl (by rfl) (fun K hK=>?_)
    refine wp_value (.slice sa sn sc) (by go_simp) ?_
    exact hK.out _ _ ⟨l0,true,l2,l3,l4,l5,l6,l7,true,l9,l10,l11,l12,by kernel_rfl,by kernel_rfl,h⟩
   ·have hn:l9 = false:=ready_not hi
    have hd6:l6 = true:=ready_dep hi rfl (k:=0) rfl rfl
    have hd7:l7 = true:=ready_dep hi rfl (k:=1) rfl rfl
    have hd8:l8 = true:=ready_dep hi rfl (k:=2) rfl rfl
    have hd1:l1 = true:=ready_dep hi rfl (k:=4) rfl rfl
    clear hi hlt
    subst hn hd6 hd7 hd8 hd1
    simp only [putsA,Act.put,stA,st0,st1,cond_true,cond_false] at h ⊢
    refine wpOp_invW rfl (by rfl) (fun K hK=>?_)
    go_simp
    refine callOK (cR _ (hv.below h.bel) (hs.below h.bel)) h ?_
    clear h
    rintro _ wn rfl h
    exact hK.out _ _ ⟨l0,true,l2,l3,l4,l5,true,true,true,true,l10,l11,l12,by kernel_rfl,by kernel_rfl,h⟩
   ·have hn:l10 = false:=ready_not hi
    have hd5:l5 = true:=ready_dep hi rfl (k:=0) rfl rfl
    have hd9:l9 = true:=ready_dep hi rfl (k:=1) rfl rfl
    have hd1:l1 = true:=ready_dep hi rfl (k:=2) rfl rfl
    clear hi hlt
    subst hn hd5 hd9 hd1
    simp only [putsA,Act.put,stA,st0,st1,cond_true,cond_false] at h ⊢
    refine wpOp_invW rfl (by rfl) (fun K hK=>?_)
    refine wp_value (.bool true) (by go_simp) ?_
    exact hK.out _ _ ⟨l0,true,l2,l3,l4,true,l6,l7,l8,true,true,l11,l12,by kernel_rfl,by kernel_rfl,h⟩
   ·have hn:l11 = false:=ready_not hi
    have hd1:l1 = true:=ready_dep hi rfl (k:=0) rfl rfl
    have hd10:l10 = true:=ready_dep hi rfl (k:=1) rfl rfl
    clear hi hlt
    subst hn hd1 hd10
    refine wpOp_inv rfl rfl (fun K hK=>?_)
    simp only [putsA,Act.put,stA,st0,st1,cond_true,cond_false] at h ⊢
    refine wp_value (.bool true) (by go_simp) ?_
    exact hK.out _ _ ⟨l0,true,l2,l3,l4,l5,l6,l7,l8,l9,true,true,l12,by kernel_rfl,by kernel_rfl,h⟩
   ·have hn:l12 = false:=ready_not hi
    have hd11:l11 = true:=ready_dep hi rfl (k:=0) rfl rfl
    clear hi hlt
    subst hn hd11
    refine wpOp_inv rfl rfl (fun K hK=>?_)
    simp only [putsA,Act.put,stA,st0,st1,cond_true,cond_false] at h ⊢
    refine wp_value (.bool true) (by go_simp) ?_
    exact hK.out _ _ ⟨l0,l1,l2,l3,l4,l5,l6,l7,l8,l9,l10,true,true,by kernel_rfl,by kernel_rfl,h⟩
  case rest =>
   clear h
   intro l b w' hI hr
   obtain ⟨l0,l1,l2,l3,l4,l5,l6,l7,l8,l9,l10,l11,l12,rfl,rfl,h⟩:=hI
   have hd:l0 = true:=ready_nil (i:=0) hr rfl (by rfl)
   subst hd
   have hd:l1 = true:=ready_nil (i:=1) hr rfl (by rfl)
   subst hd
   have hd:l2 = true:=ready_nil (i:=2) hr rfl (by rfl)
   subst hd
   have hd:l3 = true:=ready_nil (i:=3) hr rfl (by rfl)
   subst hd
   have hd:l4 = true:=ready_nil (i:=4) hr rfl (by rfl)
   subst hd
   have hd:l5 = true:=ready_nil (i:=5) hr rfl (by rfl)
   subst hd
   have hd:l6 = true:=ready_nil (i:=6) hr rfl (by rfl)
   subst hd
   have hd:l7 = true:=ready_nil (i:=7) hr rfl (by rfl)
   subst hd
   have hd:l8 = true:=ready_nil (i:=8) hr rfl (by rfl)
   subst hd
   have hd:l9 = true:=ready_nil (i:=9) hr rfl (by rfl)
   subst hd
   have hd:l10 = true:=ready_nil (i:=10) hr rfl (by rfl)
   subst hd
   have hd:l11 = true:=ready_nil (i:=11) hr rfl (by rfl)
   subst hd
   have hd:l12 = true:=ready_nil (i:=12) hr rfl (by rfl)
   subst hd
   clear hr
   simp only [putsA,Act.put,stA,st0,st1,cond_true]
   replace h:Fr w w' [(w.heap.size,22,C .u8 kb)]:=h
   go_wp2
   go_ret
   exact ⟨rfl,h.bel⟩
set_option maxRecDepth 100000 in
theorem lifted (os:Os) (started:os.Started) (H:Type) (enc:TypeId × Value → H) :
  ReturnsInHanded {} Tryz.checked os 4 .any (fun w args=>(Rows.eddsaVerifySpec.pre enc Tryz.prog Tryz.f4 [] false w args ∧ laidMetH Tryz.prog F.laid1 w) ∧ sizedMet enc Tryz.prog Tryz.f4 (OpenSpec.ofChange Rows.eddsaVerifySpec) false w args) (Rows.eddsaVerifySpec.post enc Tryz.prog Tryz.f4 false true false false):=by
 refine returnsInHanded_of_change_and (C:=Tryz.checked) (X:=fun w _=>laidMetH Tryz.prog F.laid1 w) (fun _ _ _ hh h=>h.of_heap hh) own started (by kernel_rfl) Tryz.func4
  (ChangeSpec.witness_shaped (enc:=enc) (C:=Tryz.checked) (os:=os) (X:=fun w _=>laidMetH Tryz.prog F.laid1 w) false (World.doorLaid Tryz.prog 400 os) #[.agg (C .u8 (Z 32)).toArray,.slice none 0 0,.slice none 0 0] 8 rfl (World.shaped_of_RefB (by kernel_rfl) (by kernel_rfl)) (by kernel_rfl) (by kernel_rfl) (by kernel_rfl) (F.door_met os _)) ?_
 intro W base args ds gs before hval0 hW _ _ hLd _
 have hval:∀ (j:Nat) t v,Tryz.f4.params[j]? = some t → args[j]? = some v → Value.okWide Tryz.prog W .any base t v:=hval0
 have hW':=hW
 obtain ⟨p,q,hA0,hV,rfl,hfz,hnd⟩:=hW
 have hA:DataW.TrodAll enc Tryz.prog W 0 (fun _=>true) true Tryz.f4.params.toList args.toList ds p:=hA0
 rw [Tryz.params4] at hA hval
 obtain ⟨v0,vs0,d0,ds0,p0,q0,hargs,rfl,rfl,h0,r0⟩:=trodAll_cons hA
 obtain ⟨v1,vs1,d1,ds1,p1,q1,rfl,rfl,rfl,h1,r1⟩:=trodAll_cons r0
 obtain ⟨v2,vs2,d2,ds2,p2,q2,rfl,rfl,rfl,h2,r2⟩:=trodAll_cons r1
 obtain ⟨rfl,rfl,rfl⟩:=trodAll_nil r2
 obtain rfl:args = #[v0,v1,v2]:=by cases args;simp_all
 obtain ⟨rfl,rfl⟩:=trodVars_none hV
 obtain ⟨a1,len1,cap1,rfl⟩:=okWide_slice Tryz.underlying23 (hval 1 23 v1 rfl rfl)
 obtain ⟨a2,len2,cap2,rfl⟩:=okWide_slice Tryz.underlying23 (hval 2 23 v2 rfl rfl)
 have k0:=h0
 have lt0:∀ x ∈ p0,x.block < W.heap.size:=by obtain ⟨m,hm⟩:=k0;exact DataW.trod_lt m _ _ _ hm
 have k1:=h1
 have lt1:∀ x ∈ p1,x.block < W.heap.size:=by obtain ⟨m,hm⟩:=k1;exact DataW.trod_lt m _ _ _ hm
 have k2:=h2
 have lt2:∀ x ∈ p2,x.block < W.heap.size:=by obtain ⟨m,hm⟩:=k2;exact DataW.trod_lt m _ _ _ hm
 obtain ⟨z0,rfl,hl0,hz0⟩:=open_array Tryz.underlying22 Tryz.underlying5 (by kernel_rfl) (by kernel_rfl) (hval 0 22 v0 rfl rfl) h0
 obtain ⟨n0,e0,l0,b0⟩:=arr_bytes hz0
 obtain ⟨z1,w1⟩:∃ zs,IsRow .u8 W a1 len1 cap1 zs:=by
  obtain ⟨fuel,hf⟩:=h1
  rcases open_ints Tryz.underlying23 Tryz.underlying5 (by kernel_rfl) hf with ⟨hcs,_⟩ | ⟨x,l,c,zs,hcs,_,hl,hm,hz,_,hcell,hwz⟩
  ·simp [Value.cells] at hcs
   obtain ⟨rfl,rfl,rfl⟩:=hcs
   exact ⟨[],.inl ⟨rfl,rfl,rfl,rfl⟩⟩
  ·simp [Value.cells] at hcs
   obtain ⟨rfl,rfl,rfl⟩:=hcs
   exact ⟨zs,.inr ⟨_,rfl,hl,hm,by simpa using hz,hcell,hwz⟩⟩
 obtain ⟨n1,s1,l1,b1⟩:=w1.bytes
 obtain ⟨z2,w2⟩:∃ zs,IsRow .u8 W a2 len2 cap2 zs:=by
  obtain ⟨fuel,hf⟩:=h2
  rcases open_ints Tryz.underlying23 Tryz.underlying5 (by kernel_rfl) hf with ⟨hcs,_⟩ | ⟨x,l,c,zs,hcs,_,hl,hm,hz,_,hcell,hwz⟩
  ·simp [Value.cells] at hcs
   obtain ⟨rfl,rfl,rfl⟩:=hcs
   exact ⟨[],.inl ⟨rfl,rfl,rfl,rfl⟩⟩
  ·simp [Value.cells] at hcs
   obtain ⟨rfl,rfl,rfl⟩:=hcs
   exact ⟨zs,.inr ⟨_,rfl,hl,hm,by simpa using hz,hcell,hwz⟩⟩
 obtain ⟨n2,s2,l2,b2⟩:=w2.bytes
 rw [e0] at hW' ⊢
 rw [e0] at k0
 clear hA0 hval0
 refine (walk n0 b0 (l0.trans hl0) a1 len1 cap1 n1 b1 l1 a2 len2 cap2 n2 b2 l2 W s1 s2 (F.of_laid hLd)).mono fun e W' ⟨he,bel⟩=>?_
 subst he
 exact ⟨_,rfl,_,_,_,[],_,[],hW',trodAll_mk1 (shut_bool Tryz.underlying4 _),(trodAll_cons_mk (Below.trod laidOut (by kernel_rfl) (of_decide_eq_true (by kernel_rfl)) k0 bel lt0) (trodAll_cons_mk (Below.trod laidOut (by kernel_rfl) (of_decide_eq_true (by kernel_rfl)) k1 bel lt1) (trodAll_cons_mk (Below.trod laidOut (by kernel_rfl) (of_decide_eq_true (by kernel_rfl)) k2 bel lt2) trodAll_mk0))),rfl,bel.frame _,fun h=>by cases h⟩
theorem over:Rows.eddsaVerifyRow.holds Tryz.pinned (OpenSpec.ofChange Rows.eddsaVerifySpec) :=
 OpenClaim.holds_of_wide 4 Tryz.f4 rfl rfl rfl rfl rfl rfl rfl ⟨rfl,rfl,rfl,rfl,rfl⟩ rfl rfl rfl rfl rfl (by kernel_rfl) Tryz.func4 (by kernel_rfl)
  (of_decide_eq_true (by kernel_rfl)) (by unfold Func.isWrapper;first | (rw [if_pos (by decide +kernel)];kernel_rfl) | (rw [if_neg (by decide +kernel)];exact ⟨rfl,rfl⟩))
  (fun os started H enc _=>lifted os started H enc)
end Go.Proofs.YtmjimilhomabfaaGreatDoor.eddsaVerify
namespace Go.Proofs.YtmjimilhomabfaaGreatDoor
theorem eddsaVerify_proved:Rows.EddsaVerifyCardSaid :=
 Claim7.holds_tied_plain_at .later [] [.data, .data, .data, .data, .data, .data, .data, .data, .data] true (true, "32266f3c2c1da12c4b3768ac40d32ab501c6aa104d3de57cff571e22d9757302") false
  eddsaVerify.over (fun _ h=>by cases h) (by kernel_rfl) (fun _ h=>by cases h) eddsaVerify_row_tie rfl ⟨rfl,rfl⟩ (by kernel_rfl) rfl
  (fun f fn hf hfn=>by
   obtain rfl : f = 4 := Option.some.inj ((show Tryz.prog.funcNamed "affiant/affiantlaw14.EddsaVerify" = some 4 by kernel_rfl).symm.trans hf) |>.symm
   obtain rfl:fn = Tryz.f4:=(Option.some.inj (Tryz.func4.symm.trans hfn)).symm
   exact ⟨by kernel_rfl,fun j t ht=>by
    rw [Tryz.params4] at ht
    have hm:t ∈ ([22,23,23]:List TypeId):=by simpa using Array.mem_of_getElem? ht
    have hall:(([22,23,23]:List TypeId).all fun u=>!Tryz.prog.wantsStandIn u) = true:=by kernel_rfl
    exact (show Tryz.prog.wantsStandIn t = false by simpa using List.all_eq_true.1 hall t hm)⟩)
  (by kernel_rfl)
end Go.Proofs.YtmjimilhomabfaaGreatDoor
