/-
 Proved: for every seed, message and number the law EddsaOne returns true, and its arguments read as before. No conditions of ours; the packages' variables start as their initialisers lay them, as the given card ties it.
-/
import Derived.Test.YtmjimilhomabfaaGreatDoorRows
import Derived.Test.YtmjimilhomabfaaGreatDoorCards
import Derived.Test.YtmjimilhomabfaaGreatDoorTie
import Derived.SevenTiedAt
import Derived.Test.YtmjimilhomabfaaGreatDoorEsN
import Derived.Test.YtmjimilhomabfaaGreatDoorEsU
import Derived.WalkKit
import Derived.ProofKit
import Derived.OpenShut
import Derived.ShutString
import Derived.ChangeOld
import Derived.Below
namespace Go.Proofs.YtmjimilhomabfaaGreatDoor.eddsaOne
open Go.ChangeShapes Go.WideShapes Go.ChangeAt Go.RowKit
open F
set_option linter.unusedVariables false
set_option maxRecDepth 10000
theorem own:ownKnob Tryz.prog.godebug = none:=by kernel_rfl
theorem laidOut:laidOutB Tryz.prog = true:=by kernel_rfl
theorem wpList_wanted {P:Program} {ops:Array Oper} {rest:List Oper} {o:Oper} {a:Act} {w:World} {Q:Exit → Act → World → Prop} (hw:Region.wanted o (yielded ops a.tmps) = true)
  (h:∀ K:Act → World → Prop,(∀ a w,wpList P ops Q rest a w → K a w) → o.wp P a w K Q):wpList P ops Q (o :: rest) a w :=
 wpList_step fun K hK=>by simp only [hw,if_true];exact h K hK
theorem wpList_load_WG {P:Program} {ops:Array Oper} {rest:List Oper} {o:Oper} {a:Act} {w:World} {Q:Exit → Act → World → Prop} (hw:Region.wanted o (yielded ops a.tmps) = true) (ty:TypeId) (x:Operand) (ho:o.op = .load ty x)
  {g:Nat} (hx:a.eval x = .pointer (some ⟨g,0,none⟩)) {e:TypeId} {us:List Value} (hg:Row w g e us) {d:TypeDesc} (hu:P.underlying ty = some d) (hd:(match d with | .struct _ | .array _ _=>true | _=>false) = true) (hi:(P.info? ty).map (·.size) = some us.length)
  (h:wpList P ops Q rest (a.put o.dst (.agg us.toArray)) w):wpList P ops Q (o :: rest) a w :=
 wpList_wanted hw fun _ hK=>by
  unfold Oper.wp
  rw [exec_load_W ty x ho hx hg hu hd hi]
  exact hK _ _ h
theorem carry_step {s M k cc:Nat} (hk:k < 32) (h:M / 256 ^ k = s / 256 ^ k + Lq / 256 ^ k + cc ∧ cc ≤ 1) :
  ∃ x dd t,(wds Lq).getD (k / 8) 0 = x ∧ (dig 256 32 s).getD k 0 = dd ∧ cc + dd + x / 2 ^ (8 * (k % 8)) % 256 = t ∧ (dig 256 32 M).take k ++ [t % 256] = (dig 256 32 M).take (k + 1) ∧ x < 18446744073709551616 ∧ dd < 256 ∧ x / 2 ^ (8 * (k % 8)) % 256 < 256 ∧ (M / 256 ^ (k + 1) = s / 256 ^ (k + 1) + Lq / 256 ^ (k + 1) + t / 256 ∧ t / 256 ≤ 1):=by
 have he:(wds Lq).getD (k / 8) 0 / 2 ^ (8 * (k % 8)) % 256 = Lq / 256 ^ k % 256:=by rw [wds_getD Lq_lt];exact byte_of Lq k
 have hdk:(dig 256 32 s).getD k 0 = s / 256 ^ k % 256:=dig_getD hk
 have hMk:(dig 256 32 M).getD k 0 = M / 256 ^ k % 256:=dig_getD hk
 have p1:∀ n:Nat,n / 256 ^ (k + 1) = n / 256 ^ k / 256:=fun n=>by rw [Nat.pow_succ,Nat.div_div_eq_div_mul]
 refine ⟨_,_,_,rfl,rfl,rfl,?_,(wds_lo Lq).getD (by decide) _,by rw [hdk];omega,by omega,?_⟩
 ·rw [List.take_add_one,List.getElem?_eq_getElem (by rw [dig_length];exact hk)]
  have:(dig 256 32 M)[k]'(by rw [dig_length];exact hk) = M / 256 ^ k % 256:=by
   rw [← hMk,List.getD_eq_getElem?_getD,List.getElem?_eq_getElem (by rw [dig_length];exact hk)];rfl
  rw [this,he,hdk,h.1]
  simp only [Option.toList_some,List.append_cancel_left_eq,List.cons.injEq,and_true]
  omega
 ·rw [he,hdk,p1,p1,p1,h.1]
  omega
set_option maxHeartbeats 4000000 in
theorem walk (sd:List Nat) (os:Lo 256 sd) (ls:sd.length = 32) (ma:Option Addr) (mn mc:Nat) (m:List Nat) (om:Lo 256 m) (lm:m.length = mn) (o:Nat) (lo:o < 115792089237316195423570985008687907853269984665640564039457584007913129639936) (w:World) (hv:SlV w (.slice ma mn mc) (C .u8 m)) (hT:TS w) :
  Calls Tryz.prog 6 #[.agg (C .u8 sd).toArray,.slice ma mn mc,.agg (ec o).toArray] w fun e w'=>e = .returned (.bool true) ∧ Below w.heap.size w w':=by
 obtain ⟨w2,h2,h⟩:=Fr.two w 22 32 (C .u8 sd) (ec o)
 by_cases hlen:mn ≤ 300
 case neg =>
  have d:decide (300 < (mn:Int)) = true:=decide_eq_true (by omega)
  go_enter Tryz.func6,Tryz.ntmps6
  go_upto_region 1 with fail
  try simp only [Act.put,stA,st0,st1,alloc_size,h2]
  clear h2
  go_wp2_with fail
  refine callOK (alive14_true _ (hT.below h.bel)) h ?_
  clear h
  rintro _ wn rfl h
  go_wp2
  go_ret
  exact ⟨rfl,h.bel⟩
 case pos =>
  have d:decide (300 < (mn:Int)) = false:=decide_eq_false (by omega)
  obtain ⟨G,eG,lG,oG,cG⟩:=key_let sd os ls
  obtain ⟨S,eS,lS,oS,cS⟩:=sign_let sd os ls m om (by omega)
  obtain ⟨Q,eQ,lQ,oQ,cB⟩:=sbytes_let o lo
  obtain ⟨F,hF⟩:∃ F,S.take 32 = F:=⟨_,rfl⟩
  obtain ⟨D,hD⟩:∃ D,S.drop 32 = D:=⟨_,rfl⟩
  have lF:F.length = 32:=by rw [← hF];exact lLo lS
  have lD:D.length = 32:=by rw [← hD];exact lHi lS
  have oF:Lo 256 F:=by rw [← hF];exact oS.take 32
  have oD:Lo 256 D:=by rw [← hD];exact oS.drop 32
  obtain ⟨s,hs⟩:∃ s,ss sd m = s:=⟨_,rfl⟩
  have eF:F = sr sd m:=by rw [← hF,← eS.out];exact take_app (kb_length _)
  have eD:Away (D = dig 256 32 s):=⟨by rw [← hD,← eS.out,← hs];exact drop_app (kb_length _)⟩
  have hs2:s < Lq:=by rw [← hs];exact ss_lt sd m
  obtain ⟨M,hM⟩:∃ M,M = s + Lq:=⟨_,rfl⟩
  have lX:(F ++ Q).length = 64:=by rw [List.length_append,lF,lQ]
  have lY:(F ++ dig 256 32 M).length = 32 + 32:=by rw [List.length_append,lF,dig_length]
  have hEq:=fun w=>eq32 w Q D lQ lD
  obtain ⟨vb,hvb⟩:∃ vb,decide (Q = D) = vb:=⟨_,rfl⟩
  rw [hvb] at hEq
  have cV1:=verify_is G oG lG m om (by omega) (F ++ Q) (oF.append oQ) (b:=vb) (by rw [← eG.out,eF,one_s sd m Q oQ lQ,hs,← eD.out,hvb])
  have hMl:M < 256 ^ 32:=by rw [hM];exact Nat.lt_of_lt_of_le (Nat.add_lt_add_right hs2 Lq) (by decide +kernel)
  have cV2:=verify_is G oG lG m om (by omega) (F ++ dig 256 32 M) (oF.append (dig_lo (by decide) 32 _)) (b:=false) (over_s _ _ _ lF hMl (by omega))
  have cT:=fun (v:Value) (w:World) (hs:SlV w v (C .u8 D))=>thirty_any v D oD (by omega) (by omega) w hs
  rw [List.take_of_length_le (Nat.le_of_eq lD)] at cT
  clear eG eS eF hs hvb eQ hs2 hMl
  go_enter Tryz.func6,Tryz.ntmps6
  go_upto_region 1 with fail
  try simp only [Act.put,stA,st0,st1,alloc_size,h2]
  clear h2
  go_upto_region 3 with fail
  replace h:=h.drew
  refine wp_region_inv (by kernel_rfl) (fun a0 l b w'=>∃ (l0 l1 l2 l3 l4 l5 l6 l7 l8:Bool) (g7 g8:Nat) ,l = #[l0,l1,l2,l3,l4,l5,l6,l7,l8] ∧ b = putsA a0 [(20,l0,.agg (C .u8 sd).toArray,undef),(21,l1,.agg (C .u8 G).toArray,undef),(22,l2,.agg (C .u8 sd).toArray,undef),(23,l3,.slice ma mn mc,undef),(24,l4,.agg (C .u8 S).toArray,undef),(7,l5,.pointer (some ⟨g7,0,none⟩),undef),(8,l6,.pointer (some ⟨g8,0,none⟩),undef)] ∧ Fr w w' (opt [(true,(w.heap.size,22,C .u8 sd)),(true,((w.heap.size + 1),32,ec o)),(l5,(g7,22,bif l7 then C .u8 G else C .u8 (Z 32))),(l6,(g8,26,bif l8 then C .u8 S else C .u8 (Z 64)))]) ∧ (l7 = true → l5 = true) ∧ (l8 = true → l6 = true)) ?start ?step ?rest
  case start=>exact ⟨false,false,false,false,false,false,false,false,false,0,0,by kernel_rfl,by kernel_rfl,h,(fun e=>by cases e),(fun e=>by cases e)⟩
  case step =>
   clear h
   intro l b w' hI i hi
   obtain ⟨l0,l1,l2,l3,l4,l5,l6,l7,l8,g7,g8,rfl,rfl,h,hc7,hc8⟩:=hI
   have hlt:i < 9:=ready_lt hi
   obtain rfl | rfl | rfl | rfl | rfl | rfl | rfl | rfl | rfl:=(by omega:i = 0 ∨ i = 1 ∨ i = 2 ∨ i = 3 ∨ i = 4 ∨ i = 5 ∨ i = 6 ∨ i = 7 ∨ i = 8)
   all_goals (obtain ⟨hn,hd⟩:=rin hi rfl;cases hn;(repeat (obtain ⟨hn,hd⟩:=hd;cases hn));clear hi hlt hd;refine wpOp_inv rfl rfl (fun K hK=>?_);simp only [putsA,Act.put,stA,st0,st1,cond_true,cond_false] at h ⊢)
   ·refine wp_value (.agg (C .u8 sd).toArray) (exec_load_W 22 _ rfl rfl (h.rowo (k:=0) rfl) Tryz.underlying22 rfl (iB ls)) ?_
    refine hK.out _ _ ⟨_,_,_,_,_,_,_,_,_,_,_,rfl,by kernel_rfl,h,?_,?_⟩ <;> first | assumption | exact fun _=>rfl | exact nofun
   ·go_simp
    refine callOK (cG _ (hT.below h.bel)) h ?_
    clear h
    rintro _ wn rfl h
    refine hK.out _ _ ⟨_,_,_,_,_,_,_,_,_,_,_,rfl,by kernel_rfl,h,?_,?_⟩ <;> first | assumption | exact fun _=>rfl | exact nofun
   ·refine wp_value (.agg (C .u8 sd).toArray) (exec_load_W 22 _ rfl rfl (h.rowo (k:=0) rfl) Tryz.underlying22 rfl (iB ls)) ?_
    refine hK.out _ _ ⟨_,_,_,_,_,_,_,_,_,_,_,rfl,by kernel_rfl,h,?_,?_⟩ <;> first | assumption | exact fun _=>rfl | exact nofun
   ·refine wp_value (.slice ma mn mc) (by go_simp) ?_
    refine hK.out _ _ ⟨_,_,_,_,_,_,_,_,_,_,_,rfl,by kernel_rfl,h,?_,?_⟩ <;> first | assumption | exact fun _=>rfl | exact nofun
   ·go_simp
    refine callOK (cS _ _ (hv.below h.bel) (hT.below h.bel)) h ?_
    clear h
    rintro _ wn rfl h
    refine hK.out _ _ ⟨_,_,_,_,_,_,_,_,_,_,_,rfl,by kernel_rfl,h,?_,?_⟩ <;> first | assumption | exact fun _=>rfl | exact nofun
   ·obtain rfl:l7 = false:=by cases l7 with | false=>rfl | true=>exact absurd (hc7 rfl) (by decide)
    simp only [cond_false] at h ⊢
    refine wp_alloc_R 22 rfl (C .u8 (Z 32)) z32 ?_
    obtain ⟨gn,hgq,hq⟩:=h.on (k:=2) rfl 22 (C .u8 (Z 32))
    rw [hgq]
    refine hK.out _ _ ⟨_,_,_,_,_,_,_,_,_,_,_,rfl,by kernel_rfl,hq,?_,?_⟩ <;> first | assumption | exact fun _=>rfl | exact nofun
   ·obtain rfl:l8 = false:=by cases l8 with | false=>rfl | true=>exact absurd (hc8 rfl) (by decide)
    simp only [cond_false] at h ⊢
    refine wp_alloc_R 26 rfl (C .u8 (Z 64)) zW ?_
    obtain ⟨gn,hgq,hq⟩:=h.on (k:=3) rfl 26 (C .u8 (Z 64))
    rw [hgq]
    refine hK.out _ _ ⟨_,_,_,_,_,_,_,_,_,_,_,rfl,by kernel_rfl,hq,?_,?_⟩ <;> first | assumption | exact fun _=>rfl | exact nofun
   ·refine wp_store_R 22 _ _ rfl _ (C .u8 G) rfl rfl (h.rowo (k:=2) rfl) (iB (by first | assumption | rfl | (apply lLo;assumption) | (apply lHi;assumption) | (rw [List.length_append];omega))) (zB (n:=32) rfl (by first | assumption | rfl | (apply lLo;assumption) | (apply lHi;assumption) | (rw [List.length_append];omega))) (C_allL _ _) ?_
    intro wz q hg hz
    replace h:=h.puto (k:=2) rfl q hg
    refine hK.out _ _ ⟨_,_,_,_,_,_,_,_,_,_,_,rfl,by kernel_rfl,h,?_,?_⟩ <;> first | assumption | exact fun _=>rfl | exact nofun
   ·refine wp_store_R 26 _ _ rfl _ (C .u8 S) rfl rfl (h.rowo (k:=3) rfl) (iW (by first | assumption | rfl | (apply lLo;assumption) | (apply lHi;assumption) | (rw [List.length_append];omega))) (zB (n:=64) rfl (by first | assumption | rfl | (apply lLo;assumption) | (apply lHi;assumption) | (rw [List.length_append];omega))) (C_allL _ _) ?_
    intro wz q hg hz
    replace h:=h.puto (k:=3) rfl q hg
    refine hK.out _ _ ⟨_,_,_,_,_,_,_,_,_,_,_,rfl,by kernel_rfl,h,?_,?_⟩ <;> first | assumption | exact fun _=>rfl | exact nofun
  case rest =>
   clear h
   intro l b w' hI hr
   obtain ⟨l0,l1,l2,l3,l4,l5,l6,l7,l8,g7,g8,rfl,rfl,h,hc7,hc8⟩:=hI
   cases rall hr rfl (by rfl)
   clear hr hc7 hc8
   simp only [putsA,Act.put,stA,st0,st1,cond_true]
   replace h:Fr w w' [(w.heap.size,22,C .u8 sd),((w.heap.size + 1),32,ec o),(g7,22,C .u8 G),(g8,26,C .u8 S)]:=h
   go_upto_region 4 with fail
   go_wp2_with (fail)
   refine callOK (cT _ _ (hD ▸ slHi (h.row (i:=3) rfl) lS)) h ?_
   clear h
   rintro _ wn rfl h
   obtain ⟨g9,hgq0,hq0⟩:=h.more 4 22 (C .u8 (Z 32))
   replace hq0:Fr w _ [(w.heap.size,22,C .u8 sd),((w.heap.size + 1),32,ec o),(g7,22,C .u8 G),(g8,26,C .u8 S),(g9,22,C .u8 (Z 32))]:=hq0
   go_upto_region 5 with (first | refine wpList_alloc_row rfl 22 rfl _ z32 ?_ | (refine wpList_store_R rfl 22 _ _ rfl _ (C .u8 D) (congrArg (fun g=>Value.pointer (some ⟨g,0,none⟩)) hgq0) rfl (hq0.row (i:=4) rfl) (iB (by first | assumption | rfl | (apply lLo;assumption) | (apply lHi;assumption) | (rw [List.length_append];omega))) (zB (n:=32) rfl (by first | assumption | rfl | (apply lLo;assumption) | (apply lHi;assumption) | (rw [List.length_append];omega)))  (C_allL _ _) ?_;intro wz0 q0 hg0 hz0))
   replace h:Fr w wz0 [(w.heap.size,22,C .u8 sd),((w.heap.size + 1),32,ec o),(g7,22,C .u8 G),(g8,26,C .u8 S),(g9,22,C .u8 D)]:=(hq0.put (i:=4) rfl q0 hg0)
   try rw [hgq0]
   clear q0 hg0 hz0 hq0 hgq0
   go_wp2_with (first | refine wpList_load_row rfl 32 _ rfl _ rfl _ _ _ _ (h.row (i:=1) rfl) Tryz.underlying32 rfl (ie4 _) ?_)
   refine callOK (cB _ (hT.below h.bel)) h ?_
   clear h
   rintro _ wn rfl h
   obtain ⟨g10,hgq0,hq0⟩:=h.more 5 22 (C .u8 (Z 32))
   replace hq0:Fr w _ [(w.heap.size,22,C .u8 sd),((w.heap.size + 1),32,ec o),(g7,22,C .u8 G),(g8,26,C .u8 S),(g9,22,C .u8 D),(g10,22,C .u8 (Z 32))]:=hq0
   go_upto_region 6 with (first | refine wpList_alloc_row rfl 22 rfl _ z32 ?_ | (refine wpList_store_R rfl 22 _ _ rfl _ (C .u8 Q) (congrArg (fun g=>Value.pointer (some ⟨g,0,none⟩)) hgq0) rfl (hq0.row (i:=5) rfl) (iB (by first | assumption | rfl | (apply lLo;assumption) | (apply lHi;assumption) | (rw [List.length_append];omega))) (zB (n:=32) rfl (by first | assumption | rfl | (apply lLo;assumption) | (apply lHi;assumption) | (rw [List.length_append];omega)))  (C_allL _ _) ?_;intro wz0 q0 hg0 hz0))
   replace h:Fr w wz0 [(w.heap.size,22,C .u8 sd),((w.heap.size + 1),32,ec o),(g7,22,C .u8 G),(g8,26,C .u8 S),(g9,22,C .u8 D),(g10,22,C .u8 Q)]:=(hq0.put (i:=5) rfl q0 hg0)
   try rw [hgq0]
   clear q0 hg0 hz0 hq0 hgq0
   have hO:=Ow.empty h 5
   have hSl:=slLo (hO.h.row (i:=3) rfl) lS
   rw [hF] at hSl
   go_upto_region 7 with (at_builtin;refine wpList_append_at rfl (.tmp 29) (.tmp 30) 23 rfl w.heap.size 5 _ 1 Tryz.underlying23 S3.inf8 rfl _ 0 [] rfl hO.o _ (C .u8 F) rfl hSl (C_one _ _) (by rw [C_length,lF];unfold maxLen;decide) (by rw [C_length,lF];decide) hO.h.bel.size ?_;intro v1 w1 ho1 hg1 hw1)
   replace hO:=hO.app ho1 hg1 hw1
   rw [List.nil_append,C_length,lF] at hO
   clear ho1 hg1 hw1 hSl h
   have hSl:=slB (hO.h.row (i:=5) rfl) lQ (by decide)
   go_upto_region 8 with (at_builtin;refine wpList_append_at rfl (.tmp 32) (.tmp 33) 23 rfl w.heap.size 5 _ 1 Tryz.underlying23 S3.inf8 rfl _ _ _ rfl hO.o _ (C .u8 Q) rfl hSl (C_one _ _) (by rw [C_length,lQ];unfold maxLen;decide) (by rw [C_length,lQ];decide) hO.h.bel.size ?_;intro v2 w2 ho2 hg2 hw2)
   replace hO:=hO.app ho2 hg2 hw2
   rw [← C_append,C_length,lQ] at hO
   obtain ⟨gx,cap,rest,rfl,hc1,hc2,h⟩:=hO.row (by omega)
   try rw [show 0 + 32 + 32 = 64 from rfl] at hc1 ⊢
   clear ho2 hg2 hw2 hSl hO
   replace h:Fr w w2 [(w.heap.size,22,C .u8 sd),((w.heap.size + 1),32,ec o),(g7,22,C .u8 G),(g8,26,C .u8 S),(g9,22,C .u8 D),(g10,22,C .u8 Q),(gx,5,C .u8 (F ++ Q) ++ rest)]:=h
   try simp only [Act.put,stA,st0,st1]
   replace h:=h.drew
   refine wp_region_inv (by kernel_rfl) (fun a0 l b w'=>∃ (l0 l1 l2 l3 l4 l5 l6 l7:Bool) ,l = #[l0,l1,l2,l3,l4,l5,l6,l7] ∧ b = putsA a0 [(35,l0,.agg (C .u8 G).toArray,undef),(36,l1,.slice ma mn mc,undef),(37,l2,.slice (some ⟨gx,0,none⟩) 64 cap,undef),(38,l3,.bool vb,undef),(39,l4,.agg (C .u8 Q).toArray,undef),(40,l5,.agg (C .u8 D).toArray,undef),(41,l6,.bool vb,undef),(42,l7,.bool false,undef)] ∧ Fr w w' (opt [(true,(w.heap.size,22,C .u8 sd)),(true,((w.heap.size + 1),32,ec o)),(true,(g7,22,C .u8 G)),(true,(g8,26,C .u8 S)),(true,(g9,22,C .u8 D)),(true,(g10,22,C .u8 Q)),(true,(gx,5,C .u8 (F ++ Q) ++ rest))])) ?start ?step ?rest
   case start=>exact ⟨false,false,false,false,false,false,false,false,by kernel_rfl,by kernel_rfl,h⟩
   case step =>
    clear h
    intro l b w' hI i hi
    obtain ⟨l0,l1,l2,l3,l4,l5,l6,l7,rfl,rfl,h⟩:=hI
    have hlt:i < 8:=ready_lt hi
    obtain rfl | rfl | rfl | rfl | rfl | rfl | rfl | rfl:=(by omega:i = 0 ∨ i = 1 ∨ i = 2 ∨ i = 3 ∨ i = 4 ∨ i = 5 ∨ i = 6 ∨ i = 7)
    all_goals (obtain ⟨hn,hd⟩:=rin hi rfl;cases hn;(repeat (obtain ⟨hn,hd⟩:=hd;cases hn));clear hi hlt hd;refine wpOp_inv rfl rfl (fun K hK=>?_);simp only [putsA,Act.put,stA,st0,st1,cond_true,cond_false] at h ⊢)
    ·refine wp_value (.agg (C .u8 G).toArray) (exec_load_W 22 _ rfl rfl (h.rowo (k:=2) rfl) Tryz.underlying22 rfl (iB lG)) ?_
     exact hK.out _ _ ⟨_,_,_,_,_,_,_,_,rfl,by kernel_rfl,h⟩
    ·refine wp_value (.slice ma mn mc) (by go_simp) ?_
     exact hK.out _ _ ⟨_,_,_,_,_,_,_,_,rfl,by kernel_rfl,h⟩
    ·refine wp_value (.slice (some ⟨gx,0,none⟩) 64 cap) (by go_simp) ?_
     exact hK.out _ _ ⟨_,_,_,_,_,_,_,_,rfl,by kernel_rfl,h⟩
    ·go_simp
     refine callOK (cV1 _ _ _ (hv.below h.bel) (row_sl (h.rowo (k:=6) rfl) lX hc1 hc2) (hT.below h.bel)) h ?_
     clear h
     rintro _ wn rfl h
     exact hK.out _ _ ⟨_,_,_,_,_,_,_,_,rfl,by kernel_rfl,h⟩
    ·refine wp_value (.agg (C .u8 Q).toArray) (exec_load_W 22 _ rfl rfl (h.rowo (k:=5) rfl) Tryz.underlying22 rfl (iB lQ)) ?_
     exact hK.out _ _ ⟨_,_,_,_,_,_,_,_,rfl,by kernel_rfl,h⟩
    ·refine wp_value (.agg (C .u8 D).toArray) (exec_load_W 22 _ rfl rfl (h.rowo (k:=4) rfl) Tryz.underlying22 rfl (iB lD)) ?_
     exact hK.out _ _ ⟨_,_,_,_,_,_,_,_,rfl,by kernel_rfl,h⟩
    ·refine wp_value (.bool vb) (by go_simp) ?_
     exact hK.out _ _ ⟨_,_,_,_,_,_,_,_,rfl,by kernel_rfl,h⟩
    ·refine wp_value (.bool false) (by go_simp) ?_
     exact hK.out _ _ ⟨_,_,_,_,_,_,_,_,rfl,by kernel_rfl,h⟩
   case rest =>
    clear h
    intro l b w' hI hr
    obtain ⟨l0,l1,l2,l3,l4,l5,l6,l7,rfl,rfl,h⟩:=hI
    cases rall hr rfl (by rfl)
    clear hr
    simp only [putsA,Act.put,stA,st0,st1,cond_true]
    replace h:Fr w w' [(w.heap.size,22,C .u8 sd),((w.heap.size + 1),32,ec o),(g7,22,C .u8 G),(g8,26,C .u8 S),(g9,22,C .u8 D),(g10,22,C .u8 Q),(gx,5,C .u8 (F ++ Q) ++ rest)]:=h
    go_upto_region 10 with fail
    go_wp2_with (fail)
    refine callOK (reforder_any _) h ?_
    clear h
    rintro _ wn rfl h
    obtain ⟨g12,hgq0,hq0⟩:=h.more 7 32 (ec 0)
    replace hq0:Fr w _ [(w.heap.size,22,C .u8 sd),((w.heap.size + 1),32,ec o),(g7,22,C .u8 G),(g8,26,C .u8 S),(g9,22,C .u8 D),(g10,22,C .u8 Q),(gx,5,C .u8 (F ++ Q) ++ rest),(g12,32,ec 0)]:=hq0
    go_upto_region 11 with (first | refine wpList_alloc_row rfl 32 rfl _ z4w ?_ | (refine wpList_store_R rfl 32 _ _ rfl _ (ec Lq) (congrArg (fun g=>Value.pointer (some ⟨g,0,none⟩)) hgq0) rfl (hq0.row (i:=7) rfl) (ie4 _) rfl (ec_all _) ?_;intro wz0 q0 hg0 hz0))
    replace h:Fr w wz0 [(w.heap.size,22,C .u8 sd),((w.heap.size + 1),32,ec o),(g7,22,C .u8 G),(g8,26,C .u8 S),(g9,22,C .u8 D),(g10,22,C .u8 Q),(gx,5,C .u8 (F ++ Q) ++ rest),(g12,32,ec Lq)]:=(hq0.put (i:=7) rfl q0 hg0)
    try rw [hgq0]
    clear q0 hg0 hz0 hq0 hgq0
    have hO:=Ow.empty h 5
    have hSl:=slLo (hO.h.row (i:=3) rfl) lS
    rw [hF] at hSl
    go_upto_region 12 with (at_builtin;refine wpList_append_at rfl (.tmp 44) (.tmp 45) 23 rfl w.heap.size 5 _ 1 Tryz.underlying23 S3.inf8 rfl _ 0 [] rfl hO.o _ (C .u8 F) rfl hSl (C_one _ _) (by rw [C_length,lF];unfold maxLen;decide) (by rw [C_length,lF];decide) hO.h.bel.size ?_;intro v1 w1 ho1 hg1 hw1)
    replace hO:=hO.app ho1 hg1 hw1
    rw [List.nil_append,C_length,lF] at hO
    clear ho1 hg1 hw1 hSl h
    have hO0:Ow w w1 [(w.heap.size,22,C .u8 sd),((w.heap.size + 1),32,ec o),(g7,22,C .u8 G),(g8,26,C .u8 S),(g9,22,C .u8 D),(g10,22,C .u8 Q),(gx,5,C .u8 (F ++ Q) ++ rest),(g12,32,ec Lq)] 5 v1 (32 + 0) (C .u8 (F ++ (dig 256 32 M).take 0)):=by rw [List.take_zero,List.append_nil];exact hO
    go_wp2
    go_loopw [13,14,15] (fun y c i wr=>∃ (k:Nat) (v:Value) (cc:Nat),k ≤ 32 ∧ i = .int .i64 k ∧ c = .int .u64 (cc:Int) ∧ y = v ∧ Ow w wr [(w.heap.size,22,C .u8 sd),((w.heap.size + 1),32,ec o),(g7,22,C .u8 G),(g8,26,C .u8 S),(g9,22,C .u8 D),(g10,22,C .u8 Q),(gx,5,C .u8 (F ++ Q) ++ rest),(g12,32,ec Lq)] 5 v (32 + k) (C .u8 (F ++ (dig 256 32 M).take k)) ∧ Away (M / 256 ^ k = s / 256 ^ k + Lq / 256 ^ k + cc ∧ cc ≤ 1)) (fun _ _ i _=>32 - (intOf i).toNat)
    case atStart=>exact ⟨0,_,0,by decide,rfl,rfl,rfl,hO0,⟨by rw [Nat.pow_zero,Nat.div_one,Nat.div_one,Nat.div_one,Nat.add_zero];exact ⟨hM,by decide⟩⟩⟩
    case round =>
     clear hO hO0
     obtain ⟨k,v,cc,hk,rfl,rfl,rfl,hO,hA⟩:=hrel
     by_cases hlt:k < 32
     ·have bk:(k:Int) < 32:=by omega
      obtain ⟨x,dd,t,hx,hd,ht1,ht2,hlx,hdl,hzl,hA2⟩:=carry_step (s:=s) (M:=M) hlt hA.out
      have c9:=(hO.h.row (i:=4) rfl).cell k
      rw [C_get .u8 (by omega),eD.out,hd] at c9
      have c12:=(hO.h.row (i:=7) rfl).cell (k / 8)
      rw [C_get .u64 (by rw [wds_length];omega),hx] at c12
      obtain ⟨q,hq⟩:∃ q,k / 8 = q:=⟨_,rfl⟩
      obtain ⟨r,hr⟩:∃ r,k % 8 = r:=⟨_,rfl⟩
      rw [hq] at c12
      rw [hr] at ht1 hzl
      obtain ⟨u,hu⟩:∃ u,8 * r = u:=⟨_,rfl⟩
      rw [hu] at ht1 hzl
      obtain ⟨y,hy⟩:∃ y,x / 2 ^ u = y:=⟨_,rfl⟩
      rw [hy] at ht1 hzl
      have hyl:y < 18446744073709551616:=by rw [← hy];exact Nat.lt_of_le_of_lt (Nat.div_le_self _ _) hlx
      have ey:(x:Int) / 2 ^ u = (y:Int):=by rw [← hy];simp
      obtain ⟨zz,hzz⟩:∃ zz,y % 256 = zz:=⟨_,rfl⟩
      rw [hzz] at ht1
      have ez:bits .and .u64 (y:Int) 255 = (zz:Int):=(u64_and_nat y 255 hyl (by decide)).trans (by rw [show (255:Nat) = 2 ^ 8 - 1 from rfl,Nat.and_two_pow_sub_one_eq_mod];exact congrArg _ hzz)
      have dq:(k:Int).tdiv 8 = (q:Int):=by rw [Int.tdiv_eq_ediv_of_nonneg (by omega)];omega
      have dq':(k:Int) / 8 = (q:Int):=by omega
      have bq:(q:Int) < 4:=by omega
      have dr:(k:Int).tmod 8 = (r:Int):=by rw [Int.tmod_eq_emod_of_nonneg (by omega)];omega
      have dr':(k:Int) % 8 = (r:Int):=by omega
      have ds:IntKind.i64.wrap (8 * (r:Int)) = (u:Int):=by rw [IntWalk.i64_in _ ⟨by omega,by omega⟩];omega
      have ds':8 * (r:Int) = (u:Int):=by omega
      have du:IntKind.u64.wrap (u:Int) = (u:Int):=by rw [IntKind.wrap_u64];omega
      have bs:(u:Int) < 64:=by omega
      have wd:IntKind.u64.wrap (dd:Int) = (dd:Int):=by rw [IntKind.wrap_u64];omega
      obtain ⟨e1,he1⟩:∃ e1,cc + dd = e1:=⟨_,rfl⟩
      have hcc:=hA.out.2
      have w1e:IntKind.u64.wrap ((cc:Int) + (dd:Int)) = (e1:Int):=by rw [IntKind.wrap_u64];omega
      have w2e:IntKind.u64.wrap ((e1:Int) + (zz:Int)) = (t:Int):=by rw [IntKind.wrap_u64];omega
      obtain ⟨b,hb⟩:∃ b,t % 256 = b:=⟨_,rfl⟩
      have w3e:IntKind.u8.wrap (t:Int) = (b:Int):=by rw [IntKind.wrap_u8];omega
      have w3e':(t:Int) % 256 = (b:Int):=by omega
      obtain ⟨c2,hc2x⟩:∃ c2,t / 256 = c2:=⟨_,rfl⟩
      have w4e:(t:Int) / 256 = (c2:Int):=by omega
      rw [hb] at ht2
      rw [hc2x] at hA2
      have HT2:=Away.mk ht2
      have HA2:=Away.mk hA2
      have HD:=Away.mk hd
      clear hx hd ht1 ht2 hA2 hA hq hr hu hy hzz he1 hb hc2x hyl hzl hlx hcc
      go_upto_region 16 with fail
      go_region
      replace hO:=hO.drew
      obtain ⟨gb,hgq,hq⟩:=hO.more 8 5 (C .u8 [b])
      have hSl:=slB (n:=1) (hq.h.row (i:=8) rfl) rfl (by decide)
      go_upto_region 18 with (first | (refine wpList_parts rfl 23 5 1 _ rfl (C .u8 [b]) (by first | rfl | kernel_rfl) Tryz.underlying23 sl8 uz8 rfl (by decide) (by decide) rfl ?_;try rw [hgq]) | (at_builtin;refine wpList_append_at rfl (.tmp 68) (.tmp 71) 23 rfl w.heap.size 5 _ 1 Tryz.underlying23 S3.inf8 rfl _ _ _ rfl hq.o _ (C .u8 [b]) rfl hSl (C_one _ _) (by show _ + 1 ≤ _;unfold maxLen;omega) (by show (_ + 1) * 1 ≤ _;omega) hq.h.bel.size ?_;intro v3 w3 ho3 hg3 hw3))
      replace hq:=hq.app ho3 hg3 hw3
      rw [← C_append,List.append_assoc,HT2.out] at hq
      have hq2:=hq.fewer 8
      clear ho3 hg3 hw3 hq hSl hO hgq
      go_wp2_with fail
      go_roundw
      case rel=>exact ⟨k + 1,v3,c2,by omega,by go_num,rfl,rfl,hq2,HA2⟩
      case measure=>simp [intOf];omega
     ·obtain rfl:k = 32:=by omega
      rw [List.take_of_length_le (Nat.le_of_eq (dig_length _ _ _))] at hO
      obtain ⟨gy,cap2,rest2,rfl,hd1,hd2,h⟩:=hO.row (by omega)
      clear hO hA
      go_wp2_with fail
      refine callOK (alive14_true _ (hT.below h.bel)) h ?_
      clear h
      rintro _ wn rfl h
      go_wp2_with (refine wpList_load_WG (by rfl) 22 _ rfl rfl (h.row (i:=2) rfl) Tryz.underlying22 rfl (iB lG) ?_)
      refine callOK (cV2 _ _ _ (hv.below h.bel) (row_sl (h.row (i:=8) rfl) lY hd1 hd2) (hT.below h.bel)) h ?_
      clear h
      rintro _ wn2 rfl h
      go_wp2
      go_ret
      exact ⟨rfl,h.bel⟩
set_option maxRecDepth 100000 in
theorem lifted (os:Os) (started:os.Started) (H:Type) (enc:TypeId × Value → H) :
  ReturnsInHanded {} Tryz.checked os 6 .any (fun w args=>(Rows.eddsaOneSpec.pre enc Tryz.prog Tryz.f6 [] false w args ∧ laidMetH Tryz.prog F.laid1 w) ∧ sizedMet enc Tryz.prog Tryz.f6 (OpenSpec.ofChange Rows.eddsaOneSpec) false w args) (Rows.eddsaOneSpec.post enc Tryz.prog Tryz.f6 false true false false):=by
 refine returnsInHanded_of_change_and (C:=Tryz.checked) (X:=fun w _=>laidMetH Tryz.prog F.laid1 w) (fun _ _ _ hh h=>h.of_heap hh) own started (by kernel_rfl) Tryz.func6
  (ChangeSpec.witness_shaped (enc:=enc) (C:=Tryz.checked) (os:=os) (X:=fun w _=>laidMetH Tryz.prog F.laid1 w) false (World.doorLaid Tryz.prog 400 os) #[.agg (C .u8 (Z 32)).toArray,.slice none 0 0,.agg (C .u64 (Z 4)).toArray] 8 rfl (World.shaped_of_RefB (by kernel_rfl) (by kernel_rfl)) (by kernel_rfl) (by kernel_rfl) (by kernel_rfl) (F.door_met os _)) ?_
 intro W base args ds gs before hval0 hW _ _ hLd _
 have hval:∀ (j:Nat) t v,Tryz.f6.params[j]? = some t → args[j]? = some v → Value.okWide Tryz.prog W .any base t v:=hval0
 have hW':=hW
 obtain ⟨p,q,hA0,hV,rfl,hfz,hnd⟩:=hW
 have hA:DataW.TrodAll enc Tryz.prog W 0 (fun _=>true) true Tryz.f6.params.toList args.toList ds p:=hA0
 rw [Tryz.params6] at hA hval
 obtain ⟨v0,vs0,d0,ds0,p0,q0,hargs,rfl,rfl,h0,r0⟩:=trodAll_cons hA
 obtain ⟨v1,vs1,d1,ds1,p1,q1,rfl,rfl,rfl,h1,r1⟩:=trodAll_cons r0
 obtain ⟨v2,vs2,d2,ds2,p2,q2,rfl,rfl,rfl,h2,r2⟩:=trodAll_cons r1
 obtain ⟨rfl,rfl,rfl⟩:=trodAll_nil r2
 obtain rfl:args = #[v0,v1,v2]:=by cases args;simp_all
 obtain ⟨rfl,rfl⟩:=trodVars_none hV
 obtain ⟨a1,len1,cap1,rfl⟩:=okWide_slice Tryz.underlying23 (hval 1 23 v1 rfl rfl)
 have k0:=h0
 have lt0:∀ x ∈ p0,x.block < W.heap.size:=by obtain ⟨m,hm⟩:=k0;exact DataW.trod_lt m _ _ _ hm
 have k1:=h1
 have lt1:∀ x ∈ p1,x.block < W.heap.size:=by obtain ⟨m,hm⟩:=k1;exact DataW.trod_lt m _ _ _ hm
 have k2:=h2
 have lt2:∀ x ∈ p2,x.block < W.heap.size:=by obtain ⟨m,hm⟩:=k2;exact DataW.trod_lt m _ _ _ hm
 obtain ⟨z0,rfl,hl0,hz0⟩:=open_array Tryz.underlying22 Tryz.underlying5 (by kernel_rfl) (by kernel_rfl) (hval 0 22 v0 rfl rfl) h0
 obtain ⟨n0,e0,l0,b0⟩:=arr_bytes hz0
 obtain ⟨z1,w1⟩:∃ zs,IsRow .u8 W a1 len1 cap1 zs:=by
  obtain ⟨fuel,hf⟩:=h1
  rcases open_ints Tryz.underlying23 Tryz.underlying5 (by kernel_rfl) hf with ⟨hcs,_⟩ | ⟨x,l,c,zs,hcs,_,hl,hm,hz,_,hcell,hwz⟩
  ·simp [Value.cells] at hcs
   obtain ⟨rfl,rfl,rfl⟩:=hcs
   exact ⟨[],.inl ⟨rfl,rfl,rfl,rfl⟩⟩
  ·simp [Value.cells] at hcs
   obtain ⟨rfl,rfl,rfl⟩:=hcs
   exact ⟨zs,.inr ⟨_,rfl,hl,hm,by simpa using hz,hcell,hwz⟩⟩
 obtain ⟨n1,s1,l1,b1⟩:=w1.bytes
 obtain ⟨z2,rfl,hl2,hz2⟩:=open_array Tryz.underlying32 Tryz.underlying30 (by kernel_rfl) (by kernel_rfl) (hval 2 32 v2 rfl rfl) h2
 obtain ⟨n2,b2,e2⟩:=elem_of hl2 hz2
 rw [e0,e2] at hW' ⊢
 rw [e0] at k0
 rw [e2] at k2
 clear hA0 hval0
 refine (walk n0 b0 (l0.trans hl0) a1 len1 cap1 n1 b1 l1 n2 b2 W s1 (F.of_laid hLd)).mono fun e W' ⟨he,bel⟩=>?_
 subst he
 exact ⟨_,rfl,_,_,_,[],_,[],hW',trodAll_mk1 (shut_bool Tryz.underlying4 _),(trodAll_cons_mk (Below.trod laidOut (by kernel_rfl) (of_decide_eq_true (by kernel_rfl)) k0 bel lt0) (trodAll_cons_mk (Below.trod laidOut (by kernel_rfl) (of_decide_eq_true (by kernel_rfl)) k1 bel lt1) (trodAll_cons_mk (Below.trod laidOut (by kernel_rfl) (of_decide_eq_true (by kernel_rfl)) k2 bel lt2) trodAll_mk0))),rfl,bel.frame _,fun h=>by cases h⟩
theorem over:Rows.eddsaOneRow.holds Tryz.pinned (OpenSpec.ofChange Rows.eddsaOneSpec) :=
 OpenClaim.holds_of_wide 6 Tryz.f6 rfl rfl rfl rfl rfl rfl rfl ⟨rfl,rfl,rfl,rfl,rfl⟩ rfl rfl rfl rfl rfl (by kernel_rfl) Tryz.func6 (by kernel_rfl)
  (of_decide_eq_true (by kernel_rfl)) (by unfold Func.isWrapper;first | (rw [if_pos (by decide +kernel)];kernel_rfl) | (rw [if_neg (by decide +kernel)];exact ⟨rfl,rfl⟩))
  (fun os started H enc _=>lifted os started H enc)
end Go.Proofs.YtmjimilhomabfaaGreatDoor.eddsaOne
namespace Go.Proofs.YtmjimilhomabfaaGreatDoor
theorem eddsaOne_proved:Rows.EddsaOneCardSaid :=
 Claim7.holds_tied_plain_at .later [] [.data, .data, .data, .data, .data, .data, .data, .data, .data] true (true, "32266f3c2c1da12c4b3768ac40d32ab501c6aa104d3de57cff571e22d9757302") false
  eddsaOne.over (fun _ h=>by cases h) (by kernel_rfl) (fun _ h=>by cases h) eddsaOne_row_tie rfl ⟨rfl,rfl⟩ (by kernel_rfl) rfl
  (fun f fn hf hfn=>by
   obtain rfl : f = 6 := Option.some.inj ((show Tryz.prog.funcNamed "affiant/affiantlaw14.EddsaOne" = some 6 by kernel_rfl).symm.trans hf) |>.symm
   obtain rfl:fn = Tryz.f6:=(Option.some.inj (Tryz.func6.symm.trans hfn)).symm
   exact ⟨by kernel_rfl,fun j t ht=>by
    rw [Tryz.params6] at ht
    have hm:t ∈ ([22,23,32]:List TypeId):=by simpa using Array.mem_of_getElem? ht
    have hall:(([22,23,32]:List TypeId).all fun u=>!Tryz.prog.wantsStandIn u) = true:=by kernel_rfl
    exact (show Tryz.prog.wantsStandIn t = false by simpa using List.all_eq_true.1 hall t hm)⟩)
  (by kernel_rfl)
end Go.Proofs.YtmjimilhomabfaaGreatDoor
