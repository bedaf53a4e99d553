/-
 Mul, the program's; Pack, the program's and the document's; the document's Base; over this seat's translation. Conditions: each as it says.
-/
import Derived.Test.YtmjimilhomabfaaGreatDoorEpM
namespace Go.Proofs.YtmjimilhomabfaaGreatDoor.F
open Go.RowKit
set_option linter.unusedVariables false
set_option maxRecDepth 10000
open E (z z_val z_same z_add z_mul z_sub z_inv z_mod z_of dd Pt padd pneg pmul iv ax ay Sc)
set_option maxHeartbeats 1000000 in
theorem mul_any (k1 A B:Nat) (lk1:k1 < 115792089237316195423570985008687907853269984665640564039457584007913129639936) (lA:A < 115792089237316195423570985008687907853269984665640564039457584007913129639936) (lB:B < 115792089237316195423570985008687907853269984665640564039457584007913129639936) (w:World) (hI:TI w):Calls Tryz.prog 43 #[.agg (ec k1).toArray,.agg (pc A B).toArray] w fun e w'=>e = .returned (.agg (pv (pmul k1 (ownP A B))).toArray) ∧ Below w.heap.size w w':=by
 obtain ⟨w2,h2,h⟩:=Fr.three w 32 44 44 (ec k1) (pc A B) (pc 0 0)
 have cB:=both_any k1 A B 0 0 1 lk1 lA lB (by decide) (by decide) (by decide)
 rw [show padd (pmul k1 (ownP A B)) (pmul 0 (ownP 0 1)) = pmul k1 (ownP A B) from E.padd_zero _] at cB
 obtain ⟨RX,RY,hR⟩:∃ a b,pv (pmul k1 (ownP A B)) = pc a b:=⟨_,_,rfl⟩
 rw [hR] at cB ⊢
 clear hR
 go_enter Tryz.func43,Tryz.ntmps43
 go_upto_region 1 with (refine wpList_alloc_row rfl 44 rfl _ zPw ?_)
 try simp only [Act.put,stA,st0,st1,alloc_size,h2]
 clear h2
 replace h:=h.drew
 refine wp_region_inv (by kernel_rfl) (fun a0 l b w'=>∃ (l0 l1 l2 l3 l4 l5:Bool) ,l = #[l0,l1,l2,l3,l4,l5] ∧ b = putsA a0 [(5,l0,.agg (ec k1).toArray,undef),(6,l1,.agg (pc A B).toArray,undef),(7,l2,.agg (ec 0).toArray,undef),(8,l3,.agg (pc 0 1).toArray,undef),(9,l4,.agg (pc RX RY).toArray,undef)] ∧ Fr w w' (opt [(true,(w.heap.size,32,ec k1)),(true,((w.heap.size + 1),44,pc A B)),(true,((w.heap.size + 1 + 1),44,bif l5 then pc RX RY else pc 0 0))])) ?start ?step ?rest
 case start=>exact ⟨false,false,false,false,false,false,by kernel_rfl,by kernel_rfl,h⟩
 case step =>
  clear h
  intro l b w' hI i hi
  obtain ⟨l0,l1,l2,l3,l4,l5,rfl,rfl,h⟩:=hI
  have hlt:i < 6:=ready_lt hi
  obtain rfl | rfl | rfl | rfl | rfl | rfl:=(by omega:i = 0 ∨ i = 1 ∨ i = 2 ∨ i = 3 ∨ i = 4 ∨ i = 5)
  all_goals (obtain ⟨hn,hd⟩:=rin hi rfl;cases hn;(repeat (obtain ⟨hn,hd⟩:=hd;cases hn));clear hi hlt hd;refine wpOp_inv rfl rfl (fun K hK=>?_);simp only [putsA,Act.put,stA,st0,st1,cond_true,cond_false] at h ⊢)
  ·refine wp_value (.agg (ec k1).toArray) (exec_load_W 32 _ rfl rfl (h.rowo (k:=0) rfl) Tryz.underlying32 rfl (ie4 _)) ?_
   exact hK.out _ _ ⟨_,_,_,_,_,_,rfl,by kernel_rfl,h⟩
  ·refine wp_value (.agg (pc A B).toArray) (exec_load_W 44 _ rfl rfl (h.rowo (k:=1) rfl) Tryz.underlying44 rfl (iP _ _)) ?_
   exact hK.out _ _ ⟨_,_,_,_,_,_,rfl,by kernel_rfl,h⟩
  ·refine wp_value (.agg (ec 0).toArray) (exec_build_C 32 _ rfl (ec 0) (by kernel_rfl)) ?_
   exact hK.out _ _ ⟨_,_,_,_,_,_,rfl,by kernel_rfl,h⟩
  ·go_simp
   refine (zero_el _).mono ?_
   rintro _ wn ⟨rfl,hb⟩
   replace h:=h.below hb
   clear hb
   exact hK.out _ _ ⟨_,_,_,_,_,_,rfl,by kernel_rfl,h⟩
  ·go_simp
   refine (cB _ (hI.below h.bel)).mono ?_
   rintro _ wn ⟨rfl,hb⟩
   replace h:=h.below hb
   clear hb
   exact hK.out _ _ ⟨_,_,_,_,_,_,rfl,by kernel_rfl,h⟩
  ·refine wp_store_R 44 _ _ rfl _ (pc RX RY) rfl rfl (h.rowo (k:=2) rfl) (iP _ _) rfl (pc_all _ _) ?_
   intro wz q hg hz
   replace h:=h.puto (k:=2) rfl q hg
   exact hK.out _ _ ⟨_,_,_,_,_,_,rfl,by kernel_rfl,h⟩
 case rest =>
  clear h
  intro l b w' hI hr
  obtain ⟨l0,l1,l2,l3,l4,l5,rfl,rfl,h⟩:=hI
  cases rall hr rfl (by rfl)
  clear hr
  simp only [putsA,Act.put,stA,st0,st1,cond_true]
  replace h:Fr w w' [(w.heap.size,32,ec k1),((w.heap.size + 1),44,pc A B),((w.heap.size + 1 + 1),44,pc RX RY)]:=h
  go_wp2
  exact result_row Tryz.results43 rfl (h.row (i:=2) rfl) Tryz.underlying44 rfl (iP _ _) rfl ⟨rfl,h.bel⟩
theorem or7:∀ x < 128,bits .or .u8 ((x:Nat):Int) 128 = ((x + 128:Nat):Int):=by decide +kernel
set_option maxHeartbeats 2000000 in
theorem pack_any (A B:Nat) (lA:A < 115792089237316195423570985008687907853269984665640564039457584007913129639936) (lB:B < 115792089237316195423570985008687907853269984665640564039457584007913129639936) (w:World) (hE:TE w):Calls Tryz.prog 33 #[.agg (pc A B).toArray] w fun e w'=>e = .returned (.agg (C .u8 (pk (ownP A B))).toArray) ∧ Below w.heap.size w w':=by
 obtain ⟨w2,h2,h⟩:=Fr.two w 44 22 (pc A B) (C .u8 (Z 32))
 have hP:=hE.p
 obtain ⟨X,Y,eX,eY,lX,lY,zX,zY,co⟩:=counted_let A B lA lB
 clear zX zY
 have hYP:Y < P:=by rw [← eY];exact val_lt_P _
 have cb:=fbytes_el Y lY
 rw [Nat.mod_eq_of_lt hYP] at cb
 have ht:=top_lt hYP
 have hpk:Away (pk (ownP A B) = if X % 2 = 1 then (dig 256 32 Y).set 31 ((dig 256 32 Y).getD 31 0 + 128) else dig 256 32 Y):=⟨by unfold pk;rw [eX,eY]⟩
 have hdl:=dig_length 256 32 Y
 obtain ⟨D,hD⟩:∃ D,dig 256 32 Y = D:=⟨_,rfl⟩
 rw [hD] at cb ht hpk hdl
 clear hD eX eY hYP
 obtain ⟨y,hy⟩:∃ y,D.getD 31 0 = y:=⟨_,rfl⟩
 rw [hy] at ht hpk
 have iD:(Tryz.prog.info? 22).map (·.size) = some (C .u8 D).length:=by rw [C_length,hdl];exact i32
 have iD2:(Tryz.prog.info? 22).map (·.size) = some (C .u8 (D.set 31 (y + 128))).length:=by rw [C_length,List.length_set,hdl];exact i32
 have zD:(C .u8 (Z 32)).length = (C .u8 D).length:=by rw [C_length,C_length,hdl];rfl
 have zD2:(C .u8 (Z 32)).length = (C .u8 (D.set 31 (y + 128))).length:=by rw [C_length,C_length,List.length_set,hdl];rfl
 have b31:=or7 y ht
 have cO:=odd_el X lX
 obtain ⟨o1,ho1⟩:∃ o1,decide (X % 2 = 1) = o1:=⟨_,rfl⟩
 rw [ho1] at cO
 have hodd:Away (X % 2 = 1 ↔ o1 = true):=⟨by rw [← ho1,decide_eq_true_iff]⟩
 clear ho1
 go_enter Tryz.func33,Tryz.ntmps33
 go_upto_region 1 with (refine wpList_alloc_row rfl 22 rfl _ z32 ?_)
 try simp only [Act.put,stA,st0,st1,alloc_size,h2]
 clear h2
 go_wp2_with (refine wpList_load_row rfl 44 _ rfl _ rfl _ _ _ _ (h.row (i:=0) rfl) Tryz.underlying44 rfl (iP _ _) ?_)
 refine (co _ (hE.below h.bel)).mono ?_
 rintro _ wn ⟨rfl,hb⟩
 replace h:=h.below hb
 clear hb
 go_upto_region 2 with (refine wpList_store_R rfl 44 _ _ rfl _ (pc X Y) rfl rfl (h.row (i:=0) rfl) (iP _ _) rfl (pc_all _ _) ?_;intro wz q hg hz)
 replace h:Fr w wz [(w.heap.size,44,pc X Y),((w.heap.size + 1),22,C .u8 (Z 32))]:=h.put (i:=0) rfl q hg
 clear q hg hz
 go_wp2_with (refine wpList_load_at rfl 32 _ rfl rfl (pc_y (h.row (i:=0) rfl)) rfl Tryz.underlying32 (ie4 _) ?_)
 refine (cb _ (hP.below h.bel)).mono ?_
 rintro _ wn ⟨rfl,hb⟩
 replace h:=h.below hb
 clear hb cb
 obtain ⟨g3,hgq,hq⟩:=h.more 2 22 (C .u8 (Z 32))
 replace hq:Fr w _ [(w.heap.size,44,pc X Y),((w.heap.size + 1),22,C .u8 (Z 32)),(g3,22,C .u8 (Z 32))]:=hq
 go_upto_region 3 with (first | refine wpList_alloc_row rfl 22 rfl _ z32 ?_ | (refine wpList_store_R rfl 22 _ _ rfl _ (C .u8 D) (congrArg (fun g=>Value.pointer (some ⟨g,0,none⟩)) hgq) rfl (hq.row (i:=2) rfl) iD zD (C_allL _ _) ?_;intro wz q hg hz))
 replace h:Fr w wz [(w.heap.size,44,pc X Y),((w.heap.size + 1),22,C .u8 (Z 32)),(g3,22,C .u8 D)]:=hq.put (i:=2) rfl q hg
 try rw [hgq]
 clear q hg hz hq hgq
 go_wp2_with (refine wpList_load_at rfl 32 _ rfl rfl (pc_x (h.row (i:=0) rfl)) rfl Tryz.underlying32 (ie4 _) ?_)
 refine (cO _).mono ?_
 rintro _ wn ⟨rfl,hb⟩
 replace h:=h.below hb
 clear hb cO
 cases o1
 ·have hp:Away (pk (ownP A B) = D):=⟨by rw [hpk.out,if_neg (fun e=>by have:=hodd.out.1 e;cases this)]⟩
  clear hpk
  go_wp2_with (first | refine wpList_load_row rfl 22 _ rfl _ rfl _ _ _ _ (h.row (i:=2) rfl) Tryz.underlying22 rfl iD ?_ | (refine wpList_store_R rfl 22 _ _ rfl _ (C .u8 D) rfl rfl (h.row (i:=1) rfl) iD zD (C_allL _ _) ?_;intro wz q hg hz))
  have r1:Row wz (w.heap.size + 1) 22 (C .u8 D):=q
  have hbel:=(h.put (i:=1) rfl q hg).bel
  exact result_row Tryz.results33 rfl r1 Tryz.underlying22 rfl iD rfl ⟨by rw [hp.out],hbel⟩
 ·have hp:Away (pk (ownP A B) = D.set 31 (y + 128)):=⟨by rw [hpk.out,if_pos (hodd.out.2 rfl)]⟩
  clear hpk
  have c31:=(h.row (i:=2) rfl).cell 31
  rw [C_get .u8 (by omega),hy] at c31
  have f31:=(h.row (i:=2) rfl).frozen 31
  have m0:=row_set (h.row (i:=2) rfl) 31 (y + 128)
  have h4:Fr w (wn.setCell ⟨g3,31,none⟩ (.int .u8 ((y + 128:Nat):Int))) [(w.heap.size,44,pc X Y),((w.heap.size + 1),22,C .u8 (Z 32)),(g3,22,C .u8 (D.set 31 (y + 128)))]:=h.put (i:=2) rfl m0 (grown_set _ _ _ _)
  obtain ⟨y2,hy2⟩:∃ v,y + 128 = v:=⟨_,rfl⟩
  rw [hy2] at h4 b31
  clear h m0
  go_upto_region 5 with fail
  generalize wn.setCell ⟨g3,31,none⟩ (.int .u8 (y2:Int)) = w5 at *
  rw [← hy2] at h4
  go_wp2_with (first | refine wpList_load_row rfl 22 _ rfl _ rfl _ _ _ _ (h4.row (i:=2) rfl) Tryz.underlying22 rfl iD2 ?_ | (refine wpList_store_R rfl 22 _ _ rfl _ (C .u8 (D.set 31 (y + 128))) rfl rfl (h4.row (i:=1) rfl) iD2 zD2 (C_allL _ _) ?_;intro w6 q hg hz))
  have r1:Row w6 (w.heap.size + 1) 22 (C .u8 (D.set 31 (y + 128))):=q
  have hbel:=(h4.put (i:=1) rfl q hg).bel
  exact result_row Tryz.results33 rfl r1 Tryz.underlying22 rfl iD2 rfl ⟨by rw [hp.out],hbel⟩
set_option maxHeartbeats 2000000 in
theorem pack13_any (A B:Nat) (lA:A < 115792089237316195423570985008687907853269984665640564039457584007913129639936) (lB:B < 115792089237316195423570985008687907853269984665640564039457584007913129639936) (w:World):Calls Tryz.prog 20 #[.agg (pc A B).toArray] w fun e w'=>e = .returned (.agg (C .u8 (pk (ownP A B))).toArray) ∧ Below w.heap.size w w':=by
 obtain ⟨w2,h2,h⟩:=Fr.two w 44 22 (pc A B) (C .u8 (Z 32))
 obtain ⟨X,Y,eX,eY,lX,lY,zX,zY,co⟩:=own13_let A B lA lB
 clear zX zY
 have hYP:Y < P:=by rw [← eY];exact val_lt_P _
 have cb:=frefbytes_el Y lY
 rw [Nat.mod_eq_of_lt hYP] at cb
 have ht:=top_lt hYP
 have hpk:Away (pk (ownP A B) = if X % 2 = 1 then (dig 256 32 Y).set 31 ((dig 256 32 Y).getD 31 0 + 128) else dig 256 32 Y):=⟨by unfold pk;rw [eX,eY]⟩
 have hdl:=dig_length 256 32 Y
 obtain ⟨D,hD⟩:∃ D,dig 256 32 Y = D:=⟨_,rfl⟩
 rw [hD] at cb ht hpk hdl
 clear hD eX eY hYP
 obtain ⟨y,hy⟩:∃ y,D.getD 31 0 = y:=⟨_,rfl⟩
 rw [hy] at ht hpk
 have iD:(Tryz.prog.info? 22).map (·.size) = some (C .u8 D).length:=by rw [C_length,hdl];exact i32
 have iD2:(Tryz.prog.info? 22).map (·.size) = some (C .u8 (D.set 31 (y + 128))).length:=by rw [C_length,List.length_set,hdl];exact i32
 have zD:(C .u8 (Z 32)).length = (C .u8 D).length:=by rw [C_length,C_length,hdl];rfl
 have zD2:(C .u8 (Z 32)).length = (C .u8 (D.set 31 (y + 128))).length:=by rw [C_length,C_length,List.length_set,hdl];rfl
 have b31:IntKind.u8.wrap ((y:Int) + 128) = ((y + 128:Nat):Int):=by rw [IntKind.wrap_u8];omega
 have b31':((y:Int) + 128) % 256 = ((y + 128:Nat):Int):=by omega
 go_enter Tryz.func20,Tryz.ntmps20
 go_upto_region 1 with (refine wpList_alloc_row rfl 22 rfl _ z32 ?_)
 try simp only [Act.put,stA,st0,st1,alloc_size,h2]
 clear h2
 go_wp2_with (refine wpList_load_row rfl 44 _ rfl _ rfl _ _ _ _ (h.row (i:=0) rfl) Tryz.underlying44 rfl (iP _ _) ?_)
 refine (co _).mono ?_
 rintro _ wn ⟨rfl,hb⟩
 replace h:=h.below hb
 clear hb
 go_upto_region 2 with (refine wpList_store_R rfl 44 _ _ rfl _ (pc X Y) rfl rfl (h.row (i:=0) rfl) (iP _ _) rfl (pc_all _ _) ?_;intro wz q hg hz)
 replace h:Fr w wz [(w.heap.size,44,pc X Y),((w.heap.size + 1),22,C .u8 (Z 32))]:=h.put (i:=0) rfl q hg
 clear q hg hz
 go_wp2_with (refine wpList_load_at rfl 32 _ rfl rfl (pc_y (h.row (i:=0) rfl)) rfl Tryz.underlying32 (ie4 _) ?_)
 refine (cb _).mono ?_
 rintro _ wn ⟨rfl,hb⟩
 replace h:=h.below hb
 clear hb cb
 obtain ⟨g3,hgq,hq⟩:=h.more 2 22 (C .u8 (Z 32))
 replace hq:Fr w _ [(w.heap.size,44,pc X Y),((w.heap.size + 1),22,C .u8 (Z 32)),(g3,22,C .u8 (Z 32))]:=hq
 go_upto_region 3 with (first | refine wpList_alloc_row rfl 22 rfl _ z32 ?_ | (refine wpList_store_R rfl 22 _ _ rfl _ (C .u8 D) (congrArg (fun g=>Value.pointer (some ⟨g,0,none⟩)) hgq) rfl (hq.row (i:=2) rfl) iD zD (C_allL _ _) ?_;intro wz q hg hz))
 replace h:Fr w wz [(w.heap.size,44,pc X Y),((w.heap.size + 1),22,C .u8 (Z 32)),(g3,22,C .u8 D)]:=hq.put (i:=2) rfl q hg
 try rw [hgq]
 clear q hg hz hq hgq
 have r0:=h.row (i:=0) rfl
 have c0:wz.cell? ⟨w.heap.size,0,none⟩ = some (.int .u64 ((X % 18446744073709551616:Nat):Int)):=by
  rw [r0.cell]
  rfl
 obtain ⟨x0,hx0⟩:∃ v,X % 18446744073709551616 = v:=⟨_,rfl⟩
 rw [hx0] at c0
 have hpar:X % 2 = x0 % 2:=by rw [← hx0];omega
 obtain ⟨u,hu⟩:∃ v,x0 % 2 = v:=⟨_,rfl⟩
 rw [hu] at hpar
 have t0:(x0:Int).tmod 2 = (u:Int):=by rw [Int.tmod_eq_emod_of_nonneg (by omega)];omega
 have t0':(x0:Int) % 2 = (u:Int):=by omega
 obtain ⟨o1,ho1⟩:∃ o1,((u:Int) == 1) = o1:=⟨_,rfl⟩
 have hodd:Away (X % 2 = 1 ↔ o1 = true):=⟨by rw [← ho1,beq_iff_eq,hpar];omega⟩
 clear hx0 hpar hu
 clear r0
 cases o1
 ·have hp:Away (pk (ownP A B) = D):=⟨by rw [hpk.out,if_neg (fun e=>by have:=hodd.out.1 e;cases this)]⟩
  clear hpk
  go_wp2_with (first | refine wpList_load_row rfl 22 _ rfl _ rfl _ _ _ _ (h.row (i:=2) rfl) Tryz.underlying22 rfl iD ?_ | (refine wpList_store_R rfl 22 _ _ rfl _ (C .u8 D) rfl rfl (h.row (i:=1) rfl) iD zD (C_allL _ _) ?_;intro wz q hg hz))
  have r1:Row wz (w.heap.size + 1) 22 (C .u8 D):=q
  have hbel:=(h.put (i:=1) rfl q hg).bel
  exact result_row Tryz.results20 rfl r1 Tryz.underlying22 rfl iD rfl ⟨by rw [hp.out],hbel⟩
 ·have hp:Away (pk (ownP A B) = D.set 31 (y + 128)):=⟨by rw [hpk.out,if_pos (hodd.out.2 rfl)]⟩
  clear hpk
  have c31:=(h.row (i:=2) rfl).cell 31
  rw [C_get .u8 (by omega),hy] at c31
  have f31:=(h.row (i:=2) rfl).frozen 31
  have m0:=row_set (h.row (i:=2) rfl) 31 (y + 128)
  have h4:Fr w (wz.setCell ⟨g3,31,none⟩ (.int .u8 ((y + 128:Nat):Int))) [(w.heap.size,44,pc X Y),((w.heap.size + 1),22,C .u8 (Z 32)),(g3,22,C .u8 (D.set 31 (y + 128)))]:=h.put (i:=2) rfl m0 (grown_set _ _ _ _)
  obtain ⟨y2,hy2⟩:∃ v,y + 128 = v:=⟨_,rfl⟩
  rw [hy2] at h4 b31 b31'
  clear h m0
  go_upto_region 5 with fail
  generalize wz.setCell ⟨g3,31,none⟩ (.int .u8 (y2:Int)) = w5 at *
  rw [← hy2] at h4
  go_wp2_with (first | refine wpList_load_row rfl 22 _ rfl _ rfl _ _ _ _ (h4.row (i:=2) rfl) Tryz.underlying22 rfl iD2 ?_ | (refine wpList_store_R rfl 22 _ _ rfl _ (C .u8 (D.set 31 (y + 128))) rfl rfl (h4.row (i:=1) rfl) iD2 zD2 (C_allL _ _) ?_;intro w6 q hg hz))
  have r1:Row w6 (w.heap.size + 1) 22 (C .u8 (D.set 31 (y + 128))):=q
  have hbel:=(h4.put (i:=1) rfl q hg).bel
  exact result_row Tryz.results20 rfl r1 Tryz.underlying22 rfl iD2 rfl ⟨by rw [hp.out],hbel⟩
def inv5:Nat:=11579208923731619542357098500868790785326998466564056403945758400791312963990
theorem inv5_ok:5 ^ (P - 2) % P = inv5:=by
 have h:=inv_ok (a:=5) (by decide +kernel)
 have h2:5 * inv5 % P = 1:=by decide +kernel
 have e:z (5 ^ (P - 2) % P) = z inv5:=by
  have h3:z 5 * z (5 ^ (P - 2) % P) = 1:=by rw [← z_mul,Nat.mul_mod_mod,h];rfl
  have h4:z 5 * z inv5 = 1:=by rw [← z_mul,h2];rfl
  generalize z (5 ^ (P - 2) % P) = u at *
  generalize z inv5 = v at *
  generalize z 5 = t at *
  grind
 exact (z_lt (mod_lt_P _) (by decide +kernel)).1 e
theorem By_lt:By < 115792089237316195423570985008687907853269984665640564039457584007913129639936:=by decide +kernel
theorem By_bytes:dig 256 32 (By % P) = pk (ownP Bx By):=by decide +kernel
set_option maxHeartbeats 1000000 in
theorem base13_gen (X Y I5:Nat) (B:List Nat)
  (c1:∀ (w:World),Calls Tryz.prog 49 #[.agg #[.int .u64 5,.int .u64 0,.int .u64 0,.int .u64 0]] w fun e w'=>e = .returned (.agg (ec I5).toArray) ∧ Below w.heap.size w w')
  (c2:∀ (w:World),Calls Tryz.prog 50 #[.agg #[.int .u64 4,.int .u64 0,.int .u64 0,.int .u64 0],.agg (ec I5).toArray] w fun e w'=>e = .returned (.agg (ec Y).toArray) ∧ Below w.heap.size w w')
  (c3:∀ (w:World),Calls Tryz.prog 47 #[.agg (ec Y).toArray] w fun e w'=>e = .returned (.agg (C .u8 B).toArray) ∧ Below w.heap.size w w')
  (c4:∀ (w:World),Calls Tryz.prog 37 #[.agg (C .u8 B).toArray] w fun e w'=>e = .returned (.tuple #[.agg (pc X Y).toArray,.bool true]) ∧ Below w.heap.size w w')
  (w:World):Calls Tryz.prog 22 #[] w fun e w'=>e = .returned (.agg (pc X Y).toArray) ∧ Below w.heap.size w w':=by
 have h:=Fr.one w 44 (pc 0 0)
 go_enter Tryz.func22,Tryz.ntmps22
 go_upto_region 1 with (refine wpList_alloc_row rfl 44 rfl _ zPw ?_)
 go_wp2_with fail
 refine (c1 _).mono ?_
 rintro _ wn ⟨rfl,hb⟩
 replace h:=h.below hb
 clear hb c1
 go_wp2_with fail
 refine (c2 _).mono ?_
 rintro _ wn ⟨rfl,hb⟩
 replace h:=h.below hb
 clear hb c2
 obtain ⟨g1,hgq,hq⟩:=h.more 1 32 (ec 0)
 replace hq:Fr w _ [(w.heap.size,44,pc 0 0),(g1,32,ec 0)]:=hq
 go_upto_region 2 with (first | refine wpList_alloc_row rfl 32 rfl _ z4w ?_ | (refine wpList_store_R rfl 32 _ _ rfl _ (ec Y) (congrArg (fun g=>Value.pointer (some ⟨g,0,none⟩)) hgq) rfl (hq.row (i:=1) rfl) (ie4 _) rfl (ec_all _) ?_;intro wz q hg hz))
 replace h:Fr w wz [(w.heap.size,44,pc 0 0),(g1,32,ec Y)]:=hq.put (i:=1) rfl q hg
 try rw [hgq]
 clear q hg hz hq hgq
 go_wp2_with (refine wpList_load_row rfl 32 _ rfl _ rfl _ _ _ _ (h.row (i:=1) rfl) Tryz.underlying32 rfl (ie4 _) ?_)
 refine (c3 _).mono ?_
 rintro _ wn ⟨rfl,hb⟩
 replace h:=h.below hb
 clear hb c3
 go_wp2_with fail
 refine (c4 _).mono ?_
 rintro _ wn ⟨rfl,hb⟩
 replace h:=h.below hb
 clear hb c4
 obtain ⟨g2,hgq,hq⟩:=h.more 2 44 (pc 0 0)
 replace hq:Fr w _ [(w.heap.size,44,pc 0 0),(g1,32,ec Y),(g2,44,pc 0 0)]:=hq
 go_upto_region 3 with (first | refine wpList_alloc_row rfl 44 rfl _ zPw ?_ | (refine wpList_store_R rfl 44 _ _ rfl _ (pc X Y) (congrArg (fun g=>Value.pointer (some ⟨g,0,none⟩)) hgq) rfl (hq.row (i:=2) rfl) (iP _ _) rfl (pc_all _ _) ?_;intro wz q hg hz))
 replace h:Fr w wz [(w.heap.size,44,pc 0 0),(g1,32,ec Y),(g2,44,pc X Y)]:=hq.put (i:=2) rfl q hg
 try rw [hgq]
 clear q hg hz hq hgq
 go_wp2_with (first | refine wpList_load_row rfl 44 _ rfl _ rfl _ _ _ _ (h.row (i:=2) rfl) Tryz.underlying44 rfl (iP _ _) ?_ | (refine wpList_store_R rfl 44 _ _ rfl _ (pc X Y) rfl rfl (h.row (i:=0) rfl) (iP _ _) rfl (pc_all _ _) ?_;intro wz q hg hz))
 replace h:Fr w wz [(w.heap.size,44,pc X Y),(g1,32,ec Y),(g2,44,pc X Y)]:=h.put (i:=0) rfl q hg
 exact result_row Tryz.results22 rfl (h.row (i:=0) rfl) Tryz.underlying44 rfl (iP _ _) rfl ⟨rfl,h.bel⟩
theorem v5:Value.agg (ec 5).toArray = .agg #[.int .u64 5,.int .u64 0,.int .u64 0,.int .u64 0]:=by kernel_rfl
theorem v4:Value.agg (ec 4).toArray = .agg #[.int .u64 4,.int .u64 0,.int .u64 0,.int .u64 0]:=by kernel_rfl
theorem base_inv (w:World):Calls Tryz.prog 49 #[.agg #[.int .u64 5,.int .u64 0,.int .u64 0,.int .u64 0]] w fun e w'=>e = .returned (.agg (ec inv5).toArray) ∧ Below w.heap.size w w':=by
 rw [← v5]
 have h:=frefinv_el 5 (by decide) w
 rw [inv5_ok] at h
 exact h
theorem By_four:4 * inv5 % P = By:=by decide +kernel
theorem inv5_lt:inv5 < 115792089237316195423570985008687907853269984665640564039457584007913129639936:=by decide +kernel
theorem base_mul (w:World):Calls Tryz.prog 50 #[.agg #[.int .u64 4,.int .u64 0,.int .u64 0,.int .u64 0],.agg (ec inv5).toArray] w fun e w'=>e = .returned (.agg (ec By).toArray) ∧ Below w.heap.size w w':=by
 rw [← v4]
 have h:=frefmul_el 4 inv5 (by decide) inv5_lt w
 rw [By_four] at h
 exact h
theorem base_bytes (w:World):Calls Tryz.prog 47 #[.agg (ec By).toArray] w fun e w'=>e = .returned (.agg (C .u8 (pk (ownP Bx By))).toArray) ∧ Below w.heap.size w w':=by
 have h:=frefbytes_el By By_lt w
 rw [By_bytes] at h
 exact h
theorem B_on:onB Bx By = true:=by decide +kernel
def Bpt:Pt:=ownP Bx By
theorem Bpt_x:Bpt.x.val = Bx:=(ownP_on B_on).1
theorem Bpt_y:Bpt.y.val = By:=(ownP_on B_on).2
theorem base_unpack (p:Pt) (w:World):Calls Tryz.prog 37 #[.agg (C .u8 (pk p)).toArray] w fun e w'=>e = .returned (.tuple #[.agg (pv p).toArray,.bool true]) ∧ Below w.heap.size w w':=by
 have c4:=unpack13_any (pk p) (pk_lo _) (pk_length _) w
 obtain ⟨u1,u2⟩:=point_unOk p
 rw [pk_hi,pk_low,u1] at c4
 rw [unC,u1,if_pos rfl,u2] at c4
 exact c4
theorem pv_B:pv Bpt = pc Bx By:=by unfold pv;rw [Bpt_x,Bpt_y]
theorem base13_any (w:World):Calls Tryz.prog 22 #[] w fun e w'=>e = .returned (.agg (pc Bx By).toArray) ∧ Below w.heap.size w w' :=
 base13_gen Bx By inv5 (pk (ownP Bx By)) base_inv base_mul base_bytes (fun w=>by
  have h:=base_unpack Bpt w
  rw [pv_B] at h
  exact h) w
end Go.Proofs.YtmjimilhomabfaaGreatDoor.F
