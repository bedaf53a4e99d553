/-
 The document's Add; over this seat's translation. Conditions: each as it says.
-/
import Derived.Test.YtmjimilhomabfaaGreatDoorE13a
namespace Go.Proofs.YtmjimilhomabfaaGreatDoor.F
open Go.RowKit
set_option linter.unusedVariables false
set_option maxRecDepth 10000
open E (z z_val z_same z_add z_mul z_sub z_inv z_mod z_of dd Pt padd pneg pmul iv ax ay)
theorem ax_form (x1 y1 x2 y2:E.Z):ax x1 y1 x2 y2 = (x1 * y2 + x2 * y1) * iv (1 + dd * (x1 * x2 * (y1 * y2))):=by
 unfold ax
 congr 2
 generalize dd = d
 generalize x1 = a,x2 = b,y1 = c,y2 = e
 revert a b c d e
 exact fun a b c d e=>by grind
theorem ay_form (x1 y1 x2 y2:E.Z):ay x1 y1 x2 y2 = (y1 * y2 + x1 * x2) * iv (1 - dd * (x1 * x2 * (y1 * y2))):=by
 unfold ay
 congr 2
 generalize dd = d
 grind
set_option maxHeartbeats 8000000 in
theorem add13_any (A B M N:Nat) (lA:A < 115792089237316195423570985008687907853269984665640564039457584007913129639936) (lB:B < 115792089237316195423570985008687907853269984665640564039457584007913129639936) (lM:M < 115792089237316195423570985008687907853269984665640564039457584007913129639936) (lN:N < 115792089237316195423570985008687907853269984665640564039457584007913129639936) (w:World):Calls Tryz.prog 40 #[.agg (pc A B).toArray,.agg (pc M N).toArray] w fun e w'=>e = .returned (.agg (pv (padd (ownP A B) (ownP M N))).toArray) ∧ Below w.heap.size w w':=by
 obtain ⟨w2,h2,h⟩:=Fr.three w 44 44 44 (pc A B) (pc M N) (pc 0 0)
 obtain ⟨X,Y,eX,eY,lX,lY,zX,zY,co⟩:=own13_let A B lA lB
 obtain ⟨U,V,eU,eV,lU,lV,zU,zV,cu⟩:=own13_let M N lM lN
 obtain ⟨n1,en1,ln1,cn1⟩:=erMul X U lX lU
 obtain ⟨n2,en2,ln2,cn2⟩:=erMul Y V lY lV
 obtain ⟨n3,en3,ln3,cn3⟩:=erMul n1 n2 ln1 ln2
 obtain ⟨n4,en4,ln4,cn4⟩:=erMul Dn n3 lDn ln3
 obtain ⟨n5,en5,ln5,cn5⟩:=erMul X V lX lV
 obtain ⟨n6,en6,ln6,cn6⟩:=erMul U Y lU lY
 obtain ⟨n7,en7,ln7,cn7⟩:=erAdd n5 n6 ln5 ln6
 obtain ⟨n8,en8,ln8,cn8⟩:=erAdd n2 n1 ln2 ln1
 obtain ⟨n9,en9,ln9,cn9⟩:=erAdd 1 n4 (by decide) ln4
 obtain ⟨n10,en10,ln10,cn10⟩:=erInv n9 ln9
 obtain ⟨n11,en11,ln11,cn11⟩:=erSub 1 n4 (by decide) ln4
 obtain ⟨n12,en12,ln12,cn12⟩:=erInv n11 ln11
 obtain ⟨n13,en13,ln13,cn13⟩:=erMul n7 n10 ln7 ln10
 obtain ⟨n14,en14,ln14,cn14⟩:=erMul n8 n12 ln8 ln12
 have HV:Away (pv (padd (ownP A B) (ownP M N)) = pc n13 n14):=⟨by
  have ex:(padd (ownP A B) (ownP M N)).x = z n13:=by
   rw [← en13.out,z_mul,← en10.out,z_inv,← en9.out,z_add,← en4.out,z_mul,← en3.out,z_mul,← en1.out,z_mul,← en2.out,z_mul,← en7.out,z_add,← en5.out,z_mul,← en6.out,z_mul,zX,zY,zU,zV,z_D,show z 1 = 1 from rfl]
   exact ax_form _ _ _ _
  have ey:(padd (ownP A B) (ownP M N)).y = z n14:=by
   rw [← en14.out,z_mul,← en12.out,z_inv,← en11.out,z_sub,← en4.out,z_mul,← en3.out,z_mul,← en8.out,z_add,← en1.out,z_mul,← en2.out,z_mul,zX,zY,zU,zV,z_D,show z 1 = 1 from rfl]
   exact ay_form _ _ _ _
  unfold pv
  rw [ex,ey,z_valz (by rw [← en13.out];exact mod_lt_P _),z_valz (by rw [← en14.out];exact mod_lt_P _)]⟩
 clear eX eY eU eV zX zY zU zV
 go_enter Tryz.func40,Tryz.ntmps40
 go_upto_region 1 with (refine wpList_alloc_row rfl 44 rfl _ zPw ?_)
 try simp only [Act.put,stA,st0,st1,alloc_size,h2]
 clear h2
 go_wp2_with (first | refine wpList_load_row rfl 44 _ rfl _ rfl _ _ _ _ (h.row (i:=0) rfl) Tryz.underlying44 rfl (iP _ _) ?_)
 refine callOK (co _) h ?_
 clear h
 rintro _ wn rfl h
 go_upto_region 2 with (first | (refine wpList_store_R rfl 44 _ _ rfl _ (pc X Y) rfl rfl (h.row (i:=0) rfl) (iP _ _) rfl (pc_all _ _) ?_;intro wz q hg hz))
 replace h:Fr w wz [(w.heap.size,44,pc X Y),((w.heap.size + 1),44,pc M N),((w.heap.size + 1 + 1),44,pc 0 0)]:=h.put (i:=0) rfl q hg
 clear q hg hz
 go_wp2_with (first | refine wpList_load_row rfl 44 _ rfl _ rfl _ _ _ _ (h.row (i:=1) rfl) Tryz.underlying44 rfl (iP _ _) ?_)
 refine callOK (cu _) h ?_
 clear h
 rintro _ wn rfl h
 go_upto_region 3 with (first | (refine wpList_store_R rfl 44 _ _ rfl _ (pc U V) rfl rfl (h.row (i:=1) rfl) (iP _ _) rfl (pc_all _ _) ?_;intro wz q hg hz))
 replace h:Fr w wz [(w.heap.size,44,pc X Y),((w.heap.size + 1),44,pc U V),((w.heap.size + 1 + 1),44,pc 0 0)]:=h.put (i:=1) rfl q hg
 clear q hg hz
 try simp only [Act.put]
 replace h:=h.drew
 refine wp_region_inv (by kernel_rfl) (fun a0 l b w'=>∃ (l0 l1 l2 l3 l4 l5 l6 l7 l8 l9 l10 l11 l12 l13 l14:Bool) (g5:Nat) ,l = #[l0,l1,l2,l3,l4,l5,l6,l7,l8,l9,l10,l11,l12,l13,l14] ∧ b = putsA a0 [(14,l0,.agg (ec Dn).toArray,undef),(15,l1,.pointer (some ⟨w.heap.size,0,none⟩),undef),(16,l2,.agg (ec X).toArray,undef),(17,l3,.pointer (some ⟨(w.heap.size + 1),0,none⟩),undef),(18,l4,.agg (ec U).toArray,undef),(19,l5,.agg (ec n1).toArray,undef),(20,l6,.pointer (some ⟨w.heap.size,4,none⟩),undef),(21,l7,.agg (ec Y).toArray,undef),(22,l8,.pointer (some ⟨(w.heap.size + 1),4,none⟩),undef),(23,l9,.agg (ec V).toArray,undef),(24,l10,.agg (ec n2).toArray,undef),(25,l11,.agg (ec n3).toArray,undef),(26,l12,.agg (ec n4).toArray,undef),(5,l13,.pointer (some ⟨g5,0,none⟩),undef)] ∧ Fr w w' (opt [(true,(w.heap.size,44,pc X Y)),(true,((w.heap.size + 1),44,pc U V)),(true,((w.heap.size + 1 + 1),44,pc 0 0)),(l13,(g5,32,bif l14 then ec n4 else ec 0))]) ∧ (l14 = true → l13 = true)) ?start ?step ?rest
 case start=>exact ⟨false,false,false,false,false,false,false,false,false,false,false,false,false,false,false,0,by kernel_rfl,by kernel_rfl,h,(fun e=>by cases e)⟩
 case step =>
  clear h
  intro l b w' hI i hi
  obtain ⟨l0,l1,l2,l3,l4,l5,l6,l7,l8,l9,l10,l11,l12,l13,l14,g5,rfl,rfl,h,hc14⟩:=hI
  have hlt:i < 15:=ready_lt hi
  obtain rfl | rfl | rfl | rfl | rfl | rfl | rfl | rfl | rfl | rfl | rfl | rfl | rfl | rfl | rfl:=(by omega:i = 0 ∨ i = 1 ∨ i = 2 ∨ i = 3 ∨ i = 4 ∨ i = 5 ∨ i = 6 ∨ i = 7 ∨ i = 8 ∨ i = 9 ∨ i = 10 ∨ i = 11 ∨ i = 12 ∨ i = 13 ∨ i = 14)
  all_goals (obtain ⟨hn,hd⟩:=rin hi rfl;cases hn;(repeat (obtain ⟨hn,hd⟩:=hd;cases hn));clear hi hlt hd;refine wpOp_inv rfl rfl (fun K hK=>?_);simp only [putsA,Act.put,stA,st0,st1,cond_true,cond_false] at h ⊢)
  ·go_simp
   refine callOK (d13_any _) h ?_
   clear h
   rintro _ wn rfl h
   refine hK.out _ _ ⟨_,_,_,_,_,_,_,_,_,_,_,_,_,_,_,_,rfl,by kernel_rfl,h,?_⟩ <;> first | assumption | exact fun _=>rfl | exact nofun
  ·refine wp_value (.pointer (some ⟨w.heap.size,0,none⟩)) (by go_simp) ?_
   refine hK.out _ _ ⟨_,_,_,_,_,_,_,_,_,_,_,_,_,_,_,_,rfl,by kernel_rfl,h,?_⟩ <;> first | assumption | exact fun _=>rfl | exact nofun
  ·refine wp_value (.agg (ec X).toArray) (exec_load_at 32 _ rfl rfl (pc_x (h.rowo (k:=0) rfl)) rfl Tryz.underlying32 (ie4 _)) ?_
   refine hK.out _ _ ⟨_,_,_,_,_,_,_,_,_,_,_,_,_,_,_,_,rfl,by kernel_rfl,h,?_⟩ <;> first | assumption | exact fun _=>rfl | exact nofun
  ·refine wp_value (.pointer (some ⟨(w.heap.size + 1),0,none⟩)) (by go_simp) ?_
   refine hK.out _ _ ⟨_,_,_,_,_,_,_,_,_,_,_,_,_,_,_,_,rfl,by kernel_rfl,h,?_⟩ <;> first | assumption | exact fun _=>rfl | exact nofun
  ·refine wp_value (.agg (ec U).toArray) (exec_load_at 32 _ rfl rfl (pc_x (h.rowo (k:=1) rfl)) rfl Tryz.underlying32 (ie4 _)) ?_
   refine hK.out _ _ ⟨_,_,_,_,_,_,_,_,_,_,_,_,_,_,_,_,rfl,by kernel_rfl,h,?_⟩ <;> first | assumption | exact fun _=>rfl | exact nofun
  ·go_simp
   refine callOK (cn1 _) h ?_
   clear h
   rintro _ wn rfl h
   refine hK.out _ _ ⟨_,_,_,_,_,_,_,_,_,_,_,_,_,_,_,_,rfl,by kernel_rfl,h,?_⟩ <;> first | assumption | exact fun _=>rfl | exact nofun
  ·refine wp_value (.pointer (some ⟨w.heap.size,4,none⟩)) (by go_simp) ?_
   refine hK.out _ _ ⟨_,_,_,_,_,_,_,_,_,_,_,_,_,_,_,_,rfl,by kernel_rfl,h,?_⟩ <;> first | assumption | exact fun _=>rfl | exact nofun
  ·refine wp_value (.agg (ec Y).toArray) (exec_load_at 32 _ rfl rfl (pc_y (h.rowo (k:=0) rfl)) rfl Tryz.underlying32 (ie4 _)) ?_
   refine hK.out _ _ ⟨_,_,_,_,_,_,_,_,_,_,_,_,_,_,_,_,rfl,by kernel_rfl,h,?_⟩ <;> first | assumption | exact fun _=>rfl | exact nofun
  ·refine wp_value (.pointer (some ⟨(w.heap.size + 1),4,none⟩)) (by go_simp) ?_
   refine hK.out _ _ ⟨_,_,_,_,_,_,_,_,_,_,_,_,_,_,_,_,rfl,by kernel_rfl,h,?_⟩ <;> first | assumption | exact fun _=>rfl | exact nofun
  ·refine wp_value (.agg (ec V).toArray) (exec_load_at 32 _ rfl rfl (pc_y (h.rowo (k:=1) rfl)) rfl Tryz.underlying32 (ie4 _)) ?_
   refine hK.out _ _ ⟨_,_,_,_,_,_,_,_,_,_,_,_,_,_,_,_,rfl,by kernel_rfl,h,?_⟩ <;> first | assumption | exact fun _=>rfl | exact nofun
  ·go_simp
   refine callOK (cn2 _) h ?_
   clear h
   rintro _ wn rfl h
   refine hK.out _ _ ⟨_,_,_,_,_,_,_,_,_,_,_,_,_,_,_,_,rfl,by kernel_rfl,h,?_⟩ <;> first | assumption | exact fun _=>rfl | exact nofun
  ·go_simp
   refine callOK (cn3 _) h ?_
   clear h
   rintro _ wn rfl h
   refine hK.out _ _ ⟨_,_,_,_,_,_,_,_,_,_,_,_,_,_,_,_,rfl,by kernel_rfl,h,?_⟩ <;> first | assumption | exact fun _=>rfl | exact nofun
  ·go_simp
   refine callOK (cn4 _) h ?_
   clear h
   rintro _ wn rfl h
   refine hK.out _ _ ⟨_,_,_,_,_,_,_,_,_,_,_,_,_,_,_,_,rfl,by kernel_rfl,h,?_⟩ <;> first | assumption | exact fun _=>rfl | exact nofun
  ·obtain rfl:l14 = false:=by cases l14 with | false=>rfl | true=>exact absurd (hc14 rfl) (by decide)
   simp only [cond_false] at h ⊢
   refine wp_alloc_R 32 rfl (ec 0) z4w ?_
   obtain ⟨gn,hgq,hq⟩:=h.on (k:=3) rfl 32 (ec 0)
   rw [hgq]
   refine hK.out _ _ ⟨_,_,_,_,_,_,_,_,_,_,_,_,_,_,_,_,rfl,by kernel_rfl,hq,?_⟩ <;> first | assumption | exact fun _=>rfl | exact nofun
  ·refine wp_store_R 32 _ _ rfl _ (ec n4) rfl rfl (h.rowo (k:=3) rfl) (ie4 _) rfl (ec_all _) ?_
   intro wz q hg hz
   replace h:=h.puto (k:=3) rfl q hg
   refine hK.out _ _ ⟨_,_,_,_,_,_,_,_,_,_,_,_,_,_,_,_,rfl,by kernel_rfl,h,?_⟩ <;> first | assumption | exact fun _=>rfl | exact nofun
 case rest =>
  clear h
  intro l b w' hI hr
  obtain ⟨l0,l1,l2,l3,l4,l5,l6,l7,l8,l9,l10,l11,l12,l13,l14,g5,rfl,rfl,h,hc14⟩:=hI
  cases rall hr rfl (by rfl)
  clear hr hc14
  simp only [putsA,Act.put,stA,st0,st1,cond_true]
  replace h:Fr w w' [(w.heap.size,44,pc X Y),((w.heap.size + 1),44,pc U V),((w.heap.size + 1 + 1),44,pc 0 0),(g5,32,ec n4)]:=h
  go_upto_region 4 with fail
  try simp only [Act.put,stA,st0,st1]
  replace h:=h.drew
  refine wp_region_inv (by kernel_rfl) (fun a0 l b w'=>∃ (l0 l1 l2 l3 l4 l5 l6 l7 l8 l9 l10 l11 l12:Bool) (g6:Nat) ,l = #[l0,l1,l2,l3,l4,l5,l6,l7,l8,l9,l10,l11,l12] ∧ b = putsA a0 [(27,l0,.pointer (some ⟨w.heap.size,0,none⟩),undef),(28,l1,.agg (ec X).toArray,undef),(29,l2,.pointer (some ⟨(w.heap.size + 1),4,none⟩),undef),(30,l3,.agg (ec V).toArray,undef),(31,l4,.agg (ec n5).toArray,undef),(32,l5,.pointer (some ⟨(w.heap.size + 1),0,none⟩),undef),(33,l6,.agg (ec U).toArray,undef),(34,l7,.pointer (some ⟨w.heap.size,4,none⟩),undef),(35,l8,.agg (ec Y).toArray,undef),(36,l9,.agg (ec n6).toArray,undef),(37,l10,.agg (ec n7).toArray,undef),(6,l11,.pointer (some ⟨g6,0,none⟩),undef)] ∧ Fr w w' (opt [(true,(w.heap.size,44,pc X Y)),(true,((w.heap.size + 1),44,pc U V)),(true,((w.heap.size + 1 + 1),44,pc 0 0)),(true,(g5,32,ec n4)),(l11,(g6,32,bif l12 then ec n7 else ec 0))]) ∧ (l12 = true → l11 = true)) ?start ?step ?rest
  case start=>exact ⟨false,false,false,false,false,false,false,false,false,false,false,false,false,0,by kernel_rfl,by kernel_rfl,h,(fun e=>by cases e)⟩
  case step =>
   clear h
   intro l b w' hI i hi
   obtain ⟨l0,l1,l2,l3,l4,l5,l6,l7,l8,l9,l10,l11,l12,g6,rfl,rfl,h,hc12⟩:=hI
   have hlt:i < 13:=ready_lt hi
   obtain rfl | rfl | rfl | rfl | rfl | rfl | rfl | rfl | rfl | rfl | rfl | rfl | rfl:=(by omega:i = 0 ∨ i = 1 ∨ i = 2 ∨ i = 3 ∨ i = 4 ∨ i = 5 ∨ i = 6 ∨ i = 7 ∨ i = 8 ∨ i = 9 ∨ i = 10 ∨ i = 11 ∨ i = 12)
   all_goals (obtain ⟨hn,hd⟩:=rin hi rfl;cases hn;(repeat (obtain ⟨hn,hd⟩:=hd;cases hn));clear hi hlt hd;refine wpOp_inv rfl rfl (fun K hK=>?_);simp only [putsA,Act.put,stA,st0,st1,cond_true,cond_false] at h ⊢)
   ·refine wp_value (.pointer (some ⟨w.heap.size,0,none⟩)) (by go_simp) ?_
    refine hK.out _ _ ⟨_,_,_,_,_,_,_,_,_,_,_,_,_,_,rfl,by kernel_rfl,h,?_⟩ <;> first | assumption | exact fun _=>rfl | exact nofun
   ·refine wp_value (.agg (ec X).toArray) (exec_load_at 32 _ rfl rfl (pc_x (h.rowo (k:=0) rfl)) rfl Tryz.underlying32 (ie4 _)) ?_
    refine hK.out _ _ ⟨_,_,_,_,_,_,_,_,_,_,_,_,_,_,rfl,by kernel_rfl,h,?_⟩ <;> first | assumption | exact fun _=>rfl | exact nofun
   ·refine wp_value (.pointer (some ⟨(w.heap.size + 1),4,none⟩)) (by go_simp) ?_
    refine hK.out _ _ ⟨_,_,_,_,_,_,_,_,_,_,_,_,_,_,rfl,by kernel_rfl,h,?_⟩ <;> first | assumption | exact fun _=>rfl | exact nofun
   ·refine wp_value (.agg (ec V).toArray) (exec_load_at 32 _ rfl rfl (pc_y (h.rowo (k:=1) rfl)) rfl Tryz.underlying32 (ie4 _)) ?_
    refine hK.out _ _ ⟨_,_,_,_,_,_,_,_,_,_,_,_,_,_,rfl,by kernel_rfl,h,?_⟩ <;> first | assumption | exact fun _=>rfl | exact nofun
   ·go_simp
    refine callOK (cn5 _) h ?_
    clear h
    rintro _ wn rfl h
    refine hK.out _ _ ⟨_,_,_,_,_,_,_,_,_,_,_,_,_,_,rfl,by kernel_rfl,h,?_⟩ <;> first | assumption | exact fun _=>rfl | exact nofun
   ·refine wp_value (.pointer (some ⟨(w.heap.size + 1),0,none⟩)) (by go_simp) ?_
    refine hK.out _ _ ⟨_,_,_,_,_,_,_,_,_,_,_,_,_,_,rfl,by kernel_rfl,h,?_⟩ <;> first | assumption | exact fun _=>rfl | exact nofun
   ·refine wp_value (.agg (ec U).toArray) (exec_load_at 32 _ rfl rfl (pc_x (h.rowo (k:=1) rfl)) rfl Tryz.underlying32 (ie4 _)) ?_
    refine hK.out _ _ ⟨_,_,_,_,_,_,_,_,_,_,_,_,_,_,rfl,by kernel_rfl,h,?_⟩ <;> first | assumption | exact fun _=>rfl | exact nofun
   ·refine wp_value (.pointer (some ⟨w.heap.size,4,none⟩)) (by go_simp) ?_
    refine hK.out _ _ ⟨_,_,_,_,_,_,_,_,_,_,_,_,_,_,rfl,by kernel_rfl,h,?_⟩ <;> first | assumption | exact fun _=>rfl | exact nofun
   ·refine wp_value (.agg (ec Y).toArray) (exec_load_at 32 _ rfl rfl (pc_y (h.rowo (k:=0) rfl)) rfl Tryz.underlying32 (ie4 _)) ?_
    refine hK.out _ _ ⟨_,_,_,_,_,_,_,_,_,_,_,_,_,_,rfl,by kernel_rfl,h,?_⟩ <;> first | assumption | exact fun _=>rfl | exact nofun
   ·go_simp
    refine callOK (cn6 _) h ?_
    clear h
    rintro _ wn rfl h
    refine hK.out _ _ ⟨_,_,_,_,_,_,_,_,_,_,_,_,_,_,rfl,by kernel_rfl,h,?_⟩ <;> first | assumption | exact fun _=>rfl | exact nofun
   ·go_simp
    refine callOK (cn7 _) h ?_
    clear h
    rintro _ wn rfl h
    refine hK.out _ _ ⟨_,_,_,_,_,_,_,_,_,_,_,_,_,_,rfl,by kernel_rfl,h,?_⟩ <;> first | assumption | exact fun _=>rfl | exact nofun
   ·obtain rfl:l12 = false:=by cases l12 with | false=>rfl | true=>exact absurd (hc12 rfl) (by decide)
    simp only [cond_false] at h ⊢
    refine wp_alloc_R 32 rfl (ec 0) z4w ?_
    obtain ⟨gn,hgq,hq⟩:=h.on (k:=4) rfl 32 (ec 0)
    rw [hgq]
    refine hK.out _ _ ⟨_,_,_,_,_,_,_,_,_,_,_,_,_,_,rfl,by kernel_rfl,hq,?_⟩ <;> first | assumption | exact fun _=>rfl | exact nofun
   ·refine wp_store_R 32 _ _ rfl _ (ec n7) rfl rfl (h.rowo (k:=4) rfl) (ie4 _) rfl (ec_all _) ?_
    intro wz q hg hz
    replace h:=h.puto (k:=4) rfl q hg
    refine hK.out _ _ ⟨_,_,_,_,_,_,_,_,_,_,_,_,_,_,rfl,by kernel_rfl,h,?_⟩ <;> first | assumption | exact fun _=>rfl | exact nofun
  case rest =>
   clear h
   intro l b w' hI hr
   obtain ⟨l0,l1,l2,l3,l4,l5,l6,l7,l8,l9,l10,l11,l12,g6,rfl,rfl,h,hc12⟩:=hI
   cases rall hr rfl (by rfl)
   clear hr hc12
   simp only [putsA,Act.put,stA,st0,st1,cond_true]
   replace h:Fr w w' [(w.heap.size,44,pc X Y),((w.heap.size + 1),44,pc U V),((w.heap.size + 1 + 1),44,pc 0 0),(g5,32,ec n4),(g6,32,ec n7)]:=h
   go_upto_region 5 with fail
   try simp only [Act.put,stA,st0,st1]
   replace h:=h.drew
   refine wp_region_inv (by kernel_rfl) (fun a0 l b w'=>∃ (l0 l1 l2 l3 l4 l5 l6 l7 l8 l9 l10 l11 l12:Bool) (g7:Nat) ,l = #[l0,l1,l2,l3,l4,l5,l6,l7,l8,l9,l10,l11,l12] ∧ b = putsA a0 [(38,l0,.pointer (some ⟨w.heap.size,4,none⟩),undef),(39,l1,.agg (ec Y).toArray,undef),(40,l2,.pointer (some ⟨(w.heap.size + 1),4,none⟩),undef),(41,l3,.agg (ec V).toArray,undef),(42,l4,.agg (ec n2).toArray,undef),(43,l5,.pointer (some ⟨w.heap.size,0,none⟩),undef),(44,l6,.agg (ec X).toArray,undef),(45,l7,.pointer (some ⟨(w.heap.size + 1),0,none⟩),undef),(46,l8,.agg (ec U).toArray,undef),(47,l9,.agg (ec n1).toArray,undef),(48,l10,.agg (ec n8).toArray,undef),(7,l11,.pointer (some ⟨g7,0,none⟩),undef)] ∧ Fr w w' (opt [(true,(w.heap.size,44,pc X Y)),(true,((w.heap.size + 1),44,pc U V)),(true,((w.heap.size + 1 + 1),44,pc 0 0)),(true,(g5,32,ec n4)),(true,(g6,32,ec n7)),(l11,(g7,32,bif l12 then ec n8 else ec 0))]) ∧ (l12 = true → l11 = true)) ?start ?step ?rest
   case start=>exact ⟨false,false,false,false,false,false,false,false,false,false,false,false,false,0,by kernel_rfl,by kernel_rfl,h,(fun e=>by cases e)⟩
   case step =>
    clear h
    intro l b w' hI i hi
    obtain ⟨l0,l1,l2,l3,l4,l5,l6,l7,l8,l9,l10,l11,l12,g7,rfl,rfl,h,hc12⟩:=hI
    have hlt:i < 13:=ready_lt hi
    obtain rfl | rfl | rfl | rfl | rfl | rfl | rfl | rfl | rfl | rfl | rfl | rfl | rfl:=(by omega:i = 0 ∨ i = 1 ∨ i = 2 ∨ i = 3 ∨ i = 4 ∨ i = 5 ∨ i = 6 ∨ i = 7 ∨ i = 8 ∨ i = 9 ∨ i = 10 ∨ i = 11 ∨ i = 12)
    all_goals (obtain ⟨hn,hd⟩:=rin hi rfl;cases hn;(repeat (obtain ⟨hn,hd⟩:=hd;cases hn));clear hi hlt hd;refine wpOp_inv rfl rfl (fun K hK=>?_);simp only [putsA,Act.put,stA,st0,st1,cond_true,cond_false] at h ⊢)
    ·refine wp_value (.pointer (some ⟨w.heap.size,4,none⟩)) (by go_simp) ?_
     refine hK.out _ _ ⟨_,_,_,_,_,_,_,_,_,_,_,_,_,_,rfl,by kernel_rfl,h,?_⟩ <;> first | assumption | exact fun _=>rfl | exact nofun
    ·refine wp_value (.agg (ec Y).toArray) (exec_load_at 32 _ rfl rfl (pc_y (h.rowo (k:=0) rfl)) rfl Tryz.underlying32 (ie4 _)) ?_
     refine hK.out _ _ ⟨_,_,_,_,_,_,_,_,_,_,_,_,_,_,rfl,by kernel_rfl,h,?_⟩ <;> first | assumption | exact fun _=>rfl | exact nofun
    ·refine wp_value (.pointer (some ⟨(w.heap.size + 1),4,none⟩)) (by go_simp) ?_
     refine hK.out _ _ ⟨_,_,_,_,_,_,_,_,_,_,_,_,_,_,rfl,by kernel_rfl,h,?_⟩ <;> first | assumption | exact fun _=>rfl | exact nofun
    ·refine wp_value (.agg (ec V).toArray) (exec_load_at 32 _ rfl rfl (pc_y (h.rowo (k:=1) rfl)) rfl Tryz.underlying32 (ie4 _)) ?_
     refine hK.out _ _ ⟨_,_,_,_,_,_,_,_,_,_,_,_,_,_,rfl,by kernel_rfl,h,?_⟩ <;> first | assumption | exact fun _=>rfl | exact nofun
    ·go_simp
     refine callOK (cn2 _) h ?_
     clear h
     rintro _ wn rfl h
     refine hK.out _ _ ⟨_,_,_,_,_,_,_,_,_,_,_,_,_,_,rfl,by kernel_rfl,h,?_⟩ <;> first | assumption | exact fun _=>rfl | exact nofun
    ·refine wp_value (.pointer (some ⟨w.heap.size,0,none⟩)) (by go_simp) ?_
     refine hK.out _ _ ⟨_,_,_,_,_,_,_,_,_,_,_,_,_,_,rfl,by kernel_rfl,h,?_⟩ <;> first | assumption | exact fun _=>rfl | exact nofun
    ·refine wp_value (.agg (ec X).toArray) (exec_load_at 32 _ rfl rfl (pc_x (h.rowo (k:=0) rfl)) rfl Tryz.underlying32 (ie4 _)) ?_
     refine hK.out _ _ ⟨_,_,_,_,_,_,_,_,_,_,_,_,_,_,rfl,by kernel_rfl,h,?_⟩ <;> first | assumption | exact fun _=>rfl | exact nofun
    ·refine wp_value (.pointer (some ⟨(w.heap.size + 1),0,none⟩)) (by go_simp) ?_
     refine hK.out _ _ ⟨_,_,_,_,_,_,_,_,_,_,_,_,_,_,rfl,by kernel_rfl,h,?_⟩ <;> first | assumption | exact fun _=>rfl | exact nofun
    ·refine wp_value (.agg (ec U).toArray) (exec_load_at 32 _ rfl rfl (pc_x (h.rowo (k:=1) rfl)) rfl Tryz.underlying32 (ie4 _)) ?_
     refine hK.out _ _ ⟨_,_,_,_,_,_,_,_,_,_,_,_,_,_,rfl,by kernel_rfl,h,?_⟩ <;> first | assumption | exact fun _=>rfl | exact nofun
    ·go_simp
     refine callOK (cn1 _) h ?_
     clear h
     rintro _ wn rfl h
     refine hK.out _ _ ⟨_,_,_,_,_,_,_,_,_,_,_,_,_,_,rfl,by kernel_rfl,h,?_⟩ <;> first | assumption | exact fun _=>rfl | exact nofun
    ·go_simp
     refine callOK (cn8 _) h ?_
     clear h
     rintro _ wn rfl h
     refine hK.out _ _ ⟨_,_,_,_,_,_,_,_,_,_,_,_,_,_,rfl,by kernel_rfl,h,?_⟩ <;> first | assumption | exact fun _=>rfl | exact nofun
    ·obtain rfl:l12 = false:=by cases l12 with | false=>rfl | true=>exact absurd (hc12 rfl) (by decide)
     simp only [cond_false] at h ⊢
     refine wp_alloc_R 32 rfl (ec 0) z4w ?_
     obtain ⟨gn,hgq,hq⟩:=h.on (k:=5) rfl 32 (ec 0)
     rw [hgq]
     refine hK.out _ _ ⟨_,_,_,_,_,_,_,_,_,_,_,_,_,_,rfl,by kernel_rfl,hq,?_⟩ <;> first | assumption | exact fun _=>rfl | exact nofun
    ·refine wp_store_R 32 _ _ rfl _ (ec n8) rfl rfl (h.rowo (k:=5) rfl) (ie4 _) rfl (ec_all _) ?_
     intro wz q hg hz
     replace h:=h.puto (k:=5) rfl q hg
     refine hK.out _ _ ⟨_,_,_,_,_,_,_,_,_,_,_,_,_,_,rfl,by kernel_rfl,h,?_⟩ <;> first | assumption | exact fun _=>rfl | exact nofun
   case rest =>
    clear h
    intro l b w' hI hr
    obtain ⟨l0,l1,l2,l3,l4,l5,l6,l7,l8,l9,l10,l11,l12,g7,rfl,rfl,h,hc12⟩:=hI
    cases rall hr rfl (by rfl)
    clear hr hc12
    simp only [putsA,Act.put,stA,st0,st1,cond_true]
    replace h:Fr w w' [(w.heap.size,44,pc X Y),((w.heap.size + 1),44,pc U V),((w.heap.size + 1 + 1),44,pc 0 0),(g5,32,ec n4),(g6,32,ec n7),(g7,32,ec n8)]:=h
    go_wp2_with (first | refine wpList_build_C rfl 32 _ rfl (ec 1) (by kernel_rfl) ?_ | refine wpList_load_row rfl 32 _ rfl _ rfl _ _ _ _ (h.row (i:=3) rfl) Tryz.underlying32 rfl (ie4 _) ?_)
    refine callOK (cn9 _) h ?_
    clear h
    rintro _ wn rfl h
    go_wp2_with (fail)
    refine callOK (cn10 _) h ?_
    clear h
    rintro _ wn rfl h
    obtain ⟨g8,hgq,hq⟩:=h.more 6 32 (ec 0)
    replace hq:Fr w _ [(w.heap.size,44,pc X Y),((w.heap.size + 1),44,pc U V),((w.heap.size + 1 + 1),44,pc 0 0),(g5,32,ec n4),(g6,32,ec n7),(g7,32,ec n8),(g8,32,ec 0)]:=hq
    go_upto_region 7 with (first | refine wpList_alloc_row rfl 32 rfl _ z4w ?_ | (refine wpList_store_R rfl 32 _ _ rfl _ (ec n10) (congrArg (fun g=>Value.pointer (some ⟨g,0,none⟩)) hgq) rfl (hq.row (i:=6) rfl) (ie4 _) rfl (ec_all _) ?_;intro wz q hg hz))
    replace h:Fr w wz [(w.heap.size,44,pc X Y),((w.heap.size + 1),44,pc U V),((w.heap.size + 1 + 1),44,pc 0 0),(g5,32,ec n4),(g6,32,ec n7),(g7,32,ec n8),(g8,32,ec n10)]:=hq.put (i:=6) rfl q hg
    try rw [hgq]
    clear q hg hz hq hgq
    go_wp2_with (first | refine wpList_build_C rfl 32 _ rfl (ec 1) (by kernel_rfl) ?_ | refine wpList_load_row rfl 32 _ rfl _ rfl _ _ _ _ (h.row (i:=3) rfl) Tryz.underlying32 rfl (ie4 _) ?_)
    refine callOK (cn11 _) h ?_
    clear h
    rintro _ wn rfl h
    go_wp2_with (fail)
    refine callOK (cn12 _) h ?_
    clear h
    rintro _ wn rfl h
    obtain ⟨g9,hgq,hq⟩:=h.more 7 32 (ec 0)
    replace hq:Fr w _ [(w.heap.size,44,pc X Y),((w.heap.size + 1),44,pc U V),((w.heap.size + 1 + 1),44,pc 0 0),(g5,32,ec n4),(g6,32,ec n7),(g7,32,ec n8),(g8,32,ec n10),(g9,32,ec 0)]:=hq
    go_upto_region 8 with (first | refine wpList_alloc_row rfl 32 rfl _ z4w ?_ | (refine wpList_store_R rfl 32 _ _ rfl _ (ec n12) (congrArg (fun g=>Value.pointer (some ⟨g,0,none⟩)) hgq) rfl (hq.row (i:=7) rfl) (ie4 _) rfl (ec_all _) ?_;intro wz q hg hz))
    replace h:Fr w wz [(w.heap.size,44,pc X Y),((w.heap.size + 1),44,pc U V),((w.heap.size + 1 + 1),44,pc 0 0),(g5,32,ec n4),(g6,32,ec n7),(g7,32,ec n8),(g8,32,ec n10),(g9,32,ec n12)]:=hq.put (i:=7) rfl q hg
    try rw [hgq]
    clear q hg hz hq hgq
    try simp only [Act.put]
    replace h:=h.drew
    refine wp_region_noPanic ?_
    refine wp_region_held_drew (S:=fun w'=>Row w' g6 32 (ec n7) ∧ Row w' g8 32 (ec n10) ∧ Row w' g7 32 (ec n8) ∧ Row w' g9 32 (ec n12)) (by kernel_rfl) ⟨h.row (i:=4) rfl,h.row (i:=6) rfl,h.row (i:=5) rfl,h.row (i:=7) rfl⟩ (fun _=>?_)
    refine tkL 0 (.agg (ec n7).toArray) rfl (fun w hSw=>exec_load_W 32 _ rfl rfl hSw.1 Tryz.underlying32 rfl (ie4 _)) ?_
    simp only [Act.put,stA,st0,st1]
    refine tkL 1 (.agg (ec n10).toArray) rfl (fun w hSw=>exec_load_W 32 _ rfl rfl hSw.2.1 Tryz.underlying32 rfl (ie4 _)) ?_
    simp only [Act.put,stA,st0,st1]
    refine tkL 3 (.agg (ec n8).toArray) rfl (fun w hSw=>exec_load_W 32 _ rfl rfl hSw.2.2.1 Tryz.underlying32 rfl (ie4 _)) ?_
    simp only [Act.put,stA,st0,st1]
    refine tkL 4 (.agg (ec n12).toArray) rfl (fun w hSw=>exec_load_W 32 _ rfl rfl hSw.2.2.2 Tryz.underlying32 rfl (ie4 _)) ?_
    simp only [Act.put,stA,st0,st1]
    refine ar1 2 rfl (fun K hK=>?_)
    go_simp
    refine callOK (cn13 _) h ?_
    clear h
    rintro _ wn rfl h
    refine hK.out _ _ ⟨h.row (i:=4) rfl,h.row (i:=6) rfl,h.row (i:=5) rfl,h.row (i:=7) rfl⟩ (fun _=>?_)
    clear hK K
    refine ar1 5 rfl (fun K hK=>?_)
    go_simp
    refine callOK (cn14 _) h ?_
    clear h
    rintro _ wn rfl h
    refine hK.out _ _ ⟨h.row (i:=4) rfl,h.row (i:=6) rfl,h.row (i:=5) rfl,h.row (i:=7) rfl⟩ (fun _=>?_)
    clear hK K
    refine tkL 6 (.agg (pc n13 n14).toArray) rfl (fun w hSw=>exec_build_C 44 _ rfl (pc n13 n14) (by kernel_rfl)) ?_
    simp only [Act.put,stA,st0,st1]
    refine ar1 7 rfl (fun K hK=>?_)
    refine wp_store_R 44 _ _ rfl _ (pc n13 n14) rfl rfl (h.row (i:=2) rfl) (iP _ _) rfl (pc_all _ _) ?_
    intro wz q hg hz
    replace h:Fr w wz [(w.heap.size,44,pc X Y),((w.heap.size + 1),44,pc U V),((w.heap.size + 1 + 1),44,pc n13 n14),(g5,32,ec n4),(g6,32,ec n7),(g7,32,ec n8),(g8,32,ec n10),(g9,32,ec n12)]:=h.put (i:=2) rfl q hg
    clear q hg hz
    refine hK.out _ _ ⟨h.row (i:=4) rfl,h.row (i:=6) rfl,h.row (i:=5) rfl,h.row (i:=7) rfl⟩ (fun _=>?_)
    clear hK K
    refine wpAnyH_done (by kernel_rfl) ?_ _
    refine NoPanic.normal ?_
    go_wp2
    exact result_row Tryz.results40 rfl (h.row (i:=2) rfl) Tryz.underlying44 rfl (iP _ _) rfl ⟨by rw [HV.out],h.bel⟩
end Go.Proofs.YtmjimilhomabfaaGreatDoor.F
