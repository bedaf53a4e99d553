/-
 The document's sum of fractions; over this seat's translation. Conditions: each as it says.
-/
import Derived.Test.YtmjimilhomabfaaGreatDoorE13a
namespace Go.Proofs.YtmjimilhomabfaaGreatDoor.F
open Go.RowKit
set_option linter.unusedVariables false
set_option maxRecDepth 10000
open E (z z_val z_same z_add z_mul z_sub z_inv z_mod z_of dd Pt padd pneg pmul iv ax ay tadd)
theorem tadd_form (x1 y1 z1 x2 y2 z2:E.Z):tadd (x1,y1,z1) (x2,y2,z2) = (z1 * z2 * ((z1 * z2 * (z1 * z2) - dd * (x1 * x2 * (y1 * y2))) * (x1 * y2 + x2 * y1)),z1 * z2 * ((z1 * z2 * (z1 * z2) + dd * (x1 * x2 * (y1 * y2))) * (x1 * x2 + y1 * y2)),(z1 * z2 * (z1 * z2) - dd * (x1 * x2 * (y1 * y2))) * (z1 * z2 * (z1 * z2) + dd * (x1 * x2 * (y1 * y2)))):=by
 rfl
set_option maxHeartbeats 8000000 in
theorem plus13_any (A B M D E N:Nat) (lA:A < 115792089237316195423570985008687907853269984665640564039457584007913129639936) (lB:B < 115792089237316195423570985008687907853269984665640564039457584007913129639936) (lM:M < 115792089237316195423570985008687907853269984665640564039457584007913129639936) (lD:D < 115792089237316195423570985008687907853269984665640564039457584007913129639936) (lE:E < 115792089237316195423570985008687907853269984665640564039457584007913129639936) (lN:N < 115792089237316195423570985008687907853269984665640564039457584007913129639936) (w:World):Calls Tryz.prog 48 #[.agg (fc A B M).toArray,.agg (fc D E N).toArray] w fun e w'=>(∃ U V W,e = .returned (.agg (fc U V W).toArray) ∧ U < 115792089237316195423570985008687907853269984665640564039457584007913129639936 ∧ V < 115792089237316195423570985008687907853269984665640564039457584007913129639936 ∧ W < 115792089237316195423570985008687907853269984665640564039457584007913129639936 ∧ (z U,z V,z W) = tadd (z A,z B,z M) (z D,z E,z N)) ∧ Below w.heap.size w w':=by
 obtain ⟨w2,h2,h⟩:=Fr.three w 63 63 63 (fc A B M) (fc D E N) (fc 0 0 0)
 obtain ⟨n1,en1,ln1,cn1⟩:=erMul M N lM lN
 obtain ⟨n2,en2,ln2,cn2⟩:=erMul n1 n1 ln1 ln1
 obtain ⟨n3,en3,ln3,cn3⟩:=erMul A D lA lD
 obtain ⟨n4,en4,ln4,cn4⟩:=erMul B E lB lE
 obtain ⟨n5,en5,ln5,cn5⟩:=erMul n3 n4 ln3 ln4
 obtain ⟨n6,en6,ln6,cn6⟩:=erMul Dn n5 lDn ln5
 obtain ⟨n7,en7,ln7,cn7⟩:=erSub n2 n6 ln2 ln6
 obtain ⟨n8,en8,ln8,cn8⟩:=erAdd n2 n6 ln2 ln6
 obtain ⟨n9,en9,ln9,cn9⟩:=erMul A E lA lE
 obtain ⟨n10,en10,ln10,cn10⟩:=erMul D B lD lB
 obtain ⟨n11,en11,ln11,cn11⟩:=erAdd n9 n10 ln9 ln10
 obtain ⟨n12,en12,ln12,cn12⟩:=erMul n7 n11 ln7 ln11
 obtain ⟨n13,en13,ln13,cn13⟩:=erMul n1 n12 ln1 ln12
 obtain ⟨n14,en14,ln14,cn14⟩:=erAdd n3 n4 ln3 ln4
 obtain ⟨n15,en15,ln15,cn15⟩:=erMul n8 n14 ln8 ln14
 obtain ⟨n16,en16,ln16,cn16⟩:=erMul n1 n15 ln1 ln15
 obtain ⟨n17,en17,ln17,cn17⟩:=erMul n7 n8 ln7 ln8
 have HV:Away ((z n13,z n16,z n17) = tadd (z A,z B,z M) (z D,z E,z N)):=⟨by
  rw [tadd_form]
  rw [← en17.out,z_mul,← en16.out,z_mul,← en15.out,z_mul,← en14.out,z_add,← en13.out,z_mul,← en12.out,z_mul,← en11.out,z_add,← en10.out,z_mul,← en9.out,z_mul,← en8.out,z_add,← en7.out,z_sub,← en6.out,z_mul,← en5.out,z_mul,← en4.out,z_mul,← en3.out,z_mul,← en2.out,z_mul,← en1.out,z_mul,z_D]⟩
 go_enter Tryz.func48,Tryz.ntmps48
 go_upto_region 1 with (refine wpList_alloc_row rfl 63 rfl _ zFw ?_)
 try simp only [Act.put,stA,st0,st1,alloc_size,h2]
 clear h2
 go_wp2_with (first | refine wpList_load_at rfl 32 _ rfl rfl (fc_z (h.row (i:=0) rfl)) rfl Tryz.underlying32 (ie4 _) ?_ | refine wpList_load_at rfl 32 _ rfl rfl (fc_z (h.row (i:=1) rfl)) rfl Tryz.underlying32 (ie4 _) ?_)
 refine callOK (cn1 _) h ?_
 clear h
 rintro _ wn rfl h
 obtain ⟨g5,hgq,hq⟩:=h.more 3 32 (ec 0)
 replace hq:Fr w _ [(w.heap.size,63,fc A B M),((w.heap.size + 1),63,fc D E N),((w.heap.size + 1 + 1),63,fc 0 0 0),(g5,32,ec 0)]:=hq
 go_upto_region 2 with (first | refine wpList_alloc_row rfl 32 rfl _ z4w ?_ | (refine wpList_store_R rfl 32 _ _ rfl _ (ec n1) (congrArg (fun g=>Value.pointer (some ⟨g,0,none⟩)) hgq) rfl (hq.row (i:=3) rfl) (ie4 _) rfl (ec_all _) ?_;intro wz q hg hz))
 replace h:Fr w wz [(w.heap.size,63,fc A B M),((w.heap.size + 1),63,fc D E N),((w.heap.size + 1 + 1),63,fc 0 0 0),(g5,32,ec n1)]:=hq.put (i:=3) rfl q hg
 try rw [hgq]
 clear q hg hz hq hgq
 go_wp2_with (first | refine wpList_load_row rfl 32 _ rfl _ rfl _ _ _ _ (h.row (i:=3) rfl) Tryz.underlying32 rfl (ie4 _) ?_)
 refine callOK (cn2 _) h ?_
 clear h
 rintro _ wn rfl h
 obtain ⟨g6,hgq,hq⟩:=h.more 4 32 (ec 0)
 replace hq:Fr w _ [(w.heap.size,63,fc A B M),((w.heap.size + 1),63,fc D E N),((w.heap.size + 1 + 1),63,fc 0 0 0),(g5,32,ec n1),(g6,32,ec 0)]:=hq
 go_upto_region 3 with (first | refine wpList_alloc_row rfl 32 rfl _ z4w ?_ | (refine wpList_store_R rfl 32 _ _ rfl _ (ec n2) (congrArg (fun g=>Value.pointer (some ⟨g,0,none⟩)) hgq) rfl (hq.row (i:=4) rfl) (ie4 _) rfl (ec_all _) ?_;intro wz q hg hz))
 replace h:Fr w wz [(w.heap.size,63,fc A B M),((w.heap.size + 1),63,fc D E N),((w.heap.size + 1 + 1),63,fc 0 0 0),(g5,32,ec n1),(g6,32,ec n2)]:=hq.put (i:=4) rfl q hg
 try rw [hgq]
 clear q hg hz hq hgq
 try simp only [Act.put,stA,st0,st1]
 replace h:=h.drew
 refine wp_region_inv (by kernel_rfl) (fun a0 l b w'=>∃ (l0 l1 l2 l3 l4 l5 l6 l7 l8 l9 l10 l11 l12 l13:Bool) (g7 g8:Nat) ,l = #[l0,l1,l2,l3,l4,l5,l6,l7,l8,l9,l10,l11,l12,l13] ∧ b = putsA a0 [(23,l0,.pointer (some ⟨w.heap.size,0,none⟩),undef),(24,l1,.agg (ec A).toArray,undef),(25,l2,.pointer (some ⟨(w.heap.size + 1),0,none⟩),undef),(26,l3,.agg (ec D).toArray,undef),(27,l4,.agg (ec n3).toArray,undef),(28,l5,.pointer (some ⟨w.heap.size,4,none⟩),undef),(29,l6,.agg (ec B).toArray,undef),(30,l7,.pointer (some ⟨(w.heap.size + 1),4,none⟩),undef),(31,l8,.agg (ec E).toArray,undef),(32,l9,.agg (ec n4).toArray,undef),(7,l10,.pointer (some ⟨g7,0,none⟩),undef),(8,l11,.pointer (some ⟨g8,0,none⟩),undef)] ∧ Fr w w' (opt [(true,(w.heap.size,63,fc A B M)),(true,((w.heap.size + 1),63,fc D E N)),(true,((w.heap.size + 1 + 1),63,fc 0 0 0)),(true,(g5,32,ec n1)),(true,(g6,32,ec n2)),(l10,(g7,32,bif l12 then ec n3 else ec 0)),(l11,(g8,32,bif l13 then ec n4 else ec 0))]) ∧ (l12 = true → l10 = true) ∧ (l13 = true → l11 = true)) ?start ?step ?rest
 case start=>exact ⟨false,false,false,false,false,false,false,false,false,false,false,false,false,false,0,0,by kernel_rfl,by kernel_rfl,h,(fun e=>by cases e),(fun e=>by cases e)⟩
 case step =>
  clear h
  intro l b w' hI i hi
  obtain ⟨l0,l1,l2,l3,l4,l5,l6,l7,l8,l9,l10,l11,l12,l13,g7,g8,rfl,rfl,h,hc12,hc13⟩:=hI
  have hlt:i < 14:=ready_lt hi
  obtain rfl | rfl | rfl | rfl | rfl | rfl | rfl | rfl | rfl | rfl | rfl | rfl | rfl | rfl:=(by omega:i = 0 ∨ i = 1 ∨ i = 2 ∨ i = 3 ∨ i = 4 ∨ i = 5 ∨ i = 6 ∨ i = 7 ∨ i = 8 ∨ i = 9 ∨ i = 10 ∨ i = 11 ∨ i = 12 ∨ i = 13)
  all_goals (obtain ⟨hn,hd⟩:=rin hi rfl;cases hn;(repeat (obtain ⟨hn,hd⟩:=hd;cases hn));clear hi hlt hd;refine wpOp_inv rfl rfl (fun K hK=>?_);simp only [putsA,Act.put,stA,st0,st1,cond_true,cond_false] at h ⊢)
  ·refine wp_value (.pointer (some ⟨w.heap.size,0,none⟩)) (by go_simp) ?_
   refine hK.out _ _ ⟨_,_,_,_,_,_,_,_,_,_,_,_,_,_,_,_,rfl,by kernel_rfl,h,?_,?_⟩ <;> first | assumption | exact fun _=>rfl | exact nofun
  ·refine wp_value (.agg (ec A).toArray) (exec_load_at 32 _ rfl rfl (fc_x (h.rowo (k:=0) rfl)) rfl Tryz.underlying32 (ie4 _)) ?_
   refine hK.out _ _ ⟨_,_,_,_,_,_,_,_,_,_,_,_,_,_,_,_,rfl,by kernel_rfl,h,?_,?_⟩ <;> first | assumption | exact fun _=>rfl | exact nofun
  ·refine wp_value (.pointer (some ⟨(w.heap.size + 1),0,none⟩)) (by go_simp) ?_
   refine hK.out _ _ ⟨_,_,_,_,_,_,_,_,_,_,_,_,_,_,_,_,rfl,by kernel_rfl,h,?_,?_⟩ <;> first | assumption | exact fun _=>rfl | exact nofun
  ·refine wp_value (.agg (ec D).toArray) (exec_load_at 32 _ rfl rfl (fc_x (h.rowo (k:=1) rfl)) rfl Tryz.underlying32 (ie4 _)) ?_
   refine hK.out _ _ ⟨_,_,_,_,_,_,_,_,_,_,_,_,_,_,_,_,rfl,by kernel_rfl,h,?_,?_⟩ <;> first | assumption | exact fun _=>rfl | exact nofun
  ·go_simp
   refine callOK (cn3 _) h ?_
   clear h
   rintro _ wn rfl h
   refine hK.out _ _ ⟨_,_,_,_,_,_,_,_,_,_,_,_,_,_,_,_,rfl,by kernel_rfl,h,?_,?_⟩ <;> first | assumption | exact fun _=>rfl | exact nofun
  ·refine wp_value (.pointer (some ⟨w.heap.size,4,none⟩)) (by go_simp) ?_
   refine hK.out _ _ ⟨_,_,_,_,_,_,_,_,_,_,_,_,_,_,_,_,rfl,by kernel_rfl,h,?_,?_⟩ <;> first | assumption | exact fun _=>rfl | exact nofun
  ·refine wp_value (.agg (ec B).toArray) (exec_load_at 32 _ rfl rfl (fc_y (h.rowo (k:=0) rfl)) rfl Tryz.underlying32 (ie4 _)) ?_
   refine hK.out _ _ ⟨_,_,_,_,_,_,_,_,_,_,_,_,_,_,_,_,rfl,by kernel_rfl,h,?_,?_⟩ <;> first | assumption | exact fun _=>rfl | exact nofun
  ·refine wp_value (.pointer (some ⟨(w.heap.size + 1),4,none⟩)) (by go_simp) ?_
   refine hK.out _ _ ⟨_,_,_,_,_,_,_,_,_,_,_,_,_,_,_,_,rfl,by kernel_rfl,h,?_,?_⟩ <;> first | assumption | exact fun _=>rfl | exact nofun
  ·refine wp_value (.agg (ec E).toArray) (exec_load_at 32 _ rfl rfl (fc_y (h.rowo (k:=1) rfl)) rfl Tryz.underlying32 (ie4 _)) ?_
   refine hK.out _ _ ⟨_,_,_,_,_,_,_,_,_,_,_,_,_,_,_,_,rfl,by kernel_rfl,h,?_,?_⟩ <;> first | assumption | exact fun _=>rfl | exact nofun
  ·go_simp
   refine callOK (cn4 _) h ?_
   clear h
   rintro _ wn rfl h
   refine hK.out _ _ ⟨_,_,_,_,_,_,_,_,_,_,_,_,_,_,_,_,rfl,by kernel_rfl,h,?_,?_⟩ <;> first | assumption | exact fun _=>rfl | exact nofun
  ·obtain rfl:l12 = false:=by cases l12 with | false=>rfl | true=>exact absurd (hc12 rfl) (by decide)
   simp only [cond_false] at h ⊢
   refine wp_alloc_R 32 rfl (ec 0) z4w ?_
   obtain ⟨gn,hgq,hq⟩:=h.on (k:=5) rfl 32 (ec 0)
   rw [hgq]
   refine hK.out _ _ ⟨_,_,_,_,_,_,_,_,_,_,_,_,_,_,_,_,rfl,by kernel_rfl,hq,?_,?_⟩ <;> first | assumption | exact fun _=>rfl | exact nofun
  ·obtain rfl:l13 = false:=by cases l13 with | false=>rfl | true=>exact absurd (hc13 rfl) (by decide)
   simp only [cond_false] at h ⊢
   refine wp_alloc_R 32 rfl (ec 0) z4w ?_
   obtain ⟨gn,hgq,hq⟩:=h.on (k:=6) rfl 32 (ec 0)
   rw [hgq]
   refine hK.out _ _ ⟨_,_,_,_,_,_,_,_,_,_,_,_,_,_,_,_,rfl,by kernel_rfl,hq,?_,?_⟩ <;> first | assumption | exact fun _=>rfl | exact nofun
  ·refine wp_store_R 32 _ _ rfl _ (ec n3) rfl rfl (h.rowo (k:=5) rfl) (ie4 _) rfl (ec_all _) ?_
   intro wz q hg hz
   replace h:=h.puto (k:=5) rfl q hg
   refine hK.out _ _ ⟨_,_,_,_,_,_,_,_,_,_,_,_,_,_,_,_,rfl,by kernel_rfl,h,?_,?_⟩ <;> first | assumption | exact fun _=>rfl | exact nofun
  ·refine wp_store_R 32 _ _ rfl _ (ec n4) rfl rfl (h.rowo (k:=6) rfl) (ie4 _) rfl (ec_all _) ?_
   intro wz q hg hz
   replace h:=h.puto (k:=6) rfl q hg
   refine hK.out _ _ ⟨_,_,_,_,_,_,_,_,_,_,_,_,_,_,_,_,rfl,by kernel_rfl,h,?_,?_⟩ <;> first | assumption | exact fun _=>rfl | exact nofun
 case rest =>
  clear h
  intro l b w' hI hr
  obtain ⟨l0,l1,l2,l3,l4,l5,l6,l7,l8,l9,l10,l11,l12,l13,g7,g8,rfl,rfl,h,hc12,hc13⟩:=hI
  cases rall hr rfl (by rfl)
  clear hr hc12 hc13
  simp only [putsA,Act.put,stA,st0,st1,cond_true]
  replace h:Fr w w' [(w.heap.size,63,fc A B M),((w.heap.size + 1),63,fc D E N),((w.heap.size + 1 + 1),63,fc 0 0 0),(g5,32,ec n1),(g6,32,ec n2),(g7,32,ec n3),(g8,32,ec n4)]:=h
  go_upto_region 4 with fail
  try simp only [Act.put,stA,st0,st1]
  replace h:=h.drew
  refine wp_region_inv (by kernel_rfl) (fun a0 l b w'=>∃ (l0 l1 l2 l3 l4 l5 l6:Bool) (g9:Nat) ,l = #[l0,l1,l2,l3,l4,l5,l6] ∧ b = putsA a0 [(33,l0,.agg (ec Dn).toArray,undef),(34,l1,.agg (ec n3).toArray,undef),(35,l2,.agg (ec n4).toArray,undef),(36,l3,.agg (ec n5).toArray,undef),(37,l4,.agg (ec n6).toArray,undef),(9,l5,.pointer (some ⟨g9,0,none⟩),undef)] ∧ Fr w w' (opt [(true,(w.heap.size,63,fc A B M)),(true,((w.heap.size + 1),63,fc D E N)),(true,((w.heap.size + 1 + 1),63,fc 0 0 0)),(true,(g5,32,ec n1)),(true,(g6,32,ec n2)),(true,(g7,32,ec n3)),(true,(g8,32,ec n4)),(l5,(g9,32,bif l6 then ec n6 else ec 0))]) ∧ (l6 = true → l5 = true)) ?start ?step ?rest
  case start=>exact ⟨false,false,false,false,false,false,false,0,by kernel_rfl,by kernel_rfl,h,(fun e=>by cases e)⟩
  case step =>
   clear h
   intro l b w' hI i hi
   obtain ⟨l0,l1,l2,l3,l4,l5,l6,g9,rfl,rfl,h,hc6⟩:=hI
   have hlt:i < 7:=ready_lt hi
   obtain rfl | rfl | rfl | rfl | rfl | rfl | rfl:=(by omega:i = 0 ∨ i = 1 ∨ i = 2 ∨ i = 3 ∨ i = 4 ∨ i = 5 ∨ i = 6)
   all_goals (obtain ⟨hn,hd⟩:=rin hi rfl;cases hn;(repeat (obtain ⟨hn,hd⟩:=hd;cases hn));clear hi hlt hd;refine wpOp_inv rfl rfl (fun K hK=>?_);simp only [putsA,Act.put,stA,st0,st1,cond_true,cond_false] at h ⊢)
   ·go_simp
    refine callOK (d13_any _) h ?_
    clear h
    rintro _ wn rfl h
    refine hK.out _ _ ⟨_,_,_,_,_,_,_,_,rfl,by kernel_rfl,h,?_⟩ <;> first | assumption | exact fun _=>rfl | exact nofun
   ·refine wp_value (.agg (ec n3).toArray) (exec_load_W 32 _ rfl rfl (h.rowo (k:=5) rfl) Tryz.underlying32 rfl (ie4 _)) ?_
    refine hK.out _ _ ⟨_,_,_,_,_,_,_,_,rfl,by kernel_rfl,h,?_⟩ <;> first | assumption | exact fun _=>rfl | exact nofun
   ·refine wp_value (.agg (ec n4).toArray) (exec_load_W 32 _ rfl rfl (h.rowo (k:=6) rfl) Tryz.underlying32 rfl (ie4 _)) ?_
    refine hK.out _ _ ⟨_,_,_,_,_,_,_,_,rfl,by kernel_rfl,h,?_⟩ <;> first | assumption | exact fun _=>rfl | exact nofun
   ·go_simp
    refine callOK (cn5 _) h ?_
    clear h
    rintro _ wn rfl h
    refine hK.out _ _ ⟨_,_,_,_,_,_,_,_,rfl,by kernel_rfl,h,?_⟩ <;> first | assumption | exact fun _=>rfl | exact nofun
   ·go_simp
    refine callOK (cn6 _) h ?_
    clear h
    rintro _ wn rfl h
    refine hK.out _ _ ⟨_,_,_,_,_,_,_,_,rfl,by kernel_rfl,h,?_⟩ <;> first | assumption | exact fun _=>rfl | exact nofun
   ·obtain rfl:l6 = false:=by cases l6 with | false=>rfl | true=>exact absurd (hc6 rfl) (by decide)
    simp only [cond_false] at h ⊢
    refine wp_alloc_R 32 rfl (ec 0) z4w ?_
    obtain ⟨gn,hgq,hq⟩:=h.on (k:=7) rfl 32 (ec 0)
    rw [hgq]
    refine hK.out _ _ ⟨_,_,_,_,_,_,_,_,rfl,by kernel_rfl,hq,?_⟩ <;> first | assumption | exact fun _=>rfl | exact nofun
   ·refine wp_store_R 32 _ _ rfl _ (ec n6) rfl rfl (h.rowo (k:=7) rfl) (ie4 _) rfl (ec_all _) ?_
    intro wz q hg hz
    replace h:=h.puto (k:=7) rfl q hg
    refine hK.out _ _ ⟨_,_,_,_,_,_,_,_,rfl,by kernel_rfl,h,?_⟩ <;> first | assumption | exact fun _=>rfl | exact nofun
  case rest =>
   clear h
   intro l b w' hI hr
   obtain ⟨l0,l1,l2,l3,l4,l5,l6,g9,rfl,rfl,h,hc6⟩:=hI
   cases rall hr rfl (by rfl)
   clear hr hc6
   simp only [putsA,Act.put,stA,st0,st1,cond_true]
   replace h:Fr w w' [(w.heap.size,63,fc A B M),((w.heap.size + 1),63,fc D E N),((w.heap.size + 1 + 1),63,fc 0 0 0),(g5,32,ec n1),(g6,32,ec n2),(g7,32,ec n3),(g8,32,ec n4),(g9,32,ec n6)]:=h
   go_upto_region 5 with fail
   try simp only [Act.put,stA,st0,st1]
   replace h:=h.drew
   refine wp_region_inv (by kernel_rfl) (fun a0 l b w'=>∃ (l0 l1 l2 l3 l4 l5 l6 l7 l8 l9:Bool) (g10 g11:Nat) ,l = #[l0,l1,l2,l3,l4,l5,l6,l7,l8,l9] ∧ b = putsA a0 [(38,l0,.agg (ec n2).toArray,undef),(39,l1,.agg (ec n6).toArray,undef),(40,l2,.agg (ec n7).toArray,undef),(41,l3,.agg (ec n2).toArray,undef),(42,l4,.agg (ec n6).toArray,undef),(43,l5,.agg (ec n8).toArray,undef),(10,l6,.pointer (some ⟨g10,0,none⟩),undef),(11,l7,.pointer (some ⟨g11,0,none⟩),undef)] ∧ Fr w w' (opt [(true,(w.heap.size,63,fc A B M)),(true,((w.heap.size + 1),63,fc D E N)),(true,((w.heap.size + 1 + 1),63,fc 0 0 0)),(true,(g5,32,ec n1)),(true,(g6,32,ec n2)),(true,(g7,32,ec n3)),(true,(g8,32,ec n4)),(true,(g9,32,ec n6)),(l6,(g10,32,bif l8 then ec n7 else ec 0)),(l7,(g11,32,bif l9 then ec n8 else ec 0))]) ∧ (l8 = true → l6 = true) ∧ (l9 = true → l7 = true)) ?start ?step ?rest
   case start=>exact ⟨false,false,false,false,false,false,false,false,false,false,0,0,by kernel_rfl,by kernel_rfl,h,(fun e=>by cases e),(fun e=>by cases e)⟩
   case step =>
    clear h
    intro l b w' hI i hi
    obtain ⟨l0,l1,l2,l3,l4,l5,l6,l7,l8,l9,g10,g11,rfl,rfl,h,hc8,hc9⟩:=hI
    have hlt:i < 10:=ready_lt hi
    obtain rfl | rfl | rfl | rfl | rfl | rfl | rfl | rfl | rfl | rfl:=(by omega:i = 0 ∨ i = 1 ∨ i = 2 ∨ i = 3 ∨ i = 4 ∨ i = 5 ∨ i = 6 ∨ i = 7 ∨ i = 8 ∨ i = 9)
    all_goals (obtain ⟨hn,hd⟩:=rin hi rfl;cases hn;(repeat (obtain ⟨hn,hd⟩:=hd;cases hn));clear hi hlt hd;refine wpOp_inv rfl rfl (fun K hK=>?_);simp only [putsA,Act.put,stA,st0,st1,cond_true,cond_false] at h ⊢)
    ·refine wp_value (.agg (ec n2).toArray) (exec_load_W 32 _ rfl rfl (h.rowo (k:=4) rfl) Tryz.underlying32 rfl (ie4 _)) ?_
     refine hK.out _ _ ⟨_,_,_,_,_,_,_,_,_,_,_,_,rfl,by kernel_rfl,h,?_,?_⟩ <;> first | assumption | exact fun _=>rfl | exact nofun
    ·refine wp_value (.agg (ec n6).toArray) (exec_load_W 32 _ rfl rfl (h.rowo (k:=7) rfl) Tryz.underlying32 rfl (ie4 _)) ?_
     refine hK.out _ _ ⟨_,_,_,_,_,_,_,_,_,_,_,_,rfl,by kernel_rfl,h,?_,?_⟩ <;> first | assumption | exact fun _=>rfl | exact nofun
    ·go_simp
     refine callOK (cn7 _) h ?_
     clear h
     rintro _ wn rfl h
     refine hK.out _ _ ⟨_,_,_,_,_,_,_,_,_,_,_,_,rfl,by kernel_rfl,h,?_,?_⟩ <;> first | assumption | exact fun _=>rfl | exact nofun
    ·refine wp_value (.agg (ec n2).toArray) (exec_load_W 32 _ rfl rfl (h.rowo (k:=4) rfl) Tryz.underlying32 rfl (ie4 _)) ?_
     refine hK.out _ _ ⟨_,_,_,_,_,_,_,_,_,_,_,_,rfl,by kernel_rfl,h,?_,?_⟩ <;> first | assumption | exact fun _=>rfl | exact nofun
    ·refine wp_value (.agg (ec n6).toArray) (exec_load_W 32 _ rfl rfl (h.rowo (k:=7) rfl) Tryz.underlying32 rfl (ie4 _)) ?_
     refine hK.out _ _ ⟨_,_,_,_,_,_,_,_,_,_,_,_,rfl,by kernel_rfl,h,?_,?_⟩ <;> first | assumption | exact fun _=>rfl | exact nofun
    ·go_simp
     refine callOK (cn8 _) h ?_
     clear h
     rintro _ wn rfl h
     refine hK.out _ _ ⟨_,_,_,_,_,_,_,_,_,_,_,_,rfl,by kernel_rfl,h,?_,?_⟩ <;> first | assumption | exact fun _=>rfl | exact nofun
    ·obtain rfl:l8 = false:=by cases l8 with | false=>rfl | true=>exact absurd (hc8 rfl) (by decide)
     simp only [cond_false] at h ⊢
     refine wp_alloc_R 32 rfl (ec 0) z4w ?_
     obtain ⟨gn,hgq,hq⟩:=h.on (k:=8) rfl 32 (ec 0)
     rw [hgq]
     refine hK.out _ _ ⟨_,_,_,_,_,_,_,_,_,_,_,_,rfl,by kernel_rfl,hq,?_,?_⟩ <;> first | assumption | exact fun _=>rfl | exact nofun
    ·obtain rfl:l9 = false:=by cases l9 with | false=>rfl | true=>exact absurd (hc9 rfl) (by decide)
     simp only [cond_false] at h ⊢
     refine wp_alloc_R 32 rfl (ec 0) z4w ?_
     obtain ⟨gn,hgq,hq⟩:=h.on (k:=9) rfl 32 (ec 0)
     rw [hgq]
     refine hK.out _ _ ⟨_,_,_,_,_,_,_,_,_,_,_,_,rfl,by kernel_rfl,hq,?_,?_⟩ <;> first | assumption | exact fun _=>rfl | exact nofun
    ·refine wp_store_R 32 _ _ rfl _ (ec n7) rfl rfl (h.rowo (k:=8) rfl) (ie4 _) rfl (ec_all _) ?_
     intro wz q hg hz
     replace h:=h.puto (k:=8) rfl q hg
     refine hK.out _ _ ⟨_,_,_,_,_,_,_,_,_,_,_,_,rfl,by kernel_rfl,h,?_,?_⟩ <;> first | assumption | exact fun _=>rfl | exact nofun
    ·refine wp_store_R 32 _ _ rfl _ (ec n8) rfl rfl (h.rowo (k:=9) rfl) (ie4 _) rfl (ec_all _) ?_
     intro wz q hg hz
     replace h:=h.puto (k:=9) rfl q hg
     refine hK.out _ _ ⟨_,_,_,_,_,_,_,_,_,_,_,_,rfl,by kernel_rfl,h,?_,?_⟩ <;> first | assumption | exact fun _=>rfl | exact nofun
   case rest =>
    clear h
    intro l b w' hI hr
    obtain ⟨l0,l1,l2,l3,l4,l5,l6,l7,l8,l9,g10,g11,rfl,rfl,h,hc8,hc9⟩:=hI
    cases rall hr rfl (by rfl)
    clear hr hc8 hc9
    simp only [putsA,Act.put,stA,st0,st1,cond_true]
    replace h:Fr w w' [(w.heap.size,63,fc A B M),((w.heap.size + 1),63,fc D E N),((w.heap.size + 1 + 1),63,fc 0 0 0),(g5,32,ec n1),(g6,32,ec n2),(g7,32,ec n3),(g8,32,ec n4),(g9,32,ec n6),(g10,32,ec n7),(g11,32,ec n8)]:=h
    go_upto_region 6 with fail
    try simp only [Act.put,stA,st0,st1]
    replace h:=h.drew
    refine wp_region_inv (by kernel_rfl) (fun a0 l b w'=>∃ (l0 l1 l2 l3 l4 l5 l6 l7 l8 l9 l10 l11 l12:Bool) (g12:Nat) ,l = #[l0,l1,l2,l3,l4,l5,l6,l7,l8,l9,l10,l11,l12] ∧ b = putsA a0 [(44,l0,.pointer (some ⟨w.heap.size,0,none⟩),undef),(45,l1,.agg (ec A).toArray,undef),(46,l2,.pointer (some ⟨(w.heap.size + 1),4,none⟩),undef),(47,l3,.agg (ec E).toArray,undef),(48,l4,.agg (ec n9).toArray,undef),(49,l5,.pointer (some ⟨(w.heap.size + 1),0,none⟩),undef),(50,l6,.agg (ec D).toArray,undef),(51,l7,.pointer (some ⟨w.heap.size,4,none⟩),undef),(52,l8,.agg (ec B).toArray,undef),(53,l9,.agg (ec n10).toArray,undef),(54,l10,.agg (ec n11).toArray,undef),(12,l11,.pointer (some ⟨g12,0,none⟩),undef)] ∧ Fr w w' (opt [(true,(w.heap.size,63,fc A B M)),(true,((w.heap.size + 1),63,fc D E N)),(true,((w.heap.size + 1 + 1),63,fc 0 0 0)),(true,(g5,32,ec n1)),(true,(g6,32,ec n2)),(true,(g7,32,ec n3)),(true,(g8,32,ec n4)),(true,(g9,32,ec n6)),(true,(g10,32,ec n7)),(true,(g11,32,ec n8)),(l11,(g12,32,bif l12 then ec n11 else ec 0))]) ∧ (l12 = true → l11 = true)) ?start ?step ?rest
    case start=>exact ⟨false,false,false,false,false,false,false,false,false,false,false,false,false,0,by kernel_rfl,by kernel_rfl,h,(fun e=>by cases e)⟩
    case step =>
     clear h
     intro l b w' hI i hi
     obtain ⟨l0,l1,l2,l3,l4,l5,l6,l7,l8,l9,l10,l11,l12,g12,rfl,rfl,h,hc12⟩:=hI
     have hlt:i < 13:=ready_lt hi
     obtain rfl | rfl | rfl | rfl | rfl | rfl | rfl | rfl | rfl | rfl | rfl | rfl | rfl:=(by omega:i = 0 ∨ i = 1 ∨ i = 2 ∨ i = 3 ∨ i = 4 ∨ i = 5 ∨ i = 6 ∨ i = 7 ∨ i = 8 ∨ i = 9 ∨ i = 10 ∨ i = 11 ∨ i = 12)
     all_goals (obtain ⟨hn,hd⟩:=rin hi rfl;cases hn;(repeat (obtain ⟨hn,hd⟩:=hd;cases hn));clear hi hlt hd;refine wpOp_inv rfl rfl (fun K hK=>?_);simp only [putsA,Act.put,stA,st0,st1,cond_true,cond_false] at h ⊢)
     ·refine wp_value (.pointer (some ⟨w.heap.size,0,none⟩)) (by go_simp) ?_
      refine hK.out _ _ ⟨_,_,_,_,_,_,_,_,_,_,_,_,_,_,rfl,by kernel_rfl,h,?_⟩ <;> first | assumption | exact fun _=>rfl | exact nofun
     ·refine wp_value (.agg (ec A).toArray) (exec_load_at 32 _ rfl rfl (fc_x (h.rowo (k:=0) rfl)) rfl Tryz.underlying32 (ie4 _)) ?_
      refine hK.out _ _ ⟨_,_,_,_,_,_,_,_,_,_,_,_,_,_,rfl,by kernel_rfl,h,?_⟩ <;> first | assumption | exact fun _=>rfl | exact nofun
     ·refine wp_value (.pointer (some ⟨(w.heap.size + 1),4,none⟩)) (by go_simp) ?_
      refine hK.out _ _ ⟨_,_,_,_,_,_,_,_,_,_,_,_,_,_,rfl,by kernel_rfl,h,?_⟩ <;> first | assumption | exact fun _=>rfl | exact nofun
     ·refine wp_value (.agg (ec E).toArray) (exec_load_at 32 _ rfl rfl (fc_y (h.rowo (k:=1) rfl)) rfl Tryz.underlying32 (ie4 _)) ?_
      refine hK.out _ _ ⟨_,_,_,_,_,_,_,_,_,_,_,_,_,_,rfl,by kernel_rfl,h,?_⟩ <;> first | assumption | exact fun _=>rfl | exact nofun
     ·go_simp
      refine callOK (cn9 _) h ?_
      clear h
      rintro _ wn rfl h
      refine hK.out _ _ ⟨_,_,_,_,_,_,_,_,_,_,_,_,_,_,rfl,by kernel_rfl,h,?_⟩ <;> first | assumption | exact fun _=>rfl | exact nofun
     ·refine wp_value (.pointer (some ⟨(w.heap.size + 1),0,none⟩)) (by go_simp) ?_
      refine hK.out _ _ ⟨_,_,_,_,_,_,_,_,_,_,_,_,_,_,rfl,by kernel_rfl,h,?_⟩ <;> first | assumption | exact fun _=>rfl | exact nofun
     ·refine wp_value (.agg (ec D).toArray) (exec_load_at 32 _ rfl rfl (fc_x (h.rowo (k:=1) rfl)) rfl Tryz.underlying32 (ie4 _)) ?_
      refine hK.out _ _ ⟨_,_,_,_,_,_,_,_,_,_,_,_,_,_,rfl,by kernel_rfl,h,?_⟩ <;> first | assumption | exact fun _=>rfl | exact nofun
     ·refine wp_value (.pointer (some ⟨w.heap.size,4,none⟩)) (by go_simp) ?_
      refine hK.out _ _ ⟨_,_,_,_,_,_,_,_,_,_,_,_,_,_,rfl,by kernel_rfl,h,?_⟩ <;> first | assumption | exact fun _=>rfl | exact nofun
     ·refine wp_value (.agg (ec B).toArray) (exec_load_at 32 _ rfl rfl (fc_y (h.rowo (k:=0) rfl)) rfl Tryz.underlying32 (ie4 _)) ?_
      refine hK.out _ _ ⟨_,_,_,_,_,_,_,_,_,_,_,_,_,_,rfl,by kernel_rfl,h,?_⟩ <;> first | assumption | exact fun _=>rfl | exact nofun
     ·go_simp
      refine callOK (cn10 _) h ?_
      clear h
      rintro _ wn rfl h
      refine hK.out _ _ ⟨_,_,_,_,_,_,_,_,_,_,_,_,_,_,rfl,by kernel_rfl,h,?_⟩ <;> first | assumption | exact fun _=>rfl | exact nofun
     ·go_simp
      refine callOK (cn11 _) h ?_
      clear h
      rintro _ wn rfl h
      refine hK.out _ _ ⟨_,_,_,_,_,_,_,_,_,_,_,_,_,_,rfl,by kernel_rfl,h,?_⟩ <;> first | assumption | exact fun _=>rfl | exact nofun
     ·obtain rfl:l12 = false:=by cases l12 with | false=>rfl | true=>exact absurd (hc12 rfl) (by decide)
      simp only [cond_false] at h ⊢
      refine wp_alloc_R 32 rfl (ec 0) z4w ?_
      obtain ⟨gn,hgq,hq⟩:=h.on (k:=10) rfl 32 (ec 0)
      rw [hgq]
      refine hK.out _ _ ⟨_,_,_,_,_,_,_,_,_,_,_,_,_,_,rfl,by kernel_rfl,hq,?_⟩ <;> first | assumption | exact fun _=>rfl | exact nofun
     ·refine wp_store_R 32 _ _ rfl _ (ec n11) rfl rfl (h.rowo (k:=10) rfl) (ie4 _) rfl (ec_all _) ?_
      intro wz q hg hz
      replace h:=h.puto (k:=10) rfl q hg
      refine hK.out _ _ ⟨_,_,_,_,_,_,_,_,_,_,_,_,_,_,rfl,by kernel_rfl,h,?_⟩ <;> first | assumption | exact fun _=>rfl | exact nofun
    case rest =>
     clear h
     intro l b w' hI hr
     obtain ⟨l0,l1,l2,l3,l4,l5,l6,l7,l8,l9,l10,l11,l12,g12,rfl,rfl,h,hc12⟩:=hI
     cases rall hr rfl (by rfl)
     clear hr hc12
     simp only [putsA,Act.put,stA,st0,st1,cond_true]
     replace h:Fr w w' [(w.heap.size,63,fc A B M),((w.heap.size + 1),63,fc D E N),((w.heap.size + 1 + 1),63,fc 0 0 0),(g5,32,ec n1),(g6,32,ec n2),(g7,32,ec n3),(g8,32,ec n4),(g9,32,ec n6),(g10,32,ec n7),(g11,32,ec n8),(g12,32,ec n11)]:=h
     go_upto_region 7 with fail
     try simp only [Act.put,stA,st0,st1]
     replace h:=h.drew
     refine wp_region_inv (by kernel_rfl) (fun a0 l b w'=>∃ (l0 l1 l2 l3 l4 l5 l6:Bool) (g13:Nat) ,l = #[l0,l1,l2,l3,l4,l5,l6] ∧ b = putsA a0 [(55,l0,.agg (ec n1).toArray,undef),(56,l1,.agg (ec n7).toArray,undef),(57,l2,.agg (ec n11).toArray,undef),(58,l3,.agg (ec n12).toArray,undef),(59,l4,.agg (ec n13).toArray,undef),(13,l5,.pointer (some ⟨g13,0,none⟩),undef)] ∧ Fr w w' (opt [(true,(w.heap.size,63,fc A B M)),(true,((w.heap.size + 1),63,fc D E N)),(true,((w.heap.size + 1 + 1),63,fc 0 0 0)),(true,(g5,32,ec n1)),(true,(g6,32,ec n2)),(true,(g7,32,ec n3)),(true,(g8,32,ec n4)),(true,(g9,32,ec n6)),(true,(g10,32,ec n7)),(true,(g11,32,ec n8)),(true,(g12,32,ec n11)),(l5,(g13,32,bif l6 then ec n13 else ec 0))]) ∧ (l6 = true → l5 = true)) ?start ?step ?rest
     case start=>exact ⟨false,false,false,false,false,false,false,0,by kernel_rfl,by kernel_rfl,h,(fun e=>by cases e)⟩
     case step =>
      clear h
      intro l b w' hI i hi
      obtain ⟨l0,l1,l2,l3,l4,l5,l6,g13,rfl,rfl,h,hc6⟩:=hI
      have hlt:i < 7:=ready_lt hi
      obtain rfl | rfl | rfl | rfl | rfl | rfl | rfl:=(by omega:i = 0 ∨ i = 1 ∨ i = 2 ∨ i = 3 ∨ i = 4 ∨ i = 5 ∨ i = 6)
      all_goals (obtain ⟨hn,hd⟩:=rin hi rfl;cases hn;(repeat (obtain ⟨hn,hd⟩:=hd;cases hn));clear hi hlt hd;refine wpOp_inv rfl rfl (fun K hK=>?_);simp only [putsA,Act.put,stA,st0,st1,cond_true,cond_false] at h ⊢)
      ·refine wp_value (.agg (ec n1).toArray) (exec_load_W 32 _ rfl rfl (h.rowo (k:=3) rfl) Tryz.underlying32 rfl (ie4 _)) ?_
       refine hK.out _ _ ⟨_,_,_,_,_,_,_,_,rfl,by kernel_rfl,h,?_⟩ <;> first | assumption | exact fun _=>rfl | exact nofun
      ·refine wp_value (.agg (ec n7).toArray) (exec_load_W 32 _ rfl rfl (h.rowo (k:=8) rfl) Tryz.underlying32 rfl (ie4 _)) ?_
       refine hK.out _ _ ⟨_,_,_,_,_,_,_,_,rfl,by kernel_rfl,h,?_⟩ <;> first | assumption | exact fun _=>rfl | exact nofun
      ·refine wp_value (.agg (ec n11).toArray) (exec_load_W 32 _ rfl rfl (h.rowo (k:=10) rfl) Tryz.underlying32 rfl (ie4 _)) ?_
       refine hK.out _ _ ⟨_,_,_,_,_,_,_,_,rfl,by kernel_rfl,h,?_⟩ <;> first | assumption | exact fun _=>rfl | exact nofun
      ·go_simp
       refine callOK (cn12 _) h ?_
       clear h
       rintro _ wn rfl h
       refine hK.out _ _ ⟨_,_,_,_,_,_,_,_,rfl,by kernel_rfl,h,?_⟩ <;> first | assumption | exact fun _=>rfl | exact nofun
      ·go_simp
       refine callOK (cn13 _) h ?_
       clear h
       rintro _ wn rfl h
       refine hK.out _ _ ⟨_,_,_,_,_,_,_,_,rfl,by kernel_rfl,h,?_⟩ <;> first | assumption | exact fun _=>rfl | exact nofun
      ·obtain rfl:l6 = false:=by cases l6 with | false=>rfl | true=>exact absurd (hc6 rfl) (by decide)
       simp only [cond_false] at h ⊢
       refine wp_alloc_R 32 rfl (ec 0) z4w ?_
       obtain ⟨gn,hgq,hq⟩:=h.on (k:=11) rfl 32 (ec 0)
       rw [hgq]
       refine hK.out _ _ ⟨_,_,_,_,_,_,_,_,rfl,by kernel_rfl,hq,?_⟩ <;> first | assumption | exact fun _=>rfl | exact nofun
      ·refine wp_store_R 32 _ _ rfl _ (ec n13) rfl rfl (h.rowo (k:=11) rfl) (ie4 _) rfl (ec_all _) ?_
       intro wz q hg hz
       replace h:=h.puto (k:=11) rfl q hg
       refine hK.out _ _ ⟨_,_,_,_,_,_,_,_,rfl,by kernel_rfl,h,?_⟩ <;> first | assumption | exact fun _=>rfl | exact nofun
     case rest =>
      clear h
      intro l b w' hI hr
      obtain ⟨l0,l1,l2,l3,l4,l5,l6,g13,rfl,rfl,h,hc6⟩:=hI
      cases rall hr rfl (by rfl)
      clear hr hc6
      simp only [putsA,Act.put,stA,st0,st1,cond_true]
      replace h:Fr w w' [(w.heap.size,63,fc A B M),((w.heap.size + 1),63,fc D E N),((w.heap.size + 1 + 1),63,fc 0 0 0),(g5,32,ec n1),(g6,32,ec n2),(g7,32,ec n3),(g8,32,ec n4),(g9,32,ec n6),(g10,32,ec n7),(g11,32,ec n8),(g12,32,ec n11),(g13,32,ec n13)]:=h
      go_upto_region 8 with fail
      try simp only [Act.put,stA,st0,st1]
      replace h:=h.drew
      refine wp_region_inv (by kernel_rfl) (fun a0 l b w'=>∃ (l0 l1 l2 l3 l4 l5 l6 l7 l8:Bool) (g14:Nat) ,l = #[l0,l1,l2,l3,l4,l5,l6,l7,l8] ∧ b = putsA a0 [(60,l0,.agg (ec n1).toArray,undef),(61,l1,.agg (ec n8).toArray,undef),(62,l2,.agg (ec n3).toArray,undef),(63,l3,.agg (ec n4).toArray,undef),(64,l4,.agg (ec n14).toArray,undef),(65,l5,.agg (ec n15).toArray,undef),(66,l6,.agg (ec n16).toArray,undef),(14,l7,.pointer (some ⟨g14,0,none⟩),undef)] ∧ Fr w w' (opt [(true,(w.heap.size,63,fc A B M)),(true,((w.heap.size + 1),63,fc D E N)),(true,((w.heap.size + 1 + 1),63,fc 0 0 0)),(true,(g5,32,ec n1)),(true,(g6,32,ec n2)),(true,(g7,32,ec n3)),(true,(g8,32,ec n4)),(true,(g9,32,ec n6)),(true,(g10,32,ec n7)),(true,(g11,32,ec n8)),(true,(g12,32,ec n11)),(true,(g13,32,ec n13)),(l7,(g14,32,bif l8 then ec n16 else ec 0))]) ∧ (l8 = true → l7 = true)) ?start ?step ?rest
      case start=>exact ⟨false,false,false,false,false,false,false,false,false,0,by kernel_rfl,by kernel_rfl,h,(fun e=>by cases e)⟩
      case step =>
       clear h
       intro l b w' hI i hi
       obtain ⟨l0,l1,l2,l3,l4,l5,l6,l7,l8,g14,rfl,rfl,h,hc8⟩:=hI
       have hlt:i < 9:=ready_lt hi
       obtain rfl | rfl | rfl | rfl | rfl | rfl | rfl | rfl | rfl:=(by omega:i = 0 ∨ i = 1 ∨ i = 2 ∨ i = 3 ∨ i = 4 ∨ i = 5 ∨ i = 6 ∨ i = 7 ∨ i = 8)
       all_goals (obtain ⟨hn,hd⟩:=rin hi rfl;cases hn;(repeat (obtain ⟨hn,hd⟩:=hd;cases hn));clear hi hlt hd;refine wpOp_inv rfl rfl (fun K hK=>?_);simp only [putsA,Act.put,stA,st0,st1,cond_true,cond_false] at h ⊢)
       ·refine wp_value (.agg (ec n1).toArray) (exec_load_W 32 _ rfl rfl (h.rowo (k:=3) rfl) Tryz.underlying32 rfl (ie4 _)) ?_
        refine hK.out _ _ ⟨_,_,_,_,_,_,_,_,_,_,rfl,by kernel_rfl,h,?_⟩ <;> first | assumption | exact fun _=>rfl | exact nofun
       ·refine wp_value (.agg (ec n8).toArray) (exec_load_W 32 _ rfl rfl (h.rowo (k:=9) rfl) Tryz.underlying32 rfl (ie4 _)) ?_
        refine hK.out _ _ ⟨_,_,_,_,_,_,_,_,_,_,rfl,by kernel_rfl,h,?_⟩ <;> first | assumption | exact fun _=>rfl | exact nofun
       ·refine wp_value (.agg (ec n3).toArray) (exec_load_W 32 _ rfl rfl (h.rowo (k:=5) rfl) Tryz.underlying32 rfl (ie4 _)) ?_
        refine hK.out _ _ ⟨_,_,_,_,_,_,_,_,_,_,rfl,by kernel_rfl,h,?_⟩ <;> first | assumption | exact fun _=>rfl | exact nofun
       ·refine wp_value (.agg (ec n4).toArray) (exec_load_W 32 _ rfl rfl (h.rowo (k:=6) rfl) Tryz.underlying32 rfl (ie4 _)) ?_
        refine hK.out _ _ ⟨_,_,_,_,_,_,_,_,_,_,rfl,by kernel_rfl,h,?_⟩ <;> first | assumption | exact fun _=>rfl | exact nofun
       ·go_simp
        refine callOK (cn14 _) h ?_
        clear h
        rintro _ wn rfl h
        refine hK.out _ _ ⟨_,_,_,_,_,_,_,_,_,_,rfl,by kernel_rfl,h,?_⟩ <;> first | assumption | exact fun _=>rfl | exact nofun
       ·go_simp
        refine callOK (cn15 _) h ?_
        clear h
        rintro _ wn rfl h
        refine hK.out _ _ ⟨_,_,_,_,_,_,_,_,_,_,rfl,by kernel_rfl,h,?_⟩ <;> first | assumption | exact fun _=>rfl | exact nofun
       ·go_simp
        refine callOK (cn16 _) h ?_
        clear h
        rintro _ wn rfl h
        refine hK.out _ _ ⟨_,_,_,_,_,_,_,_,_,_,rfl,by kernel_rfl,h,?_⟩ <;> first | assumption | exact fun _=>rfl | exact nofun
       ·obtain rfl:l8 = false:=by cases l8 with | false=>rfl | true=>exact absurd (hc8 rfl) (by decide)
        simp only [cond_false] at h ⊢
        refine wp_alloc_R 32 rfl (ec 0) z4w ?_
        obtain ⟨gn,hgq,hq⟩:=h.on (k:=12) rfl 32 (ec 0)
        rw [hgq]
        refine hK.out _ _ ⟨_,_,_,_,_,_,_,_,_,_,rfl,by kernel_rfl,hq,?_⟩ <;> first | assumption | exact fun _=>rfl | exact nofun
       ·refine wp_store_R 32 _ _ rfl _ (ec n16) rfl rfl (h.rowo (k:=12) rfl) (ie4 _) rfl (ec_all _) ?_
        intro wz q hg hz
        replace h:=h.puto (k:=12) rfl q hg
        refine hK.out _ _ ⟨_,_,_,_,_,_,_,_,_,_,rfl,by kernel_rfl,h,?_⟩ <;> first | assumption | exact fun _=>rfl | exact nofun
      case rest =>
       clear h
       intro l b w' hI hr
       obtain ⟨l0,l1,l2,l3,l4,l5,l6,l7,l8,g14,rfl,rfl,h,hc8⟩:=hI
       cases rall hr rfl (by rfl)
       clear hr hc8
       simp only [putsA,Act.put,stA,st0,st1,cond_true]
       replace h:Fr w w' [(w.heap.size,63,fc A B M),((w.heap.size + 1),63,fc D E N),((w.heap.size + 1 + 1),63,fc 0 0 0),(g5,32,ec n1),(g6,32,ec n2),(g7,32,ec n3),(g8,32,ec n4),(g9,32,ec n6),(g10,32,ec n7),(g11,32,ec n8),(g12,32,ec n11),(g13,32,ec n13),(g14,32,ec n16)]:=h
       go_upto_region 9 with fail
       try simp only [Act.put,stA,st0,st1]
       replace h:=h.drew
       refine wp_region_noPanic ?_
       refine wp_region_held_drew (S:=fun w'=>Row w' g13 32 (ec n13) ∧ Row w' g14 32 (ec n16) ∧ Row w' g10 32 (ec n7) ∧ Row w' g11 32 (ec n8)) (by kernel_rfl) ⟨h.row (i:=11) rfl,h.row (i:=12) rfl,h.row (i:=8) rfl,h.row (i:=9) rfl⟩ (fun _=>?_)
       refine tkL 0 (.agg (ec n13).toArray) rfl (fun w hSw=>exec_load_W 32 _ rfl rfl hSw.1 Tryz.underlying32 rfl (ie4 _)) ?_
       simp only [Act.put,stA,st0,st1]
       refine tkL 1 (.agg (ec n16).toArray) rfl (fun w hSw=>exec_load_W 32 _ rfl rfl hSw.2.1 Tryz.underlying32 rfl (ie4 _)) ?_
       simp only [Act.put,stA,st0,st1]
       refine tkL 2 (.agg (ec n7).toArray) rfl (fun w hSw=>exec_load_W 32 _ rfl rfl hSw.2.2.1 Tryz.underlying32 rfl (ie4 _)) ?_
       simp only [Act.put,stA,st0,st1]
       refine tkL 3 (.agg (ec n8).toArray) rfl (fun w hSw=>exec_load_W 32 _ rfl rfl hSw.2.2.2 Tryz.underlying32 rfl (ie4 _)) ?_
       simp only [Act.put,stA,st0,st1]
       refine ar1 4 rfl (fun K hK=>?_)
       go_simp
       refine callOK (cn17 _) h ?_
       clear h
       rintro _ wn rfl h
       refine hK.out _ _ ⟨h.row (i:=11) rfl,h.row (i:=12) rfl,h.row (i:=8) rfl,h.row (i:=9) rfl⟩ (fun _=>?_)
       clear hK K
       refine tkL 5 (.agg (fc n13 n16 n17).toArray) rfl (fun w hSw=>exec_build_C 63 _ rfl (fc n13 n16 n17) (by kernel_rfl)) ?_
       simp only [Act.put,stA,st0,st1]
       refine ar1 6 rfl (fun K hK=>?_)
       refine wp_store_R 63 _ _ rfl _ (fc n13 n16 n17) rfl rfl (h.row (i:=2) rfl) (iF _ _ _) rfl (fc_all _ _ _) ?_
       intro wz q hg hz
       replace h:Fr w wz [(w.heap.size,63,fc A B M),((w.heap.size + 1),63,fc D E N),((w.heap.size + 1 + 1),63,fc n13 n16 n17),(g5,32,ec n1),(g6,32,ec n2),(g7,32,ec n3),(g8,32,ec n4),(g9,32,ec n6),(g10,32,ec n7),(g11,32,ec n8),(g12,32,ec n11),(g13,32,ec n13),(g14,32,ec n16)]:=h.put (i:=2) rfl q hg
       clear q hg hz
       refine hK.out _ _ ⟨h.row (i:=11) rfl,h.row (i:=12) rfl,h.row (i:=8) rfl,h.row (i:=9) rfl⟩ (fun _=>?_)
       clear hK K
       refine wpAnyH_done (by kernel_rfl) ?_ _
       refine NoPanic.normal ?_
       go_wp2
       exact result_row Tryz.results48 rfl (h.row (i:=2) rfl) Tryz.underlying63 rfl (iF _ _ _) rfl ⟨⟨_,_,_,rfl,ln13,ln16,ln17,HV.out⟩,h.bel⟩
end Go.Proofs.YtmjimilhomabfaaGreatDoor.F
