/-
 The program's sum of scaled points; over this seat's translation. Conditions: each as it says.
-/
import Derived.Test.YtmjimilhomabfaaGreatDoorEpA
import Derived.Test.YtmjimilhomabfaaGreatDoorK14
namespace Go.Proofs.YtmjimilhomabfaaGreatDoor.F
open Go.RowKit
set_option linter.unusedVariables false
set_option maxRecDepth 10000
open E (z z_val z_same z_add z_mul z_sub z_inv z_mod z_of dd Pt padd pneg pmul iv ax ay Sc)
set_option maxHeartbeats 8000000 in
theorem eplus_any (A B M N D E G H:Nat) (lA:A < 115792089237316195423570985008687907853269984665640564039457584007913129639936) (lB:B < 115792089237316195423570985008687907853269984665640564039457584007913129639936) (lM:M < 115792089237316195423570985008687907853269984665640564039457584007913129639936) (lN:N < 115792089237316195423570985008687907853269984665640564039457584007913129639936) (lD:D < 115792089237316195423570985008687907853269984665640564039457584007913129639936) (lE:E < 115792089237316195423570985008687907853269984665640564039457584007913129639936) (lG:G < 115792089237316195423570985008687907853269984665640564039457584007913129639936) (lH:H < 115792089237316195423570985008687907853269984665640564039457584007913129639936) (p q:Pt) (h1:Sc p (z A) (z B) (z M) (z N)) (h3:Sc q (z D) (z E) (z G) (z H)) (w:World) (hE:TE w):Calls Tryz.prog 77 #[.agg (sc A B M N).toArray,.agg (sc D E G H).toArray] w fun e w'=>(∃ X Y U K,e = .returned (.agg (sc X Y U K).toArray) ∧ X < 115792089237316195423570985008687907853269984665640564039457584007913129639936 ∧ Y < 115792089237316195423570985008687907853269984665640564039457584007913129639936 ∧ U < 115792089237316195423570985008687907853269984665640564039457584007913129639936 ∧ K < 115792089237316195423570985008687907853269984665640564039457584007913129639936 ∧ Sc (padd p q) (z X) (z Y) (z U) (z K)) ∧ Below w.heap.size w w':=by
 obtain ⟨w2,h2,h⟩:=Fr.three w 81 81 81 (sc A B M N) (sc D E G H) (sc 0 0 0 0)
 have hP:=hE.p
 obtain ⟨n1,en1,ln1,cn1⟩:=elSub B A lB lA
 obtain ⟨n2,en2,ln2,cn2⟩:=elSub E D lE lD
 obtain ⟨n3,en3,ln3,cn3⟩:=elMul n1 n2 ln1 ln2
 obtain ⟨n4,en4,ln4,cn4⟩:=elAdd B A lB lA
 obtain ⟨n5,en5,ln5,cn5⟩:=elAdd E D lE lD
 obtain ⟨n6,en6,ln6,cn6⟩:=elMul n4 n5 ln4 ln5
 obtain ⟨n7,en7,ln7,cn7⟩:=elSub n6 n3 ln6 ln3
 obtain ⟨n8,en8,ln8,cn8⟩:=elAdd n6 n3 ln6 ln3
 obtain ⟨n9,en9,ln9,cn9⟩:=elMul N H lN lH
 obtain ⟨n10,en10,ln10,cn10⟩:=elTwice n9 ln9
 obtain ⟨n11,en11,ln11,cn11⟩:=elMul M G lM lG
 obtain ⟨n12,en12,ln12,cn12⟩:=elMul Dn n11 lDn ln11
 obtain ⟨n13,en13,ln13,cn13⟩:=elTwice n12 ln12
 obtain ⟨n14,en14,ln14,cn14⟩:=elAdd n10 n13 ln10 ln13
 obtain ⟨n15,en15,ln15,cn15⟩:=elSub n10 n13 ln10 ln13
 obtain ⟨n16,en16,ln16,cn16⟩:=elMul n7 n15 ln7 ln15
 obtain ⟨n17,en17,ln17,cn17⟩:=elMul n8 n14 ln8 ln14
 obtain ⟨n18,en18,ln18,cn18⟩:=elMul n7 n8 ln7 ln8
 obtain ⟨n19,en19,ln19,cn19⟩:=elMul n14 n15 ln14 ln15
 have HV:Away (Sc (padd p q) (z n16) (z n17) (z n18) (z n19)):=⟨by
  have qn1:z n1 = z B - z A:=by rw [← en1.out,z_sub]
  have qn2:z n2 = z E - z D:=by rw [← en2.out,z_sub]
  have qn3:z n3 = z n1 * z n2:=by rw [← en3.out,z_mul]
  have qn4:z n4 = z B + z A:=by rw [← en4.out,z_add]
  have qn5:z n5 = z E + z D:=by rw [← en5.out,z_add]
  have qn6:z n6 = z n4 * z n5:=by rw [← en6.out,z_mul]
  have qn7:z n7 = z n6 - z n3:=by rw [← en7.out,z_sub]
  have qn8:z n8 = z n6 + z n3:=by rw [← en8.out,z_add]
  have qn9:z n9 = z N * z H:=by rw [← en9.out,z_mul]
  have qn10:z n10 = z n9 + z n9:=by rw [← en10.out,z_add]
  have qn11:z n11 = z M * z G:=by rw [← en11.out,z_mul]
  have qn12:z n12 = z Dn * z n11:=by rw [← en12.out,z_mul]
  have qn13:z n13 = z n12 + z n12:=by rw [← en13.out,z_add]
  have qn14:z n14 = z n10 + z n13:=by rw [← en14.out,z_add]
  have qn15:z n15 = z n10 - z n13:=by rw [← en15.out,z_sub]
  have qn16:z n16 = z n7 * z n15:=by rw [← en16.out,z_mul]
  have qn17:z n17 = z n8 * z n14:=by rw [← en17.out,z_mul]
  have qn18:z n18 = z n7 * z n8:=by rw [← en18.out,z_mul]
  have qn19:z n19 = z n14 * z n15:=by rw [← en19.out,z_mul]
  have k:=h1.add h3 (D:=z n3) (S:=z n6) (o:=z n10) (u:=z n13) (by rw [qn3,qn1,qn2]) (by rw [qn6,qn4,qn5]) (by rw [qn10,qn9]) (by rw [qn13,qn12,qn11,z_D])
  rw [qn16,qn17,qn18,qn19,qn7,qn8,qn14,qn15]
  exact k⟩
 clear h1 h3
 go_enter Tryz.func77,Tryz.ntmps77
 go_upto_region 1 with (refine wpList_alloc_row rfl 81 rfl _ zSw ?_)
 try simp only [Act.put,stA,st0,st1,alloc_size,h2]
 clear h2
 replace h:=h.drew
 refine wp_region_inv (by kernel_rfl) (fun a0 l b w'=>∃ (l0 l1 l2 l3 l4 l5 l6 l7 l8 l9 l10 l11 l12:Bool) (g5:Nat) ,l = #[l0,l1,l2,l3,l4,l5,l6,l7,l8,l9,l10,l11,l12] ∧ b = putsA a0 [(13,l0,.pointer (some ⟨w.heap.size,4,none⟩),undef),(14,l1,.agg (ec B).toArray,undef),(15,l2,.pointer (some ⟨w.heap.size,0,none⟩),undef),(16,l3,.agg (ec A).toArray,undef),(17,l4,.agg (ec n1).toArray,undef),(18,l5,.pointer (some ⟨(w.heap.size + 1),4,none⟩),undef),(19,l6,.agg (ec E).toArray,undef),(20,l7,.pointer (some ⟨(w.heap.size + 1),0,none⟩),undef),(21,l8,.agg (ec D).toArray,undef),(22,l9,.agg (ec n2).toArray,undef),(23,l10,.agg (ec n3).toArray,undef),(5,l11,.pointer (some ⟨g5,0,none⟩),undef)] ∧ Fr w w' (opt [(true,(w.heap.size,81,sc A B M N)),(true,((w.heap.size + 1),81,sc D E G H)),(true,((w.heap.size + 1 + 1),81,sc 0 0 0 0)),(l11,(g5,32,bif l12 then ec n3 else ec 0))]) ∧ (l12 = true → l11 = true)) ?start ?step ?rest
 case start=>exact ⟨false,false,false,false,false,false,false,false,false,false,false,false,false,0,by kernel_rfl,by kernel_rfl,h,(fun e=>by cases e)⟩
 case step =>
  clear h
  intro l b w' hI i hi
  obtain ⟨l0,l1,l2,l3,l4,l5,l6,l7,l8,l9,l10,l11,l12,g5,rfl,rfl,h,hc12⟩:=hI
  have hlt:i < 13:=ready_lt hi
  obtain rfl | rfl | rfl | rfl | rfl | rfl | rfl | rfl | rfl | rfl | rfl | rfl | rfl:=(by omega:i = 0 ∨ i = 1 ∨ i = 2 ∨ i = 3 ∨ i = 4 ∨ i = 5 ∨ i = 6 ∨ i = 7 ∨ i = 8 ∨ i = 9 ∨ i = 10 ∨ i = 11 ∨ i = 12)
  all_goals (obtain ⟨hn,hd⟩:=rin hi rfl;cases hn;(repeat (obtain ⟨hn,hd⟩:=hd;cases hn));clear hi hlt hd;refine wpOp_inv rfl rfl (fun K hK=>?_);simp only [putsA,Act.put,stA,st0,st1,cond_true,cond_false] at h ⊢)
  ·refine wp_value (.pointer (some ⟨w.heap.size,4,none⟩)) (by go_simp) ?_
   refine hK.out _ _ ⟨_,_,_,_,_,_,_,_,_,_,_,_,_,_,rfl,by kernel_rfl,h,?_⟩ <;> first | assumption | exact fun _=>rfl | exact nofun
  ·refine wp_value (.agg (ec B).toArray) (exec_load_at 32 _ rfl rfl (sc_1 (h.rowo (k:=0) rfl)) rfl Tryz.underlying32 (ie4 _)) ?_
   refine hK.out _ _ ⟨_,_,_,_,_,_,_,_,_,_,_,_,_,_,rfl,by kernel_rfl,h,?_⟩ <;> first | assumption | exact fun _=>rfl | exact nofun
  ·refine wp_value (.pointer (some ⟨w.heap.size,0,none⟩)) (by go_simp) ?_
   refine hK.out _ _ ⟨_,_,_,_,_,_,_,_,_,_,_,_,_,_,rfl,by kernel_rfl,h,?_⟩ <;> first | assumption | exact fun _=>rfl | exact nofun
  ·refine wp_value (.agg (ec A).toArray) (exec_load_at 32 _ rfl rfl (sc_0 (h.rowo (k:=0) rfl)) rfl Tryz.underlying32 (ie4 _)) ?_
   refine hK.out _ _ ⟨_,_,_,_,_,_,_,_,_,_,_,_,_,_,rfl,by kernel_rfl,h,?_⟩ <;> first | assumption | exact fun _=>rfl | exact nofun
  ·go_simp
   refine callOK (cn1 _ (hP.below h.bel)) h ?_
   clear h
   rintro _ wn rfl h
   refine hK.out _ _ ⟨_,_,_,_,_,_,_,_,_,_,_,_,_,_,rfl,by kernel_rfl,h,?_⟩ <;> first | assumption | exact fun _=>rfl | exact nofun
  ·refine wp_value (.pointer (some ⟨(w.heap.size + 1),4,none⟩)) (by go_simp) ?_
   refine hK.out _ _ ⟨_,_,_,_,_,_,_,_,_,_,_,_,_,_,rfl,by kernel_rfl,h,?_⟩ <;> first | assumption | exact fun _=>rfl | exact nofun
  ·refine wp_value (.agg (ec E).toArray) (exec_load_at 32 _ rfl rfl (sc_1 (h.rowo (k:=1) rfl)) rfl Tryz.underlying32 (ie4 _)) ?_
   refine hK.out _ _ ⟨_,_,_,_,_,_,_,_,_,_,_,_,_,_,rfl,by kernel_rfl,h,?_⟩ <;> first | assumption | exact fun _=>rfl | exact nofun
  ·refine wp_value (.pointer (some ⟨(w.heap.size + 1),0,none⟩)) (by go_simp) ?_
   refine hK.out _ _ ⟨_,_,_,_,_,_,_,_,_,_,_,_,_,_,rfl,by kernel_rfl,h,?_⟩ <;> first | assumption | exact fun _=>rfl | exact nofun
  ·refine wp_value (.agg (ec D).toArray) (exec_load_at 32 _ rfl rfl (sc_0 (h.rowo (k:=1) rfl)) rfl Tryz.underlying32 (ie4 _)) ?_
   refine hK.out _ _ ⟨_,_,_,_,_,_,_,_,_,_,_,_,_,_,rfl,by kernel_rfl,h,?_⟩ <;> first | assumption | exact fun _=>rfl | exact nofun
  ·go_simp
   refine callOK (cn2 _ (hP.below h.bel)) h ?_
   clear h
   rintro _ wn rfl h
   refine hK.out _ _ ⟨_,_,_,_,_,_,_,_,_,_,_,_,_,_,rfl,by kernel_rfl,h,?_⟩ <;> first | assumption | exact fun _=>rfl | exact nofun
  ·go_simp
   refine callOK (cn3 _ (hP.below h.bel)) h ?_
   clear h
   rintro _ wn rfl h
   refine hK.out _ _ ⟨_,_,_,_,_,_,_,_,_,_,_,_,_,_,rfl,by kernel_rfl,h,?_⟩ <;> first | assumption | exact fun _=>rfl | exact nofun
  ·obtain rfl:l12 = false:=by cases l12 with | false=>rfl | true=>exact absurd (hc12 rfl) (by decide)
   simp only [cond_false] at h ⊢
   refine wp_alloc_R 32 rfl (ec 0) z4w ?_
   obtain ⟨gn,hgq,hq⟩:=h.on (k:=3) rfl 32 (ec 0)
   rw [hgq]
   refine hK.out _ _ ⟨_,_,_,_,_,_,_,_,_,_,_,_,_,_,rfl,by kernel_rfl,hq,?_⟩ <;> first | assumption | exact fun _=>rfl | exact nofun
  ·refine wp_store_R 32 _ _ rfl _ (ec n3) rfl rfl (h.rowo (k:=3) rfl) (ie4 _) rfl (ec_all _) ?_
   intro wz q hg hz
   replace h:=h.puto (k:=3) rfl q hg
   refine hK.out _ _ ⟨_,_,_,_,_,_,_,_,_,_,_,_,_,_,rfl,by kernel_rfl,h,?_⟩ <;> first | assumption | exact fun _=>rfl | exact nofun
 case rest =>
  clear h
  intro l b w' hI hr
  obtain ⟨l0,l1,l2,l3,l4,l5,l6,l7,l8,l9,l10,l11,l12,g5,rfl,rfl,h,hc12⟩:=hI
  cases rall hr rfl (by rfl)
  clear hr hc12
  simp only [putsA,Act.put,stA,st0,st1,cond_true]
  replace h:Fr w w' [(w.heap.size,81,sc A B M N),((w.heap.size + 1),81,sc D E G H),((w.heap.size + 1 + 1),81,sc 0 0 0 0),(g5,32,ec n3)]:=h
  go_upto_region 2 with fail
  try simp only [Act.put,stA,st0,st1]
  replace h:=h.drew
  refine wp_region_inv (by kernel_rfl) (fun a0 l b w'=>∃ (l0 l1 l2 l3 l4 l5 l6 l7 l8 l9 l10 l11 l12:Bool) (g6:Nat) ,l = #[l0,l1,l2,l3,l4,l5,l6,l7,l8,l9,l10,l11,l12] ∧ b = putsA a0 [(24,l0,.pointer (some ⟨w.heap.size,4,none⟩),undef),(25,l1,.agg (ec B).toArray,undef),(26,l2,.pointer (some ⟨w.heap.size,0,none⟩),undef),(27,l3,.agg (ec A).toArray,undef),(28,l4,.agg (ec n4).toArray,undef),(29,l5,.pointer (some ⟨(w.heap.size + 1),4,none⟩),undef),(30,l6,.agg (ec E).toArray,undef),(31,l7,.pointer (some ⟨(w.heap.size + 1),0,none⟩),undef),(32,l8,.agg (ec D).toArray,undef),(33,l9,.agg (ec n5).toArray,undef),(34,l10,.agg (ec n6).toArray,undef),(6,l11,.pointer (some ⟨g6,0,none⟩),undef)] ∧ Fr w w' (opt [(true,(w.heap.size,81,sc A B M N)),(true,((w.heap.size + 1),81,sc D E G H)),(true,((w.heap.size + 1 + 1),81,sc 0 0 0 0)),(true,(g5,32,ec n3)),(l11,(g6,32,bif l12 then ec n6 else ec 0))]) ∧ (l12 = true → l11 = true)) ?start ?step ?rest
  case start=>exact ⟨false,false,false,false,false,false,false,false,false,false,false,false,false,0,by kernel_rfl,by kernel_rfl,h,(fun e=>by cases e)⟩
  case step =>
   clear h
   intro l b w' hI i hi
   obtain ⟨l0,l1,l2,l3,l4,l5,l6,l7,l8,l9,l10,l11,l12,g6,rfl,rfl,h,hc12⟩:=hI
   have hlt:i < 13:=ready_lt hi
   obtain rfl | rfl | rfl | rfl | rfl | rfl | rfl | rfl | rfl | rfl | rfl | rfl | rfl:=(by omega:i = 0 ∨ i = 1 ∨ i = 2 ∨ i = 3 ∨ i = 4 ∨ i = 5 ∨ i = 6 ∨ i = 7 ∨ i = 8 ∨ i = 9 ∨ i = 10 ∨ i = 11 ∨ i = 12)
   all_goals (obtain ⟨hn,hd⟩:=rin hi rfl;cases hn;(repeat (obtain ⟨hn,hd⟩:=hd;cases hn));clear hi hlt hd;refine wpOp_inv rfl rfl (fun K hK=>?_);simp only [putsA,Act.put,stA,st0,st1,cond_true,cond_false] at h ⊢)
   ·refine wp_value (.pointer (some ⟨w.heap.size,4,none⟩)) (by go_simp) ?_
    refine hK.out _ _ ⟨_,_,_,_,_,_,_,_,_,_,_,_,_,_,rfl,by kernel_rfl,h,?_⟩ <;> first | assumption | exact fun _=>rfl | exact nofun
   ·refine wp_value (.agg (ec B).toArray) (exec_load_at 32 _ rfl rfl (sc_1 (h.rowo (k:=0) rfl)) rfl Tryz.underlying32 (ie4 _)) ?_
    refine hK.out _ _ ⟨_,_,_,_,_,_,_,_,_,_,_,_,_,_,rfl,by kernel_rfl,h,?_⟩ <;> first | assumption | exact fun _=>rfl | exact nofun
   ·refine wp_value (.pointer (some ⟨w.heap.size,0,none⟩)) (by go_simp) ?_
    refine hK.out _ _ ⟨_,_,_,_,_,_,_,_,_,_,_,_,_,_,rfl,by kernel_rfl,h,?_⟩ <;> first | assumption | exact fun _=>rfl | exact nofun
   ·refine wp_value (.agg (ec A).toArray) (exec_load_at 32 _ rfl rfl (sc_0 (h.rowo (k:=0) rfl)) rfl Tryz.underlying32 (ie4 _)) ?_
    refine hK.out _ _ ⟨_,_,_,_,_,_,_,_,_,_,_,_,_,_,rfl,by kernel_rfl,h,?_⟩ <;> first | assumption | exact fun _=>rfl | exact nofun
   ·go_simp
    refine callOK (cn4 _ (hP.below h.bel)) h ?_
    clear h
    rintro _ wn rfl h
    refine hK.out _ _ ⟨_,_,_,_,_,_,_,_,_,_,_,_,_,_,rfl,by kernel_rfl,h,?_⟩ <;> first | assumption | exact fun _=>rfl | exact nofun
   ·refine wp_value (.pointer (some ⟨(w.heap.size + 1),4,none⟩)) (by go_simp) ?_
    refine hK.out _ _ ⟨_,_,_,_,_,_,_,_,_,_,_,_,_,_,rfl,by kernel_rfl,h,?_⟩ <;> first | assumption | exact fun _=>rfl | exact nofun
   ·refine wp_value (.agg (ec E).toArray) (exec_load_at 32 _ rfl rfl (sc_1 (h.rowo (k:=1) rfl)) rfl Tryz.underlying32 (ie4 _)) ?_
    refine hK.out _ _ ⟨_,_,_,_,_,_,_,_,_,_,_,_,_,_,rfl,by kernel_rfl,h,?_⟩ <;> first | assumption | exact fun _=>rfl | exact nofun
   ·refine wp_value (.pointer (some ⟨(w.heap.size + 1),0,none⟩)) (by go_simp) ?_
    refine hK.out _ _ ⟨_,_,_,_,_,_,_,_,_,_,_,_,_,_,rfl,by kernel_rfl,h,?_⟩ <;> first | assumption | exact fun _=>rfl | exact nofun
   ·refine wp_value (.agg (ec D).toArray) (exec_load_at 32 _ rfl rfl (sc_0 (h.rowo (k:=1) rfl)) rfl Tryz.underlying32 (ie4 _)) ?_
    refine hK.out _ _ ⟨_,_,_,_,_,_,_,_,_,_,_,_,_,_,rfl,by kernel_rfl,h,?_⟩ <;> first | assumption | exact fun _=>rfl | exact nofun
   ·go_simp
    refine callOK (cn5 _ (hP.below h.bel)) h ?_
    clear h
    rintro _ wn rfl h
    refine hK.out _ _ ⟨_,_,_,_,_,_,_,_,_,_,_,_,_,_,rfl,by kernel_rfl,h,?_⟩ <;> first | assumption | exact fun _=>rfl | exact nofun
   ·go_simp
    refine callOK (cn6 _ (hP.below h.bel)) h ?_
    clear h
    rintro _ wn rfl h
    refine hK.out _ _ ⟨_,_,_,_,_,_,_,_,_,_,_,_,_,_,rfl,by kernel_rfl,h,?_⟩ <;> first | assumption | exact fun _=>rfl | exact nofun
   ·obtain rfl:l12 = false:=by cases l12 with | false=>rfl | true=>exact absurd (hc12 rfl) (by decide)
    simp only [cond_false] at h ⊢
    refine wp_alloc_R 32 rfl (ec 0) z4w ?_
    obtain ⟨gn,hgq,hq⟩:=h.on (k:=4) rfl 32 (ec 0)
    rw [hgq]
    refine hK.out _ _ ⟨_,_,_,_,_,_,_,_,_,_,_,_,_,_,rfl,by kernel_rfl,hq,?_⟩ <;> first | assumption | exact fun _=>rfl | exact nofun
   ·refine wp_store_R 32 _ _ rfl _ (ec n6) rfl rfl (h.rowo (k:=4) rfl) (ie4 _) rfl (ec_all _) ?_
    intro wz q hg hz
    replace h:=h.puto (k:=4) rfl q hg
    refine hK.out _ _ ⟨_,_,_,_,_,_,_,_,_,_,_,_,_,_,rfl,by kernel_rfl,h,?_⟩ <;> first | assumption | exact fun _=>rfl | exact nofun
  case rest =>
   clear h
   intro l b w' hI hr
   obtain ⟨l0,l1,l2,l3,l4,l5,l6,l7,l8,l9,l10,l11,l12,g6,rfl,rfl,h,hc12⟩:=hI
   cases rall hr rfl (by rfl)
   clear hr hc12
   simp only [putsA,Act.put,stA,st0,st1,cond_true]
   replace h:Fr w w' [(w.heap.size,81,sc A B M N),((w.heap.size + 1),81,sc D E G H),((w.heap.size + 1 + 1),81,sc 0 0 0 0),(g5,32,ec n3),(g6,32,ec n6)]:=h
   go_upto_region 3 with fail
   try simp only [Act.put,stA,st0,st1]
   replace h:=h.drew
   refine wp_region_inv (by kernel_rfl) (fun a0 l b w'=>∃ (l0 l1 l2 l3 l4 l5 l6 l7 l8 l9:Bool) (g7 g8:Nat) ,l = #[l0,l1,l2,l3,l4,l5,l6,l7,l8,l9] ∧ b = putsA a0 [(35,l0,.agg (ec n6).toArray,undef),(36,l1,.agg (ec n3).toArray,undef),(37,l2,.agg (ec n7).toArray,undef),(38,l3,.agg (ec n6).toArray,undef),(39,l4,.agg (ec n3).toArray,undef),(40,l5,.agg (ec n8).toArray,undef),(7,l6,.pointer (some ⟨g7,0,none⟩),undef),(8,l7,.pointer (some ⟨g8,0,none⟩),undef)] ∧ Fr w w' (opt [(true,(w.heap.size,81,sc A B M N)),(true,((w.heap.size + 1),81,sc D E G H)),(true,((w.heap.size + 1 + 1),81,sc 0 0 0 0)),(true,(g5,32,ec n3)),(true,(g6,32,ec n6)),(l6,(g7,32,bif l8 then ec n7 else ec 0)),(l7,(g8,32,bif l9 then ec n8 else ec 0))]) ∧ (l8 = true → l6 = true) ∧ (l9 = true → l7 = true)) ?start ?step ?rest
   case start=>exact ⟨false,false,false,false,false,false,false,false,false,false,0,0,by kernel_rfl,by kernel_rfl,h,(fun e=>by cases e),(fun e=>by cases e)⟩
   case step =>
    clear h
    intro l b w' hI i hi
    obtain ⟨l0,l1,l2,l3,l4,l5,l6,l7,l8,l9,g7,g8,rfl,rfl,h,hc8,hc9⟩:=hI
    have hlt:i < 10:=ready_lt hi
    obtain rfl | rfl | rfl | rfl | rfl | rfl | rfl | rfl | rfl | rfl:=(by omega:i = 0 ∨ i = 1 ∨ i = 2 ∨ i = 3 ∨ i = 4 ∨ i = 5 ∨ i = 6 ∨ i = 7 ∨ i = 8 ∨ i = 9)
    all_goals (obtain ⟨hn,hd⟩:=rin hi rfl;cases hn;(repeat (obtain ⟨hn,hd⟩:=hd;cases hn));clear hi hlt hd;refine wpOp_inv rfl rfl (fun K hK=>?_);simp only [putsA,Act.put,stA,st0,st1,cond_true,cond_false] at h ⊢)
    ·refine wp_value (.agg (ec n6).toArray) (exec_load_W 32 _ rfl rfl (h.rowo (k:=4) rfl) Tryz.underlying32 rfl (ie4 _)) ?_
     refine hK.out _ _ ⟨_,_,_,_,_,_,_,_,_,_,_,_,rfl,by kernel_rfl,h,?_,?_⟩ <;> first | assumption | exact fun _=>rfl | exact nofun
    ·refine wp_value (.agg (ec n3).toArray) (exec_load_W 32 _ rfl rfl (h.rowo (k:=3) rfl) Tryz.underlying32 rfl (ie4 _)) ?_
     refine hK.out _ _ ⟨_,_,_,_,_,_,_,_,_,_,_,_,rfl,by kernel_rfl,h,?_,?_⟩ <;> first | assumption | exact fun _=>rfl | exact nofun
    ·go_simp
     refine callOK (cn7 _ (hP.below h.bel)) h ?_
     clear h
     rintro _ wn rfl h
     refine hK.out _ _ ⟨_,_,_,_,_,_,_,_,_,_,_,_,rfl,by kernel_rfl,h,?_,?_⟩ <;> first | assumption | exact fun _=>rfl | exact nofun
    ·refine wp_value (.agg (ec n6).toArray) (exec_load_W 32 _ rfl rfl (h.rowo (k:=4) rfl) Tryz.underlying32 rfl (ie4 _)) ?_
     refine hK.out _ _ ⟨_,_,_,_,_,_,_,_,_,_,_,_,rfl,by kernel_rfl,h,?_,?_⟩ <;> first | assumption | exact fun _=>rfl | exact nofun
    ·refine wp_value (.agg (ec n3).toArray) (exec_load_W 32 _ rfl rfl (h.rowo (k:=3) rfl) Tryz.underlying32 rfl (ie4 _)) ?_
     refine hK.out _ _ ⟨_,_,_,_,_,_,_,_,_,_,_,_,rfl,by kernel_rfl,h,?_,?_⟩ <;> first | assumption | exact fun _=>rfl | exact nofun
    ·go_simp
     refine callOK (cn8 _ (hP.below h.bel)) h ?_
     clear h
     rintro _ wn rfl h
     refine hK.out _ _ ⟨_,_,_,_,_,_,_,_,_,_,_,_,rfl,by kernel_rfl,h,?_,?_⟩ <;> first | assumption | exact fun _=>rfl | exact nofun
    ·obtain rfl:l8 = false:=by cases l8 with | false=>rfl | true=>exact absurd (hc8 rfl) (by decide)
     simp only [cond_false] at h ⊢
     refine wp_alloc_R 32 rfl (ec 0) z4w ?_
     obtain ⟨gn,hgq,hq⟩:=h.on (k:=5) rfl 32 (ec 0)
     rw [hgq]
     refine hK.out _ _ ⟨_,_,_,_,_,_,_,_,_,_,_,_,rfl,by kernel_rfl,hq,?_,?_⟩ <;> first | assumption | exact fun _=>rfl | exact nofun
    ·obtain rfl:l9 = false:=by cases l9 with | false=>rfl | true=>exact absurd (hc9 rfl) (by decide)
     simp only [cond_false] at h ⊢
     refine wp_alloc_R 32 rfl (ec 0) z4w ?_
     obtain ⟨gn,hgq,hq⟩:=h.on (k:=6) rfl 32 (ec 0)
     rw [hgq]
     refine hK.out _ _ ⟨_,_,_,_,_,_,_,_,_,_,_,_,rfl,by kernel_rfl,hq,?_,?_⟩ <;> first | assumption | exact fun _=>rfl | exact nofun
    ·refine wp_store_R 32 _ _ rfl _ (ec n7) rfl rfl (h.rowo (k:=5) rfl) (ie4 _) rfl (ec_all _) ?_
     intro wz q hg hz
     replace h:=h.puto (k:=5) rfl q hg
     refine hK.out _ _ ⟨_,_,_,_,_,_,_,_,_,_,_,_,rfl,by kernel_rfl,h,?_,?_⟩ <;> first | assumption | exact fun _=>rfl | exact nofun
    ·refine wp_store_R 32 _ _ rfl _ (ec n8) rfl rfl (h.rowo (k:=6) rfl) (ie4 _) rfl (ec_all _) ?_
     intro wz q hg hz
     replace h:=h.puto (k:=6) rfl q hg
     refine hK.out _ _ ⟨_,_,_,_,_,_,_,_,_,_,_,_,rfl,by kernel_rfl,h,?_,?_⟩ <;> first | assumption | exact fun _=>rfl | exact nofun
   case rest =>
    clear h
    intro l b w' hI hr
    obtain ⟨l0,l1,l2,l3,l4,l5,l6,l7,l8,l9,g7,g8,rfl,rfl,h,hc8,hc9⟩:=hI
    cases rall hr rfl (by rfl)
    clear hr hc8 hc9
    simp only [putsA,Act.put,stA,st0,st1,cond_true]
    replace h:Fr w w' [(w.heap.size,81,sc A B M N),((w.heap.size + 1),81,sc D E G H),((w.heap.size + 1 + 1),81,sc 0 0 0 0),(g5,32,ec n3),(g6,32,ec n6),(g7,32,ec n7),(g8,32,ec n8)]:=h
    go_upto_region 4 with fail
    try simp only [Act.put,stA,st0,st1]
    replace h:=h.drew
    refine wp_region_inv (by kernel_rfl) (fun a0 l b w'=>∃ (l0 l1 l2 l3 l4 l5 l6 l7 l8 l9 l10 l11 l12 l13 l14 l15 l16 l17:Bool) (g9 g10:Nat) ,l = #[l0,l1,l2,l3,l4,l5,l6,l7,l8,l9,l10,l11,l12,l13,l14,l15,l16,l17] ∧ b = putsA a0 [(41,l0,.pointer (some ⟨w.heap.size,12,none⟩),undef),(42,l1,.agg (ec N).toArray,undef),(43,l2,.pointer (some ⟨(w.heap.size + 1),12,none⟩),undef),(44,l3,.agg (ec H).toArray,undef),(45,l4,.agg (ec n9).toArray,undef),(46,l5,.agg (ec n10).toArray,undef),(47,l6,.agg (ec Dn).toArray,undef),(48,l7,.pointer (some ⟨w.heap.size,8,none⟩),undef),(49,l8,.agg (ec M).toArray,undef),(50,l9,.pointer (some ⟨(w.heap.size + 1),8,none⟩),undef),(51,l10,.agg (ec G).toArray,undef),(52,l11,.agg (ec n11).toArray,undef),(53,l12,.agg (ec n12).toArray,undef),(54,l13,.agg (ec n13).toArray,undef),(9,l14,.pointer (some ⟨g9,0,none⟩),undef),(10,l15,.pointer (some ⟨g10,0,none⟩),undef)] ∧ Fr w w' (opt [(true,(w.heap.size,81,sc A B M N)),(true,((w.heap.size + 1),81,sc D E G H)),(true,((w.heap.size + 1 + 1),81,sc 0 0 0 0)),(true,(g5,32,ec n3)),(true,(g6,32,ec n6)),(true,(g7,32,ec n7)),(true,(g8,32,ec n8)),(l14,(g9,32,bif l16 then ec n10 else ec 0)),(l15,(g10,32,bif l17 then ec n13 else ec 0))]) ∧ (l16 = true → l14 = true) ∧ (l17 = true → l15 = true)) ?start ?step ?rest
    case start=>exact ⟨false,false,false,false,false,false,false,false,false,false,false,false,false,false,false,false,false,false,0,0,by kernel_rfl,by kernel_rfl,h,(fun e=>by cases e),(fun e=>by cases e)⟩
    case step =>
     clear h
     intro l b w' hI i hi
     obtain ⟨l0,l1,l2,l3,l4,l5,l6,l7,l8,l9,l10,l11,l12,l13,l14,l15,l16,l17,g9,g10,rfl,rfl,h,hc16,hc17⟩:=hI
     have hlt:i < 18:=ready_lt hi
     obtain rfl | rfl | rfl | rfl | rfl | rfl | rfl | rfl | rfl | rfl | rfl | rfl | rfl | rfl | rfl | rfl | rfl | rfl:=(by omega:i = 0 ∨ i = 1 ∨ i = 2 ∨ i = 3 ∨ i = 4 ∨ i = 5 ∨ i = 6 ∨ i = 7 ∨ i = 8 ∨ i = 9 ∨ i = 10 ∨ i = 11 ∨ i = 12 ∨ i = 13 ∨ i = 14 ∨ i = 15 ∨ i = 16 ∨ i = 17)
     all_goals (obtain ⟨hn,hd⟩:=rin hi rfl;cases hn;(repeat (obtain ⟨hn,hd⟩:=hd;cases hn));clear hi hlt hd;refine wpOp_inv rfl rfl (fun K hK=>?_);simp only [putsA,Act.put,stA,st0,st1,cond_true,cond_false] at h ⊢)
     ·refine wp_value (.pointer (some ⟨w.heap.size,12,none⟩)) (by go_simp) ?_
      refine hK.out _ _ ⟨_,_,_,_,_,_,_,_,_,_,_,_,_,_,_,_,_,_,_,_,rfl,by kernel_rfl,h,?_,?_⟩ <;> first | assumption | exact fun _=>rfl | exact nofun
     ·refine wp_value (.agg (ec N).toArray) (exec_load_at 32 _ rfl rfl (sc_3 (h.rowo (k:=0) rfl)) rfl Tryz.underlying32 (ie4 _)) ?_
      refine hK.out _ _ ⟨_,_,_,_,_,_,_,_,_,_,_,_,_,_,_,_,_,_,_,_,rfl,by kernel_rfl,h,?_,?_⟩ <;> first | assumption | exact fun _=>rfl | exact nofun
     ·refine wp_value (.pointer (some ⟨(w.heap.size + 1),12,none⟩)) (by go_simp) ?_
      refine hK.out _ _ ⟨_,_,_,_,_,_,_,_,_,_,_,_,_,_,_,_,_,_,_,_,rfl,by kernel_rfl,h,?_,?_⟩ <;> first | assumption | exact fun _=>rfl | exact nofun
     ·refine wp_value (.agg (ec H).toArray) (exec_load_at 32 _ rfl rfl (sc_3 (h.rowo (k:=1) rfl)) rfl Tryz.underlying32 (ie4 _)) ?_
      refine hK.out _ _ ⟨_,_,_,_,_,_,_,_,_,_,_,_,_,_,_,_,_,_,_,_,rfl,by kernel_rfl,h,?_,?_⟩ <;> first | assumption | exact fun _=>rfl | exact nofun
     ·go_simp
      refine callOK (cn9 _ (hP.below h.bel)) h ?_
      clear h
      rintro _ wn rfl h
      refine hK.out _ _ ⟨_,_,_,_,_,_,_,_,_,_,_,_,_,_,_,_,_,_,_,_,rfl,by kernel_rfl,h,?_,?_⟩ <;> first | assumption | exact fun _=>rfl | exact nofun
     ·go_simp
      refine callOK (cn10 _ (hP.below h.bel)) h ?_
      clear h
      rintro _ wn rfl h
      refine hK.out _ _ ⟨_,_,_,_,_,_,_,_,_,_,_,_,_,_,_,_,_,_,_,_,rfl,by kernel_rfl,h,?_,?_⟩ <;> first | assumption | exact fun _=>rfl | exact nofun
     ·refine wp_value (.agg (ec Dn).toArray) (exec_load_G 32 _ rfl rfl ((hE.below h.bel).d.c) Tryz.underlying32 rfl (ie4 _)) ?_
      refine hK.out _ _ ⟨_,_,_,_,_,_,_,_,_,_,_,_,_,_,_,_,_,_,_,_,rfl,by kernel_rfl,h,?_,?_⟩ <;> first | assumption | exact fun _=>rfl | exact nofun
     ·refine wp_value (.pointer (some ⟨w.heap.size,8,none⟩)) (by go_simp) ?_
      refine hK.out _ _ ⟨_,_,_,_,_,_,_,_,_,_,_,_,_,_,_,_,_,_,_,_,rfl,by kernel_rfl,h,?_,?_⟩ <;> first | assumption | exact fun _=>rfl | exact nofun
     ·refine wp_value (.agg (ec M).toArray) (exec_load_at 32 _ rfl rfl (sc_2 (h.rowo (k:=0) rfl)) rfl Tryz.underlying32 (ie4 _)) ?_
      refine hK.out _ _ ⟨_,_,_,_,_,_,_,_,_,_,_,_,_,_,_,_,_,_,_,_,rfl,by kernel_rfl,h,?_,?_⟩ <;> first | assumption | exact fun _=>rfl | exact nofun
     ·refine wp_value (.pointer (some ⟨(w.heap.size + 1),8,none⟩)) (by go_simp) ?_
      refine hK.out _ _ ⟨_,_,_,_,_,_,_,_,_,_,_,_,_,_,_,_,_,_,_,_,rfl,by kernel_rfl,h,?_,?_⟩ <;> first | assumption | exact fun _=>rfl | exact nofun
     ·refine wp_value (.agg (ec G).toArray) (exec_load_at 32 _ rfl rfl (sc_2 (h.rowo (k:=1) rfl)) rfl Tryz.underlying32 (ie4 _)) ?_
      refine hK.out _ _ ⟨_,_,_,_,_,_,_,_,_,_,_,_,_,_,_,_,_,_,_,_,rfl,by kernel_rfl,h,?_,?_⟩ <;> first | assumption | exact fun _=>rfl | exact nofun
     ·go_simp
      refine callOK (cn11 _ (hP.below h.bel)) h ?_
      clear h
      rintro _ wn rfl h
      refine hK.out _ _ ⟨_,_,_,_,_,_,_,_,_,_,_,_,_,_,_,_,_,_,_,_,rfl,by kernel_rfl,h,?_,?_⟩ <;> first | assumption | exact fun _=>rfl | exact nofun
     ·go_simp
      refine callOK (cn12 _ (hP.below h.bel)) h ?_
      clear h
      rintro _ wn rfl h
      refine hK.out _ _ ⟨_,_,_,_,_,_,_,_,_,_,_,_,_,_,_,_,_,_,_,_,rfl,by kernel_rfl,h,?_,?_⟩ <;> first | assumption | exact fun _=>rfl | exact nofun
     ·go_simp
      refine callOK (cn13 _ (hP.below h.bel)) h ?_
      clear h
      rintro _ wn rfl h
      refine hK.out _ _ ⟨_,_,_,_,_,_,_,_,_,_,_,_,_,_,_,_,_,_,_,_,rfl,by kernel_rfl,h,?_,?_⟩ <;> first | assumption | exact fun _=>rfl | exact nofun
     ·obtain rfl:l16 = false:=by cases l16 with | false=>rfl | true=>exact absurd (hc16 rfl) (by decide)
      simp only [cond_false] at h ⊢
      refine wp_alloc_R 32 rfl (ec 0) z4w ?_
      obtain ⟨gn,hgq,hq⟩:=h.on (k:=7) rfl 32 (ec 0)
      rw [hgq]
      refine hK.out _ _ ⟨_,_,_,_,_,_,_,_,_,_,_,_,_,_,_,_,_,_,_,_,rfl,by kernel_rfl,hq,?_,?_⟩ <;> first | assumption | exact fun _=>rfl | exact nofun
     ·obtain rfl:l17 = false:=by cases l17 with | false=>rfl | true=>exact absurd (hc17 rfl) (by decide)
      simp only [cond_false] at h ⊢
      refine wp_alloc_R 32 rfl (ec 0) z4w ?_
      obtain ⟨gn,hgq,hq⟩:=h.on (k:=8) rfl 32 (ec 0)
      rw [hgq]
      refine hK.out _ _ ⟨_,_,_,_,_,_,_,_,_,_,_,_,_,_,_,_,_,_,_,_,rfl,by kernel_rfl,hq,?_,?_⟩ <;> first | assumption | exact fun _=>rfl | exact nofun
     ·refine wp_store_R 32 _ _ rfl _ (ec n10) rfl rfl (h.rowo (k:=7) rfl) (ie4 _) rfl (ec_all _) ?_
      intro wz q hg hz
      replace h:=h.puto (k:=7) rfl q hg
      refine hK.out _ _ ⟨_,_,_,_,_,_,_,_,_,_,_,_,_,_,_,_,_,_,_,_,rfl,by kernel_rfl,h,?_,?_⟩ <;> first | assumption | exact fun _=>rfl | exact nofun
     ·refine wp_store_R 32 _ _ rfl _ (ec n13) rfl rfl (h.rowo (k:=8) rfl) (ie4 _) rfl (ec_all _) ?_
      intro wz q hg hz
      replace h:=h.puto (k:=8) rfl q hg
      refine hK.out _ _ ⟨_,_,_,_,_,_,_,_,_,_,_,_,_,_,_,_,_,_,_,_,rfl,by kernel_rfl,h,?_,?_⟩ <;> first | assumption | exact fun _=>rfl | exact nofun
    case rest =>
     clear h
     intro l b w' hI hr
     obtain ⟨l0,l1,l2,l3,l4,l5,l6,l7,l8,l9,l10,l11,l12,l13,l14,l15,l16,l17,g9,g10,rfl,rfl,h,hc16,hc17⟩:=hI
     cases rall hr rfl (by rfl)
     clear hr hc16 hc17
     simp only [putsA,Act.put,stA,st0,st1,cond_true]
     replace h:Fr w w' [(w.heap.size,81,sc A B M N),((w.heap.size + 1),81,sc D E G H),((w.heap.size + 1 + 1),81,sc 0 0 0 0),(g5,32,ec n3),(g6,32,ec n6),(g7,32,ec n7),(g8,32,ec n8),(g9,32,ec n10),(g10,32,ec n13)]:=h
     go_upto_region 5 with fail
     try simp only [Act.put,stA,st0,st1]
     replace h:=h.drew
     refine wp_region_inv (by kernel_rfl) (fun a0 l b w'=>∃ (l0 l1 l2 l3 l4 l5 l6 l7 l8 l9:Bool) (g11 g12:Nat) ,l = #[l0,l1,l2,l3,l4,l5,l6,l7,l8,l9] ∧ b = putsA a0 [(55,l0,.agg (ec n10).toArray,undef),(56,l1,.agg (ec n13).toArray,undef),(57,l2,.agg (ec n14).toArray,undef),(58,l3,.agg (ec n10).toArray,undef),(59,l4,.agg (ec n13).toArray,undef),(60,l5,.agg (ec n15).toArray,undef),(11,l6,.pointer (some ⟨g11,0,none⟩),undef),(12,l7,.pointer (some ⟨g12,0,none⟩),undef)] ∧ Fr w w' (opt [(true,(w.heap.size,81,sc A B M N)),(true,((w.heap.size + 1),81,sc D E G H)),(true,((w.heap.size + 1 + 1),81,sc 0 0 0 0)),(true,(g5,32,ec n3)),(true,(g6,32,ec n6)),(true,(g7,32,ec n7)),(true,(g8,32,ec n8)),(true,(g9,32,ec n10)),(true,(g10,32,ec n13)),(l6,(g11,32,bif l8 then ec n14 else ec 0)),(l7,(g12,32,bif l9 then ec n15 else ec 0))]) ∧ (l8 = true → l6 = true) ∧ (l9 = true → l7 = true)) ?start ?step ?rest
     case start=>exact ⟨false,false,false,false,false,false,false,false,false,false,0,0,by kernel_rfl,by kernel_rfl,h,(fun e=>by cases e),(fun e=>by cases e)⟩
     case step =>
      clear h
      intro l b w' hI i hi
      obtain ⟨l0,l1,l2,l3,l4,l5,l6,l7,l8,l9,g11,g12,rfl,rfl,h,hc8,hc9⟩:=hI
      have hlt:i < 10:=ready_lt hi
      obtain rfl | rfl | rfl | rfl | rfl | rfl | rfl | rfl | rfl | rfl:=(by omega:i = 0 ∨ i = 1 ∨ i = 2 ∨ i = 3 ∨ i = 4 ∨ i = 5 ∨ i = 6 ∨ i = 7 ∨ i = 8 ∨ i = 9)
      all_goals (obtain ⟨hn,hd⟩:=rin hi rfl;cases hn;(repeat (obtain ⟨hn,hd⟩:=hd;cases hn));clear hi hlt hd;refine wpOp_inv rfl rfl (fun K hK=>?_);simp only [putsA,Act.put,stA,st0,st1,cond_true,cond_false] at h ⊢)
      ·refine wp_value (.agg (ec n10).toArray) (exec_load_W 32 _ rfl rfl (h.rowo (k:=7) rfl) Tryz.underlying32 rfl (ie4 _)) ?_
       refine hK.out _ _ ⟨_,_,_,_,_,_,_,_,_,_,_,_,rfl,by kernel_rfl,h,?_,?_⟩ <;> first | assumption | exact fun _=>rfl | exact nofun
      ·refine wp_value (.agg (ec n13).toArray) (exec_load_W 32 _ rfl rfl (h.rowo (k:=8) rfl) Tryz.underlying32 rfl (ie4 _)) ?_
       refine hK.out _ _ ⟨_,_,_,_,_,_,_,_,_,_,_,_,rfl,by kernel_rfl,h,?_,?_⟩ <;> first | assumption | exact fun _=>rfl | exact nofun
      ·go_simp
       refine callOK (cn14 _ (hP.below h.bel)) h ?_
       clear h
       rintro _ wn rfl h
       refine hK.out _ _ ⟨_,_,_,_,_,_,_,_,_,_,_,_,rfl,by kernel_rfl,h,?_,?_⟩ <;> first | assumption | exact fun _=>rfl | exact nofun
      ·refine wp_value (.agg (ec n10).toArray) (exec_load_W 32 _ rfl rfl (h.rowo (k:=7) rfl) Tryz.underlying32 rfl (ie4 _)) ?_
       refine hK.out _ _ ⟨_,_,_,_,_,_,_,_,_,_,_,_,rfl,by kernel_rfl,h,?_,?_⟩ <;> first | assumption | exact fun _=>rfl | exact nofun
      ·refine wp_value (.agg (ec n13).toArray) (exec_load_W 32 _ rfl rfl (h.rowo (k:=8) rfl) Tryz.underlying32 rfl (ie4 _)) ?_
       refine hK.out _ _ ⟨_,_,_,_,_,_,_,_,_,_,_,_,rfl,by kernel_rfl,h,?_,?_⟩ <;> first | assumption | exact fun _=>rfl | exact nofun
      ·go_simp
       refine callOK (cn15 _ (hP.below h.bel)) h ?_
       clear h
       rintro _ wn rfl h
       refine hK.out _ _ ⟨_,_,_,_,_,_,_,_,_,_,_,_,rfl,by kernel_rfl,h,?_,?_⟩ <;> first | assumption | exact fun _=>rfl | exact nofun
      ·obtain rfl:l8 = false:=by cases l8 with | false=>rfl | true=>exact absurd (hc8 rfl) (by decide)
       simp only [cond_false] at h ⊢
       refine wp_alloc_R 32 rfl (ec 0) z4w ?_
       obtain ⟨gn,hgq,hq⟩:=h.on (k:=9) rfl 32 (ec 0)
       rw [hgq]
       refine hK.out _ _ ⟨_,_,_,_,_,_,_,_,_,_,_,_,rfl,by kernel_rfl,hq,?_,?_⟩ <;> first | assumption | exact fun _=>rfl | exact nofun
      ·obtain rfl:l9 = false:=by cases l9 with | false=>rfl | true=>exact absurd (hc9 rfl) (by decide)
       simp only [cond_false] at h ⊢
       refine wp_alloc_R 32 rfl (ec 0) z4w ?_
       obtain ⟨gn,hgq,hq⟩:=h.on (k:=10) rfl 32 (ec 0)
       rw [hgq]
       refine hK.out _ _ ⟨_,_,_,_,_,_,_,_,_,_,_,_,rfl,by kernel_rfl,hq,?_,?_⟩ <;> first | assumption | exact fun _=>rfl | exact nofun
      ·refine wp_store_R 32 _ _ rfl _ (ec n14) rfl rfl (h.rowo (k:=9) rfl) (ie4 _) rfl (ec_all _) ?_
       intro wz q hg hz
       replace h:=h.puto (k:=9) rfl q hg
       refine hK.out _ _ ⟨_,_,_,_,_,_,_,_,_,_,_,_,rfl,by kernel_rfl,h,?_,?_⟩ <;> first | assumption | exact fun _=>rfl | exact nofun
      ·refine wp_store_R 32 _ _ rfl _ (ec n15) rfl rfl (h.rowo (k:=10) rfl) (ie4 _) rfl (ec_all _) ?_
       intro wz q hg hz
       replace h:=h.puto (k:=10) rfl q hg
       refine hK.out _ _ ⟨_,_,_,_,_,_,_,_,_,_,_,_,rfl,by kernel_rfl,h,?_,?_⟩ <;> first | assumption | exact fun _=>rfl | exact nofun
     case rest =>
      clear h
      intro l b w' hI hr
      obtain ⟨l0,l1,l2,l3,l4,l5,l6,l7,l8,l9,g11,g12,rfl,rfl,h,hc8,hc9⟩:=hI
      cases rall hr rfl (by rfl)
      clear hr hc8 hc9
      simp only [putsA,Act.put,stA,st0,st1,cond_true]
      replace h:Fr w w' [(w.heap.size,81,sc A B M N),((w.heap.size + 1),81,sc D E G H),((w.heap.size + 1 + 1),81,sc 0 0 0 0),(g5,32,ec n3),(g6,32,ec n6),(g7,32,ec n7),(g8,32,ec n8),(g9,32,ec n10),(g10,32,ec n13),(g11,32,ec n14),(g12,32,ec n15)]:=h
      go_upto_region 6 with fail
      try simp only [Act.put,stA,st0,st1]
      replace h:=h.drew
      refine wp_region_noPanic ?_
      refine wp_region_held_drew (S:=fun w'=>Row w' g7 32 (ec n7) ∧ Row w' g12 32 (ec n15) ∧ Row w' g8 32 (ec n8) ∧ Row w' g11 32 (ec n14)) (by kernel_rfl) ⟨h.row (i:=5) rfl,h.row (i:=10) rfl,h.row (i:=6) rfl,h.row (i:=9) rfl⟩ (fun _=>?_)
      refine tkL 0 (.agg (ec n7).toArray) rfl (fun w hSw=>exec_load_W 32 _ rfl rfl hSw.1 Tryz.underlying32 rfl (ie4 _)) ?_
      simp only [Act.put,stA,st0,st1]
      refine tkL 1 (.agg (ec n15).toArray) rfl (fun w hSw=>exec_load_W 32 _ rfl rfl hSw.2.1 Tryz.underlying32 rfl (ie4 _)) ?_
      simp only [Act.put,stA,st0,st1]
      refine tkL 3 (.agg (ec n8).toArray) rfl (fun w hSw=>exec_load_W 32 _ rfl rfl hSw.2.2.1 Tryz.underlying32 rfl (ie4 _)) ?_
      simp only [Act.put,stA,st0,st1]
      refine tkL 4 (.agg (ec n14).toArray) rfl (fun w hSw=>exec_load_W 32 _ rfl rfl hSw.2.2.2 Tryz.underlying32 rfl (ie4 _)) ?_
      simp only [Act.put,stA,st0,st1]
      refine tkL 6 (.agg (ec n7).toArray) rfl (fun w hSw=>exec_load_W 32 _ rfl rfl hSw.1 Tryz.underlying32 rfl (ie4 _)) ?_
      simp only [Act.put,stA,st0,st1]
      refine tkL 7 (.agg (ec n8).toArray) rfl (fun w hSw=>exec_load_W 32 _ rfl rfl hSw.2.2.1 Tryz.underlying32 rfl (ie4 _)) ?_
      simp only [Act.put,stA,st0,st1]
      refine tkL 9 (.agg (ec n14).toArray) rfl (fun w hSw=>exec_load_W 32 _ rfl rfl hSw.2.2.2 Tryz.underlying32 rfl (ie4 _)) ?_
      simp only [Act.put,stA,st0,st1]
      refine tkL 10 (.agg (ec n15).toArray) rfl (fun w hSw=>exec_load_W 32 _ rfl rfl hSw.2.1 Tryz.underlying32 rfl (ie4 _)) ?_
      simp only [Act.put,stA,st0,st1]
      refine ar1 2 rfl (fun K hK=>?_)
      go_simp
      refine callOK (cn16 _ (hP.below h.bel)) h ?_
      clear h
      rintro _ wn rfl h
      refine hK.out _ _ ⟨h.row (i:=5) rfl,h.row (i:=10) rfl,h.row (i:=6) rfl,h.row (i:=9) rfl⟩ (fun _=>?_)
      clear hK K
      refine ar1 5 rfl (fun K hK=>?_)
      go_simp
      refine callOK (cn17 _ (hP.below h.bel)) h ?_
      clear h
      rintro _ wn rfl h
      refine hK.out _ _ ⟨h.row (i:=5) rfl,h.row (i:=10) rfl,h.row (i:=6) rfl,h.row (i:=9) rfl⟩ (fun _=>?_)
      clear hK K
      refine ar1 8 rfl (fun K hK=>?_)
      go_simp
      refine callOK (cn18 _ (hP.below h.bel)) h ?_
      clear h
      rintro _ wn rfl h
      refine hK.out _ _ ⟨h.row (i:=5) rfl,h.row (i:=10) rfl,h.row (i:=6) rfl,h.row (i:=9) rfl⟩ (fun _=>?_)
      clear hK K
      refine ar1 11 rfl (fun K hK=>?_)
      go_simp
      refine callOK (cn19 _ (hP.below h.bel)) h ?_
      clear h
      rintro _ wn rfl h
      refine hK.out _ _ ⟨h.row (i:=5) rfl,h.row (i:=10) rfl,h.row (i:=6) rfl,h.row (i:=9) rfl⟩ (fun _=>?_)
      clear hK K
      refine tkL 12 (.agg (sc n16 n17 n18 n19).toArray) rfl (fun w hSw=>exec_build_C 81 _ rfl (sc n16 n17 n18 n19) (by kernel_rfl)) ?_
      simp only [Act.put,stA,st0,st1]
      refine ar1 13 rfl (fun K hK=>?_)
      refine wp_store_R 81 _ _ rfl _ (sc n16 n17 n18 n19) rfl rfl (h.row (i:=2) rfl) (iS _ _ _ _) rfl (sc_all _ _ _ _) ?_
      intro wz q hg hz
      replace h:Fr w wz [(w.heap.size,81,sc A B M N),((w.heap.size + 1),81,sc D E G H),((w.heap.size + 1 + 1),81,sc n16 n17 n18 n19),(g5,32,ec n3),(g6,32,ec n6),(g7,32,ec n7),(g8,32,ec n8),(g9,32,ec n10),(g10,32,ec n13),(g11,32,ec n14),(g12,32,ec n15)]:=h.put (i:=2) rfl q hg
      clear q hg hz
      refine hK.out _ _ ⟨h.row (i:=5) rfl,h.row (i:=10) rfl,h.row (i:=6) rfl,h.row (i:=9) rfl⟩ (fun _=>?_)
      clear hK K
      refine wpAnyH_done (by kernel_rfl) ?_ _
      refine NoPanic.normal ?_
      go_wp2
      exact result_row Tryz.results77 rfl (h.row (i:=2) rfl) Tryz.underlying81 rfl (iS _ _ _ _) rfl ⟨⟨_,_,_,_,rfl,ln16,ln17,ln18,ln19,HV.out⟩,h.bel⟩
end Go.Proofs.YtmjimilhomabfaaGreatDoor.F
