/-
 The program's bit, odd, Both, Mul; over this seat's translation. Conditions: each as it says.
-/
import Derived.Test.YtmjimilhomabfaaGreatDoorEpC
import Derived.Test.YtmjimilhomabfaaGreatDoorK14
namespace Go.Proofs.YtmjimilhomabfaaGreatDoor.F
open Go.RowKit
set_option linter.unusedVariables false
set_option maxRecDepth 10000
open E (z z_val z_same z_add z_mul z_sub z_inv z_mod z_of dd Pt padd pneg pmul iv ax ay Sc)
theorem ebit_any (A i:Nat) (hA:A < 115792089237316195423570985008687907853269984665640564039457584007913129639936) (hi:i < 256) (w:World):Calls Tryz.prog 78 #[el A,.int .i64 (i:Int)] w fun e w'=>e = .returned (.bool (decide (A / 2 ^ i % 2 = 1))) ∧ Below w.heap.size w w':=by
 have r1:=Row.new w 32 (C .u64 (wds A))
 have hL:=(Below.more (Below.refl w.heap.size w) (Nat.le_refl _) (.cells (C .u64 (wds A)).toArray 32)).1
 have c1:=r1.cell (i / 64)
 rw [C_get .u64 (by rw [wds_length];omega)] at c1
 rw [← bit_of]
 have bx:=(wds_lo A).getD (by decide) (i / 64)
 rw [wds_getD hA] at bx c1
 unfold el
 generalize A / 18446744073709551616 ^ (i / 64) % 18446744073709551616 = x at *
 obtain ⟨q,hq⟩:∃ q,i / 64 = q:=⟨_,rfl⟩
 obtain ⟨r,hr⟩:∃ r,i % 64 = r:=⟨_,rfl⟩
 rw [hq] at c1
 rw [hr]
 have dq:(i:Int).tdiv 64 = (q:Int):=by rw [Int.tdiv_eq_ediv_of_nonneg (by omega)];omega
 have dq':(i:Int) / 64 = (q:Int):=by omega
 have bq:(q:Int) < 4:=by omega
 have dr:(i:Int).tmod 64 = (r:Int):=by rw [Int.tmod_eq_emod_of_nonneg (by omega)];omega
 have dr':(i:Int) % 64 = (r:Int):=by omega
 have br:(r:Int) < 64:=by omega
 obtain ⟨y,hy⟩:∃ y,x / 2 ^ r = y:=⟨_,rfl⟩
 have ey:(x:Int) / 2 ^ r = (y:Int):=by rw [← hy];simp
 rw [hy]
 have hyl:y < 18446744073709551616:=by rw [← hy];exact Nat.lt_of_le_of_lt (Nat.div_le_self _ _) bx
 obtain ⟨u,hu⟩:∃ u,y % 2 = u:=⟨_,rfl⟩
 have eu:bits .and .u64 (y:Int) 1 = (u:Int):=by
  have:=u64_and_nat y 1 hyl (by decide)
  rw [show ((1:Nat):Int) = 1 from rfl] at this
  rw [this,Nat.and_one_is_mod,hu]
 rw [hu]
 have du:((u:Int) == 1) = decide (u = 1):=by rw [Bool.eq_iff_iff];simp;omega
 clear hq hr hy hu hyl bx
 generalize wds A = xs at *
 go_enter Tryz.func78,Tryz.ntmps78
 go_wp2
 go_ret
 exact ⟨rfl,hL⟩
theorem ebit_el (A i:Nat) (hA:A < 115792089237316195423570985008687907853269984665640564039457584007913129639936) (hi:i < 256) (w:World):Calls Tryz.prog 78 #[.agg (ec A).toArray,.int .i64 (i:Int)] w fun e w'=>e = .returned (.bool (decide (A / 2 ^ i % 2 = 1))) ∧ Below w.heap.size w w':=ebit_any A i hA hi w
theorem odd_el (A:Nat) (lA:A < 115792089237316195423570985008687907853269984665640564039457584007913129639936) (w:World):Calls Tryz.prog 75 #[.agg (ec A).toArray] w fun e w'=>e = .returned (.bool (decide (A % 2 = 1))) ∧ Below w.heap.size w w':=by
 have h:=Fr.one w 32 (ec A)
 have c1:=fun w=>ebit_el A 0 lA (by decide) w
 rw [Nat.pow_zero,Nat.div_one] at c1
 have c2:∀ (w:World),Calls Tryz.prog 78 #[.agg (ec A).toArray,.int .i64 0] w fun e w'=>e = .returned (.bool (decide (A % 2 = 1))) ∧ Below w.heap.size w w':=c1
 obtain ⟨b,hb⟩:∃ b,decide (A % 2 = 1) = b:=⟨_,rfl⟩
 rw [hb] at c2 ⊢
 clear hb c1
 go_enter Tryz.func75,Tryz.ntmps75
 go_wp2_with (refine wpList_load_row rfl 32 _ rfl _ rfl _ _ _ _ (h.row (i:=0) rfl) Tryz.underlying32 rfl (ie4 _) ?_)
 refine (c2 _).mono ?_
 rintro _ wn ⟨rfl,hb⟩
 replace h:=h.below hb
 clear hb
 go_wp2
 go_ret
 exact ⟨rfl,h.bel⟩
theorem half_step' (k m:Nat):k / 2 ^ m = 2 * (k / 2 ^ (m + 1)) + k / 2 ^ m % 2:=by
 rw [Nat.pow_succ,← Nat.div_div_eq_div_mul];omega
theorem twice_sum (a b:Nat) (p q:Pt):padd (padd (pmul a p) (pmul b q)) (padd (pmul a p) (pmul b q)) = padd (pmul (2 * a) p) (pmul (2 * b) q):=by
 rw [Nat.two_mul,Nat.two_mul,E.pmul_add,E.pmul_add,E.padd_assoc,E.padd_assoc,← E.padd_assoc (pmul b q),E.padd_comm (pmul b q) (pmul a p),E.padd_assoc]
theorem sum_first (a:Nat) (p r:Pt):padd (padd (pmul a p) r) p = padd (pmul (a + 1) p) r:=by
 rw [E.pmul_add,E.pmul_one,E.padd_assoc,E.padd_assoc,E.padd_comm r p]
set_option maxHeartbeats 8000000 in
theorem both_any (k1 A B k2 M N:Nat) (lk1:k1 < 115792089237316195423570985008687907853269984665640564039457584007913129639936) (lA:A < 115792089237316195423570985008687907853269984665640564039457584007913129639936) (lB:B < 115792089237316195423570985008687907853269984665640564039457584007913129639936) (lk2:k2 < 115792089237316195423570985008687907853269984665640564039457584007913129639936) (lM:M < 115792089237316195423570985008687907853269984665640564039457584007913129639936) (lN:N < 115792089237316195423570985008687907853269984665640564039457584007913129639936) (w:World) (hI:TI w):Calls Tryz.prog 34 #[.agg (ec k1).toArray,.agg (pc A B).toArray,.agg (ec k2).toArray,.agg (pc M N).toArray] w fun e w'=>e = .returned (.agg (pv (padd (pmul k1 (ownP A B)) (pmul k2 (ownP M N)))).toArray) ∧ Below w.heap.size w w':=by
 obtain ⟨w2,h2,h⟩:=Fr.five w 32 44 32 44 44 (ec k1) (pc A B) (ec k2) (pc M N) (pc 0 0)
 have hE:=hI.e
 have hP:=hE.p
 obtain ⟨X,Y,eX,eY,lX,lY,zX,zY,co⟩:=counted_let A B lA lB
 obtain ⟨U,V,eU,eV,lU,lV,zU,zV,cu⟩:=counted_let M N lM lN
 obtain ⟨X1,lX1,H1,s1⟩:=scale_let X Y lX lY _ zX zY
 obtain ⟨U1,lU1,H2,s2⟩:=scale_let U V lU lV _ zU zV
 have s3:=scale_n 0 1 (by decide) (by decide)
 rw [show 0 * 1 % P = 0 by rw [Nat.zero_mul,Nat.zero_mod]] at s3
 generalize ownP A B = p at *
 generalize ownP M N = q at *
 obtain ⟨RX,RY,hR⟩:∃ a b,pv (padd (pmul k1 p) (pmul k2 q)) = pc a b:=⟨_,_,rfl⟩
 have hPt:=fun (A B M N:Nat) lA lB lM lN h1 (w:World) hI=>point_any A B M N lA lB lM lN (padd (pmul k1 p) (pmul k2 q)) h1 w hI
 rw [hR] at hPt ⊢
 clear hR eX eY eU eV zX zY zU zV
 replace H1:=Away.mk H1
 replace H2:=Away.mk H2
 go_enter Tryz.func34,Tryz.ntmps34
 go_upto_region 1 with (refine wpList_alloc_row rfl 44 rfl _ zPw ?_)
 try simp only [Act.put,stA,st0,st1,alloc_size,h2]
 clear h2
 replace h:=h.drew
 refine wp_region_inv (by kernel_rfl) (fun a0 l b w'=>∃ (l0 l1 l2 l3 l4 l5 l6 l7 l8 l9 l10 l11 l12 l13:Bool) (g9 g10 g11:Nat) ,l = #[l0,l1,l2,l3,l4,l5,l6,l7,l8,l9,l10,l11,l12,l13] ∧ b = putsA a0 [(13,l0,.agg (pc A B).toArray,undef),(14,l1,.agg (pc X Y).toArray,undef),(15,l2,.agg (sc X Y X1 1).toArray,undef),(16,l3,.agg (pc M N).toArray,undef),(17,l4,.agg (pc U V).toArray,undef),(18,l5,.agg (sc U V U1 1).toArray,undef),(19,l6,.agg (pc 0 1).toArray,undef),(20,l7,.agg (sc 0 1 0 1).toArray,undef),(9,l8,.pointer (some ⟨g9,0,none⟩),undef),(10,l9,.pointer (some ⟨g10,0,none⟩),undef),(11,l10,.pointer (some ⟨g11,0,none⟩),undef)] ∧ Fr w w' (opt [(true,(w.heap.size,32,ec k1)),(true,((w.heap.size + 1),44,pc A B)),(true,((w.heap.size + 1 + 1),32,ec k2)),(true,((w.heap.size + 1 + 1 + 1),44,pc M N)),(true,((w.heap.size + 1 + 1 + 1 + 1),44,pc 0 0)),(l8,(g9,81,bif l11 then sc X Y X1 1 else sc 0 0 0 0)),(l9,(g10,81,bif l12 then sc U V U1 1 else sc 0 0 0 0)),(l10,(g11,81,bif l13 then sc 0 1 0 1 else sc 0 0 0 0))]) ∧ (l11 = true → l8 = true) ∧ (l12 = true → l9 = true) ∧ (l13 = true → l10 = true)) ?start ?step ?rest
 case start=>exact ⟨false,false,false,false,false,false,false,false,false,false,false,false,false,false,0,0,0,by kernel_rfl,by kernel_rfl,h,(fun e=>by cases e),(fun e=>by cases e),(fun e=>by cases e)⟩
 case step =>
  clear h
  intro l b w' hI i hi
  obtain ⟨l0,l1,l2,l3,l4,l5,l6,l7,l8,l9,l10,l11,l12,l13,g9,g10,g11,rfl,rfl,h,hc11,hc12,hc13⟩:=hI
  have hlt:i < 14:=ready_lt hi
  obtain rfl | rfl | rfl | rfl | rfl | rfl | rfl | rfl | rfl | rfl | rfl | rfl | rfl | rfl:=(by omega:i = 0 ∨ i = 1 ∨ i = 2 ∨ i = 3 ∨ i = 4 ∨ i = 5 ∨ i = 6 ∨ i = 7 ∨ i = 8 ∨ i = 9 ∨ i = 10 ∨ i = 11 ∨ i = 12 ∨ i = 13)
  all_goals (obtain ⟨hn,hd⟩:=rin hi rfl;cases hn;(repeat (obtain ⟨hn,hd⟩:=hd;cases hn));clear hi hlt hd;refine wpOp_inv rfl rfl (fun K hK=>?_);simp only [putsA,Act.put,stA,st0,st1,cond_true,cond_false] at h ⊢)
  ·refine wp_value (.agg (pc A B).toArray) (exec_load_W 44 _ rfl rfl (h.rowo (k:=1) rfl) Tryz.underlying44 rfl (iP _ _)) ?_
   refine hK.out _ _ ⟨_,_,_,_,_,_,_,_,_,_,_,_,_,_,_,_,_,rfl,by kernel_rfl,h,?_,?_,?_⟩ <;> first | assumption | exact fun _=>rfl | exact nofun
  ·go_simp
   refine callOK (co _ (hE.below h.bel)) h ?_
   clear h
   rintro _ wn rfl h
   refine hK.out _ _ ⟨_,_,_,_,_,_,_,_,_,_,_,_,_,_,_,_,_,rfl,by kernel_rfl,h,?_,?_,?_⟩ <;> first | assumption | exact fun _=>rfl | exact nofun
  ·go_simp
   refine callOK (s1 _ (hP.below h.bel)) h ?_
   clear h
   rintro _ wn rfl h
   refine hK.out _ _ ⟨_,_,_,_,_,_,_,_,_,_,_,_,_,_,_,_,_,rfl,by kernel_rfl,h,?_,?_,?_⟩ <;> first | assumption | exact fun _=>rfl | exact nofun
  ·refine wp_value (.agg (pc M N).toArray) (exec_load_W 44 _ rfl rfl (h.rowo (k:=3) rfl) Tryz.underlying44 rfl (iP _ _)) ?_
   refine hK.out _ _ ⟨_,_,_,_,_,_,_,_,_,_,_,_,_,_,_,_,_,rfl,by kernel_rfl,h,?_,?_,?_⟩ <;> first | assumption | exact fun _=>rfl | exact nofun
  ·go_simp
   refine callOK (cu _ (hE.below h.bel)) h ?_
   clear h
   rintro _ wn rfl h
   refine hK.out _ _ ⟨_,_,_,_,_,_,_,_,_,_,_,_,_,_,_,_,_,rfl,by kernel_rfl,h,?_,?_,?_⟩ <;> first | assumption | exact fun _=>rfl | exact nofun
  ·go_simp
   refine callOK (s2 _ (hP.below h.bel)) h ?_
   clear h
   rintro _ wn rfl h
   refine hK.out _ _ ⟨_,_,_,_,_,_,_,_,_,_,_,_,_,_,_,_,_,rfl,by kernel_rfl,h,?_,?_,?_⟩ <;> first | assumption | exact fun _=>rfl | exact nofun
  ·go_simp
   refine callOK (zero_el _) h ?_
   clear h
   rintro _ wn rfl h
   refine hK.out _ _ ⟨_,_,_,_,_,_,_,_,_,_,_,_,_,_,_,_,_,rfl,by kernel_rfl,h,?_,?_,?_⟩ <;> first | assumption | exact fun _=>rfl | exact nofun
  ·go_simp
   refine callOK (s3 _ (hP.below h.bel)) h ?_
   clear h
   rintro _ wn rfl h
   refine hK.out _ _ ⟨_,_,_,_,_,_,_,_,_,_,_,_,_,_,_,_,_,rfl,by kernel_rfl,h,?_,?_,?_⟩ <;> first | assumption | exact fun _=>rfl | exact nofun
  ·obtain rfl:l11 = false:=by cases l11 with | false=>rfl | true=>exact absurd (hc11 rfl) (by decide)
   simp only [cond_false] at h ⊢
   refine wp_alloc_R 81 rfl (sc 0 0 0 0) zSw ?_
   obtain ⟨gn,hgq,hq⟩:=h.on (k:=5) rfl 81 (sc 0 0 0 0)
   rw [hgq]
   refine hK.out _ _ ⟨_,_,_,_,_,_,_,_,_,_,_,_,_,_,_,_,_,rfl,by kernel_rfl,hq,?_,?_,?_⟩ <;> first | assumption | exact fun _=>rfl | exact nofun
  ·obtain rfl:l12 = false:=by cases l12 with | false=>rfl | true=>exact absurd (hc12 rfl) (by decide)
   simp only [cond_false] at h ⊢
   refine wp_alloc_R 81 rfl (sc 0 0 0 0) zSw ?_
   obtain ⟨gn,hgq,hq⟩:=h.on (k:=6) rfl 81 (sc 0 0 0 0)
   rw [hgq]
   refine hK.out _ _ ⟨_,_,_,_,_,_,_,_,_,_,_,_,_,_,_,_,_,rfl,by kernel_rfl,hq,?_,?_,?_⟩ <;> first | assumption | exact fun _=>rfl | exact nofun
  ·obtain rfl:l13 = false:=by cases l13 with | false=>rfl | true=>exact absurd (hc13 rfl) (by decide)
   simp only [cond_false] at h ⊢
   refine wp_alloc_R 81 rfl (sc 0 0 0 0) zSw ?_
   obtain ⟨gn,hgq,hq⟩:=h.on (k:=7) rfl 81 (sc 0 0 0 0)
   rw [hgq]
   refine hK.out _ _ ⟨_,_,_,_,_,_,_,_,_,_,_,_,_,_,_,_,_,rfl,by kernel_rfl,hq,?_,?_,?_⟩ <;> first | assumption | exact fun _=>rfl | exact nofun
  ·refine wp_store_R 81 _ _ rfl _ (sc X Y X1 1) rfl rfl (h.rowo (k:=5) rfl) (iS _ _ _ _) rfl (sc_all _ _ _ _) ?_
   intro wz q hg hz
   replace h:=h.puto (k:=5) rfl q hg
   refine hK.out _ _ ⟨_,_,_,_,_,_,_,_,_,_,_,_,_,_,_,_,_,rfl,by kernel_rfl,h,?_,?_,?_⟩ <;> first | assumption | exact fun _=>rfl | exact nofun
  ·refine wp_store_R 81 _ _ rfl _ (sc U V U1 1) rfl rfl (h.rowo (k:=6) rfl) (iS _ _ _ _) rfl (sc_all _ _ _ _) ?_
   intro wz q hg hz
   replace h:=h.puto (k:=6) rfl q hg
   refine hK.out _ _ ⟨_,_,_,_,_,_,_,_,_,_,_,_,_,_,_,_,_,rfl,by kernel_rfl,h,?_,?_,?_⟩ <;> first | assumption | exact fun _=>rfl | exact nofun
  ·refine wp_store_R 81 _ _ rfl _ (sc 0 1 0 1) rfl rfl (h.rowo (k:=7) rfl) (iS _ _ _ _) rfl (sc_all _ _ _ _) ?_
   intro wz q hg hz
   replace h:=h.puto (k:=7) rfl q hg
   refine hK.out _ _ ⟨_,_,_,_,_,_,_,_,_,_,_,_,_,_,_,_,_,rfl,by kernel_rfl,h,?_,?_,?_⟩ <;> first | assumption | exact fun _=>rfl | exact nofun
 case rest =>
  clear h
  intro l b w' hI hr
  obtain ⟨l0,l1,l2,l3,l4,l5,l6,l7,l8,l9,l10,l11,l12,l13,g9,g10,g11,rfl,rfl,h,hc11,hc12,hc13⟩:=hI
  cases rall hr rfl (by rfl)
  clear hr hc11 hc12 hc13
  simp only [putsA,Act.put,stA,st0,st1,cond_true]
  replace h:Fr w w' [(w.heap.size,32,ec k1),((w.heap.size + 1),44,pc A B),((w.heap.size + 1 + 1),32,ec k2),((w.heap.size + 1 + 1 + 1),44,pc M N),((w.heap.size + 1 + 1 + 1 + 1),44,pc 0 0),(g9,81,sc X Y X1 1),(g10,81,sc U V U1 1),(g11,81,sc 0 1 0 1)]:=h
  clear co cu s1 s2 s3
  have hw:=h
  go_wp2
  go_loopw [21] (fun v21 wr=>∃ (n X3 Y3 U3 K3:Nat),n ≤ 256 ∧ v21 = .int .i64 (n:Int) ∧ Fr w wr [(w.heap.size,32,ec k1),((w.heap.size + 1),44,pc A B),((w.heap.size + 1 + 1),32,ec k2),((w.heap.size + 1 + 1 + 1),44,pc M N),((w.heap.size + 1 + 1 + 1 + 1),44,pc 0 0),(g9,81,sc X Y X1 1),(g10,81,sc U V U1 1),(g11,81,sc X3 Y3 U3 K3)] ∧ X3 < 115792089237316195423570985008687907853269984665640564039457584007913129639936 ∧ Y3 < 115792089237316195423570985008687907853269984665640564039457584007913129639936 ∧ U3 < 115792089237316195423570985008687907853269984665640564039457584007913129639936 ∧ K3 < 115792089237316195423570985008687907853269984665640564039457584007913129639936 ∧ Away (Sc (padd (pmul (k1 / 2 ^ (256 - n)) p) (pmul (k2 / 2 ^ (256 - n)) q)) (z X3) (z Y3) (z U3) (z K3))) (fun v21 _=>(256 - intOf v21).toNat)
  case atStart=>exact ⟨0,0,1,0,1,Nat.zero_le _,rfl,h,by decide,by decide,by decide,by decide,⟨by rw [Nat.sub_zero,Nat.div_eq_of_lt (show k1 < 2 ^ 256 from lk1),Nat.div_eq_of_lt (show k2 < 2 ^ 256 from lk2)];show Sc (padd .zero .zero) _ _ _ _;rw [E.padd_zero];exact Sc.one .zero⟩⟩
  case round =>
   clear h hw
   obtain ⟨n,X3,Y3,U3,K3,hn,rfl,h,lX3,lY3,lU3,lK3,HR⟩:=hrel
   by_cases hlt:n < 256
   ·obtain ⟨m,hm⟩:∃ m,255 - n = m:=⟨_,rfl⟩
    have hm256:m < 256:=by omega
    have em:256 - n = m + 1:=by omega
    have wm:IntKind.i64.wrap (255 - (n:Int)) = (m:Int):=by rw [IntWalk.i64_in _ ⟨by omega,by omega⟩];omega
    have wn:IntKind.i64.wrap ((n:Int) + 1) = (n:Int) + 1:=by rw [IntWalk.i64_in _ ⟨by omega,by omega⟩]
    have dlt:((n:Int) < 256):=by omega
    have bk1:=fun w=>ebit_el k1 m lk1 hm256 w
    have bk2:=fun w=>ebit_el k2 m lk2 hm256 w
    have s1:=half_step' k1 m
    have s2:=half_step' k2 m
    obtain ⟨c1,hc1⟩:∃ c,decide (k1 / 2 ^ m % 2 = 1) = c:=⟨_,rfl⟩
    obtain ⟨c2,hc2⟩:∃ c,decide (k2 / 2 ^ m % 2 = 1) = c:=⟨_,rfl⟩
    rw [hc1] at bk1
    rw [hc2] at bk2
    have E1:Away (∀ b,c1 = b → k1 / 2 ^ m = 2 * (k1 / 2 ^ (m + 1)) + (bif b then 1 else 0)):=⟨fun b e=>by
     subst e
     cases hb:c1
     ·have:=of_decide_eq_false (hc1.trans hb);simp only [cond_false];omega
     ·have:=of_decide_eq_true (hc1.trans hb);simp only [cond_true];omega⟩
    have E2':∀ b,c2 = b → k2 / 2 ^ m = 2 * (k2 / 2 ^ (m + 1)) + (bif b then 1 else 0):=fun b e=>by
     subst e
     cases hb:c2
     ·have:=of_decide_eq_false (hc2.trans hb);simp only [cond_false];omega
     ·have:=of_decide_eq_true (hc2.trans hb);simp only [cond_true];omega
    have E2:Away (∀ {b},c2 = b → k2 / 2 ^ m = 2 * (k2 / 2 ^ (m + 1)) + (bif b then 1 else 0)):=⟨fun {b} e=>E2' b e⟩
    rw [em] at HR
    replace hm:=Away.mk hm
    replace em:=Away.mk em
    clear s1 s2 hc1 hc2 E2'
    go_wp2_with (first | refine wpList_load_row rfl 81 _ rfl _ rfl _ _ _ _ (h.row (i:=7) rfl) Tryz.underlying81 rfl (iS _ _ _ _) ?_ | refine wpList_load_row rfl 81 _ rfl _ rfl _ _ _ _ (h.row (i:=7) rfl) Tryz.underlying81 rfl (iS _ _ _ _) ?_)
    refine (eplus_any X3 Y3 U3 K3 X3 Y3 U3 K3 lX3 lY3 lU3 lK3 lX3 lY3 lU3 lK3 _ _ HR.out HR.out _ (hE.below h.bel)).mono ?_
    rintro _ wn ⟨⟨A3,B3,M3,N3,rfl,lA3,lB3,lM3,lN3,hcHD⟩,hb⟩
    replace h:=h.below hb
    have HD:=Away.mk hcHD
    clear hb hcHD
    go_upto_region 6 with (refine wpList_store_R rfl 81 _ _ rfl _ (sc A3 B3 M3 N3) rfl rfl (h.row (i:=7) rfl) (iS _ _ _ _) rfl (sc_all _ _ _ _) ?_;intro wz q hg hz)
    replace h:Fr w wz [(w.heap.size,32,ec k1),((w.heap.size + 1),44,pc A B),((w.heap.size + 1 + 1),32,ec k2),((w.heap.size + 1 + 1 + 1),44,pc M N),((w.heap.size + 1 + 1 + 1 + 1),44,pc 0 0),(g9,81,sc X Y X1 1),(g10,81,sc U V U1 1),(g11,81,sc A3 B3 M3 N3)]:=h.put (i:=7) rfl q hg
    clear q hg hz
    have HD2:Away (Sc (padd (pmul (2 * (k1 / 2 ^ (m + 1))) p) (pmul (2 * (k2 / 2 ^ (m + 1))) q)) (z A3) (z B3) (z M3) (z N3)):=⟨by rw [← twice_sum];exact HD.out⟩
    clear HD HR
    go_wp2_with (refine wpList_load_row rfl 32 _ rfl _ rfl _ _ _ _ (h.row (i:=0) rfl) Tryz.underlying32 rfl (ie4 _) ?_)
    refine (bk1 _).mono ?_
    rintro _ wn ⟨rfl,hb⟩
    replace h:=h.below hb
    clear hb
    cases c1
    ·have HE:Away (Sc (padd (pmul (k1 / 2 ^ m) p) (pmul (2 * (k2 / 2 ^ (m + 1))) q)) (z A3) (z B3) (z M3) (z N3)):=⟨by rw [E1.out _ rfl];exact HD2.out⟩
     go_upto_region 8 with fail
     go_wp2_with (refine wpList_load_row rfl 32 _ rfl _ rfl _ _ _ _ (h.row (i:=2) rfl) Tryz.underlying32 rfl (ie4 _) ?_)
     refine (bk2 _).mono ?_
     rintro _ wn ⟨rfl,hb⟩
     replace h:=h.below hb
     clear hb
     cases c2
     ·have HZ:Away (Sc (padd (pmul (k1 / 2 ^ m) p) (pmul (k2 / 2 ^ m) q)) (z A3) (z B3) (z M3) (z N3)):=⟨by rw [E2.out rfl];exact HE.out⟩
      go_wp2
      go_roundw
      case rel=>exact ⟨n + 1,A3,B3,M3,N3,by omega,by simp,h,lA3,lB3,lM3,lN3,⟨by rw [show 256 - (n + 1) = m by have:=hm.out;omega];exact HZ.out⟩⟩
      case measure=>simp [intOf] <;> omega
     ·go_wp2_with (first | refine wpList_load_row rfl 81 _ rfl _ rfl _ _ _ _ (h.row (i:=7) rfl) Tryz.underlying81 rfl (iS _ _ _ _) ?_ | refine wpList_load_row rfl 81 _ rfl _ rfl _ _ _ _ (h.row (i:=6) rfl) Tryz.underlying81 rfl (iS _ _ _ _) ?_)
      refine (eplus_any A3 B3 M3 N3 U V U1 1 lA3 lB3 lM3 lN3 lU lV lU1 (by decide) _ _ HE.out H2.out _ (hE.below h.bel)).mono ?_
      rintro _ wn ⟨⟨A5,B5,M5,N5,rfl,lA5,lB5,lM5,lN5,hcHS⟩,hb⟩
      replace h:=h.below hb
      have HS:=Away.mk hcHS
      clear hb hcHS
      go_upto_region 10 with (refine wpList_store_R rfl 81 _ _ rfl _ (sc A5 B5 M5 N5) rfl rfl (h.row (i:=7) rfl) (iS _ _ _ _) rfl (sc_all _ _ _ _) ?_;intro wz q hg hz)
      replace h:Fr w wz [(w.heap.size,32,ec k1),((w.heap.size + 1),44,pc A B),((w.heap.size + 1 + 1),32,ec k2),((w.heap.size + 1 + 1 + 1),44,pc M N),((w.heap.size + 1 + 1 + 1 + 1),44,pc 0 0),(g9,81,sc X Y X1 1),(g10,81,sc U V U1 1),(g11,81,sc A5 B5 M5 N5)]:=h.put (i:=7) rfl q hg
      clear q hg hz
      have HZ:Away (Sc (padd (pmul (k1 / 2 ^ m) p) (pmul (k2 / 2 ^ m) q)) (z A5) (z B5) (z M5) (z N5)):=⟨by rw [E2.out rfl,cond_true,E.pmul_add _ _ 1,E.pmul_one,← E.padd_assoc];exact HS.out⟩
      go_wp2
      go_roundw
      case rel=>exact ⟨n + 1,A5,B5,M5,N5,by omega,by simp,h,lA5,lB5,lM5,lN5,⟨by rw [show 256 - (n + 1) = m by have:=hm.out;omega];exact HZ.out⟩⟩
      case measure=>simp [intOf] <;> omega
    ·go_wp2_with (first | refine wpList_load_row rfl 81 _ rfl _ rfl _ _ _ _ (h.row (i:=7) rfl) Tryz.underlying81 rfl (iS _ _ _ _) ?_ | refine wpList_load_row rfl 81 _ rfl _ rfl _ _ _ _ (h.row (i:=5) rfl) Tryz.underlying81 rfl (iS _ _ _ _) ?_)
     refine (eplus_any A3 B3 M3 N3 X Y X1 1 lA3 lB3 lM3 lN3 lX lY lX1 (by decide) _ _ HD2.out H1.out _ (hE.below h.bel)).mono ?_
     rintro _ wn ⟨⟨A4,B4,M4,N4,rfl,lA4,lB4,lM4,lN4,hcHF⟩,hb⟩
     replace h:=h.below hb
     have HF:=Away.mk hcHF
     clear hb hcHF
     go_upto_region 8 with (refine wpList_store_R rfl 81 _ _ rfl _ (sc A4 B4 M4 N4) rfl rfl (h.row (i:=7) rfl) (iS _ _ _ _) rfl (sc_all _ _ _ _) ?_;intro wz q hg hz)
     replace h:Fr w wz [(w.heap.size,32,ec k1),((w.heap.size + 1),44,pc A B),((w.heap.size + 1 + 1),32,ec k2),((w.heap.size + 1 + 1 + 1),44,pc M N),((w.heap.size + 1 + 1 + 1 + 1),44,pc 0 0),(g9,81,sc X Y X1 1),(g10,81,sc U V U1 1),(g11,81,sc A4 B4 M4 N4)]:=h.put (i:=7) rfl q hg
     clear q hg hz
     have HE:Away (Sc (padd (pmul (k1 / 2 ^ m) p) (pmul (2 * (k2 / 2 ^ (m + 1))) q)) (z A4) (z B4) (z M4) (z N4)):=⟨by rw [E1.out _ rfl,show (bif true then 1 else 0) = 1 from rfl,← sum_first];exact HF.out⟩
     go_wp2_with (refine wpList_load_row rfl 32 _ rfl _ rfl _ _ _ _ (h.row (i:=2) rfl) Tryz.underlying32 rfl (ie4 _) ?_)
     refine (bk2 _).mono ?_
     rintro _ wn ⟨rfl,hb⟩
     replace h:=h.below hb
     clear hb
     cases c2
     ·have HZ:Away (Sc (padd (pmul (k1 / 2 ^ m) p) (pmul (k2 / 2 ^ m) q)) (z A4) (z B4) (z M4) (z N4)):=⟨by rw [E2.out rfl];exact HE.out⟩
      go_wp2
      go_roundw
      case rel=>exact ⟨n + 1,A4,B4,M4,N4,by omega,by simp,h,lA4,lB4,lM4,lN4,⟨by rw [show 256 - (n + 1) = m by have:=hm.out;omega];exact HZ.out⟩⟩
      case measure=>simp [intOf] <;> omega
     ·go_wp2_with (first | refine wpList_load_row rfl 81 _ rfl _ rfl _ _ _ _ (h.row (i:=7) rfl) Tryz.underlying81 rfl (iS _ _ _ _) ?_ | refine wpList_load_row rfl 81 _ rfl _ rfl _ _ _ _ (h.row (i:=6) rfl) Tryz.underlying81 rfl (iS _ _ _ _) ?_)
      refine (eplus_any A4 B4 M4 N4 U V U1 1 lA4 lB4 lM4 lN4 lU lV lU1 (by decide) _ _ HE.out H2.out _ (hE.below h.bel)).mono ?_
      rintro _ wn ⟨⟨A5,B5,M5,N5,rfl,lA5,lB5,lM5,lN5,hcHS⟩,hb⟩
      replace h:=h.below hb
      have HS:=Away.mk hcHS
      clear hb hcHS
      go_upto_region 10 with (refine wpList_store_R rfl 81 _ _ rfl _ (sc A5 B5 M5 N5) rfl rfl (h.row (i:=7) rfl) (iS _ _ _ _) rfl (sc_all _ _ _ _) ?_;intro wz q hg hz)
      replace h:Fr w wz [(w.heap.size,32,ec k1),((w.heap.size + 1),44,pc A B),((w.heap.size + 1 + 1),32,ec k2),((w.heap.size + 1 + 1 + 1),44,pc M N),((w.heap.size + 1 + 1 + 1 + 1),44,pc 0 0),(g9,81,sc X Y X1 1),(g10,81,sc U V U1 1),(g11,81,sc A5 B5 M5 N5)]:=h.put (i:=7) rfl q hg
      clear q hg hz
      have HZ:Away (Sc (padd (pmul (k1 / 2 ^ m) p) (pmul (k2 / 2 ^ m) q)) (z A5) (z B5) (z M5) (z N5)):=⟨by rw [E2.out rfl,cond_true,E.pmul_add _ _ 1,E.pmul_one,← E.padd_assoc];exact HS.out⟩
      go_wp2
      go_roundw
      case rel=>exact ⟨n + 1,A5,B5,M5,N5,by omega,by simp,h,lA5,lB5,lM5,lN5,⟨by rw [show 256 - (n + 1) = m by have:=hm.out;omega];exact HZ.out⟩⟩
      case measure=>simp [intOf] <;> omega
   ·have hn0:n = 256:=by omega
    have dlt:¬ ((n:Int) < 256):=by omega
    rw [hn0,Nat.sub_self,Nat.pow_zero,Nat.div_one,Nat.div_one] at HR
    replace hn0:=Away.mk hn0
    go_wp2_with (refine wpList_load_row rfl 81 _ rfl _ rfl _ _ _ _ (h.row (i:=7) rfl) Tryz.underlying81 rfl (iS _ _ _ _) ?_)
    refine (hPt X3 Y3 U3 K3 lX3 lY3 lU3 lK3 HR.out _ (hI.below h.bel)).mono ?_
    rintro _ wn ⟨rfl,hb⟩
    replace h:=h.below hb
    clear hb
    go_wp2_with (refine wpList_store_R rfl 44 _ _ rfl _ (pc RX RY) rfl rfl (h.row (i:=4) rfl) (iP _ _) rfl (pc_all _ _) ?_;intro wz q hg hz)
    have r4:Row wz (w.heap.size + 1 + 1 + 1 + 1) 44 (pc RX RY):=q
    have hbel:=(h.put (i:=4) rfl q hg).bel
    exact result_row Tryz.results34 rfl r4 Tryz.underlying44 rfl (iP _ _) rfl ⟨rfl,hbel⟩
end Go.Proofs.YtmjimilhomabfaaGreatDoor.F
