/-
 The document's Mul; over this seat's translation. Conditions: each as it says.
-/
import Derived.Test.YtmjimilhomabfaaGreatDoorE13a
import Derived.Test.YtmjimilhomabfaaGreatDoorEdD
namespace Go.Proofs.YtmjimilhomabfaaGreatDoor.F
open Go.RowKit
set_option linter.unusedVariables false
set_option maxRecDepth 10000
open E (z z_val z_same z_add z_mul z_sub z_inv z_mod z_of dd Pt padd pneg pmul iv ax ay tadd)
theorem half_step (k m:Nat):k / 2 ^ m = 2 * (k / 2 ^ (m + 1)) + k / 2 ^ m % 2:=by
 rw [Nat.pow_succ,← Nat.div_div_eq_div_mul];omega
theorem rep_out {p:Pt} {x y c:E.Z} (h:E.Rep p (x,y,c)):x * iv c = p.x ∧ y * iv c = p.y:=by
 obtain ⟨h1,h2,h3⟩:=h
 have e:=E.iv_ok h1
 simp only at h2 h3 e
 rw [h2,h3]
 generalize iv c = j at *
 generalize p.x = a
 generalize p.y = b
 exact ⟨by rw [Fin.mul_assoc,e,Fin.mul_one],by rw [Fin.mul_assoc,e,Fin.mul_one]⟩
set_option maxHeartbeats 8000000 in
theorem mul13_any (k0 A B:Nat) (lk0:k0 < 115792089237316195423570985008687907853269984665640564039457584007913129639936) (lA:A < 115792089237316195423570985008687907853269984665640564039457584007913129639936) (lB:B < 115792089237316195423570985008687907853269984665640564039457584007913129639936) (w:World):Calls Tryz.prog 21 #[.agg (ec k0).toArray,.agg (pc A B).toArray] w fun e w'=>e = .returned (.agg (pv (pmul k0 (ownP A B))).toArray) ∧ Below w.heap.size w w':=by
 obtain ⟨w2,h2,h⟩:=Fr.three w 32 44 44 (ec k0) (pc A B) (pc 0 0)
 obtain ⟨X,Y,eX,eY,lX,lY,zX,zY,co⟩:=own13_let A B lA lB
 obtain ⟨p,hp⟩:∃ p,ownP A B = p:=⟨_,rfl⟩
 rw [hp] at zX zY
 have HQ:=Away.mk hp
 have HP:Away (E.Rep p (z X,z Y,z 1)):=⟨by rw [zX,zY];exact E.Rep.one p⟩
 have hxN:=wds_lo k0
 clear eX eY zX zY hp
 go_enter Tryz.func21,Tryz.ntmps21
 go_upto_region 1 with (refine wpList_alloc_row rfl 44 rfl _ zPw ?_)
 try simp only [Act.put,stA,st0,st1,alloc_size,h2]
 clear h2
 go_wp2_with (first | refine wpList_load_row rfl 44 _ rfl _ rfl _ _ _ _ (h.row (i:=1) rfl) Tryz.underlying44 rfl (iP _ _) ?_)
 refine callOK (co _) h ?_
 clear h
 rintro _ wn rfl h
 go_upto_region 2 with (first | (refine wpList_store_R rfl 44 _ _ rfl _ (pc X Y) rfl rfl (h.row (i:=1) rfl) (iP _ _) rfl (pc_all _ _) ?_;intro wz q hg hz))
 replace h:Fr w wz [(w.heap.size,32,ec k0),((w.heap.size + 1),44,pc X Y),((w.heap.size + 1 + 1),44,pc 0 0)]:=h.put (i:=1) rfl q hg
 clear q hg hz
 obtain ⟨g5,hgq,hq⟩:=h.more 3 63 (fc 0 0 0)
 replace hq:Fr w _ [(w.heap.size,32,ec k0),((w.heap.size + 1),44,pc X Y),((w.heap.size + 1 + 1),44,pc 0 0),(g5,63,fc 0 0 0)]:=hq
 go_upto_region 3 with (first | refine wpList_load_at rfl 32 _ rfl rfl (pc_x (h.row (i:=1) rfl)) rfl Tryz.underlying32 (ie4 _) ?_ | refine wpList_load_at rfl 32 _ rfl rfl (pc_y (h.row (i:=1) rfl)) rfl Tryz.underlying32 (ie4 _) ?_ | refine wpList_build_C rfl 32 _ rfl (ec 1) (by kernel_rfl) ?_ | refine wpList_build_C rfl 63 _ rfl (fc X Y 1) (by kernel_rfl) ?_ | refine wpList_alloc_row rfl 63 rfl _ zFw ?_ | (refine wpList_store_R rfl 63 _ _ rfl _ (fc X Y 1) (congrArg (fun g=>Value.pointer (some ⟨g,0,none⟩)) hgq) rfl (hq.row (i:=3) rfl) (iF _ _ _) rfl (fc_all _ _ _) ?_;intro wz q hg hz))
 replace h:Fr w wz [(w.heap.size,32,ec k0),((w.heap.size + 1),44,pc X Y),((w.heap.size + 1 + 1),44,pc 0 0),(g5,63,fc X Y 1)]:=hq.put (i:=3) rfl q hg
 try rw [hgq]
 clear q hg hz hq hgq
 obtain ⟨g6,hgq,hq⟩:=h.more 4 63 (fc 0 0 0)
 replace hq:Fr w _ [(w.heap.size,32,ec k0),((w.heap.size + 1),44,pc X Y),((w.heap.size + 1 + 1),44,pc 0 0),(g5,63,fc X Y 1),(g6,63,fc 0 0 0)]:=hq
 go_upto_region 4 with (first | refine wpList_build_C rfl 32 _ rfl (ec 1) (by kernel_rfl) ?_ | refine wpList_build_C rfl 63 _ rfl (fc 0 1 1) (bFr1 1 1) ?_ | refine wpList_alloc_row rfl 63 rfl _ zFw ?_ | (refine wpList_store_R rfl 63 _ _ rfl _ (fc 0 1 1) (congrArg (fun g=>Value.pointer (some ⟨g,0,none⟩)) hgq) rfl (hq.row (i:=4) rfl) (iF _ _ _) rfl (fc_all _ _ _) ?_;intro wz q hg hz))
 replace h:Fr w wz [(w.heap.size,32,ec k0),((w.heap.size + 1),44,pc X Y),((w.heap.size + 1 + 1),44,pc 0 0),(g5,63,fc X Y 1),(g6,63,fc 0 1 1)]:=hq.put (i:=4) rfl q hg
 try rw [hgq]
 clear q hg hz hq hgq
 clear co
 go_wp2
 go_loopw [7,8] (fun v7 i wr=>∃ (n U V W:Nat) (b:Bool),n ≤ 256 ∧ v7 = .bool b ∧ i = .int .i64 ((n:Int) - 1) ∧ Fr w wr [(w.heap.size,32,ec k0),((w.heap.size + 1),44,pc X Y),((w.heap.size + 1 + 1),44,pc 0 0),(g5,63,fc X Y 1),(g6,63,fc U V W)] ∧ U < 115792089237316195423570985008687907853269984665640564039457584007913129639936 ∧ V < 115792089237316195423570985008687907853269984665640564039457584007913129639936 ∧ W < 115792089237316195423570985008687907853269984665640564039457584007913129639936 ∧ Away (E.Rep (pmul (k0 / 2 ^ n) p) (z U,z V,z W)) ∧ Away (b = false → k0 / 2 ^ n = 0)) (fun _ i _=>(intOf i + 1).toNat)
 case atStart=>exact ⟨256,0,1,1,false,Nat.le_refl _,rfl,rfl,h,by decide,by decide,by decide,⟨by rw [Nat.div_eq_of_lt (show k0 < 2 ^ 256 from lk0)];exact E.Rep.zero⟩,⟨fun _=>Nat.div_eq_of_lt lk0⟩⟩
 case round =>
  clear h
  obtain ⟨n,U,V,W,b,hn,rfl,rfl,h,lU,lV,lW,HR,HB⟩:=hrel
  by_cases hp:0 < n
  ·obtain ⟨m,rfl⟩:∃ m,n = m + 1:=⟨n - 1,by omega⟩
   have em:(((m + 1:Nat):Int) - 1) = (m:Int):=by omega
   rw [em]
   have hm256:m < 256:=by omega
   have hm0:(0:Int) ≤ (m:Int):=by omega
   have dm:decide ((0:Int) ≤ (m:Int)) = true:=decide_eq_true hm0
   have wm:IntKind.i64.wrap ((m:Int) - 1) = (m:Int) - 1:=by rw [IntWalk.i64_in _ ⟨by omega,by omega⟩]
   clear em hn hp
   cases b
   ·have HR1:Away (E.Rep (pmul (2 * (k0 / 2 ^ (m + 1))) p) (z U,z V,z W)):=⟨by
     have e:=HB.out rfl
     have r:=HR.out
     rw [e] at r ⊢
     exact r⟩
    have HZ:=Away.mk (HB.out rfl)
    clear HB HR
    have c1:=(h.row (i:=0) rfl).cell (m / 64)
    rw [C_get .u64 (by rw [wds_length];omega)] at c1
    go_upto_region 10 with fail
    clear dm
    have bx:=hxN.getD (by decide) (m / 64)
    have hbt:=bit_of (A:=k0) (i:=m)
    rw [← wds_getD lk0] at hbt
    generalize (wds k0).getD (m / 64) 0 = x at *
    obtain ⟨qq,hqq⟩:∃ qq,m / 64 = qq:=⟨_,rfl⟩
    obtain ⟨r,hr⟩:∃ r,m % 64 = r:=⟨_,rfl⟩
    rw [hqq] at c1
    rw [hr] at hbt
    have dq:(m:Int).tdiv 64 = (qq:Int):=by rw [Int.tdiv_eq_ediv_of_nonneg (by omega)];omega
    have dq':(m:Int) / 64 = (qq:Int):=by omega
    have bq:(qq:Int) < 4:=by omega
    have dr:(m:Int).tmod 64 = (r:Int):=by rw [Int.tmod_eq_emod_of_nonneg (by omega)];omega
    have dr':(m:Int) % 64 = (r:Int):=by omega
    have br:(r:Int) < 64:=by omega
    have wr':IntKind.u64.wrap (r:Int) = (r:Int):=by rw [IntKind.wrap_u64];omega
    obtain ⟨y,hy⟩:∃ y,x / 2 ^ r = y:=⟨_,rfl⟩
    have ey:(x:Int) / 2 ^ r = (y:Int):=by rw [← hy];simp
    rw [hy] at hbt
    have hyl:y < 18446744073709551616:=by rw [← hy];exact Nat.lt_of_le_of_lt (Nat.div_le_self _ _) bx
    obtain ⟨u,hu⟩:∃ u,y % 2 = u:=⟨_,rfl⟩
    have eu:bits .and .u64 (y:Int) 1 = (u:Int):=by
     have:=u64_and_nat y 1 hyl (by decide)
     rw [show ((1:Nat):Int) = 1 from rfl] at this
     rw [this,Nat.and_one_is_mod,hu]
    rw [hu] at hbt
    clear hqq hr hy hyl bx hu
    by_cases h1:u = 1
    ·have du:((u:Int) == 1) = true:=by rw [beq_iff_eq];omega
     have HN:Away (k0 / 2 ^ m = 2 * (k0 / 2 ^ (m + 1)) + 1):=⟨by rw [half_step];omega⟩
     clear h1 hbt
     go_wp2_with (first | refine wpList_load_row rfl 63 _ rfl _ rfl _ _ _ _ (h.row (i:=4) rfl) Tryz.underlying63 rfl (iF _ _ _) ?_ | refine wpList_load_row rfl 63 _ rfl _ rfl _ _ _ _ (h.row (i:=3) rfl) Tryz.underlying63 rfl (iF _ _ _) ?_)
     refine (plus13_any U V W X Y 1 lU lV lW lX lY (by decide) _).mono ?_
     rintro _ wn4 ⟨⟨U9,V9,W9,rfl,lU9,lV9,lW9,e2⟩,hb⟩
     replace h:=h.below hb
     have HR2:Away (E.Rep (pmul (k0 / 2 ^ m) p) (z U9,z V9,z W9)):=⟨by
      rw [HN.out,E.pmul_add,E.pmul_one,e2]
      exact HR1.out.add HP.out⟩
     clear hb c1 HN e2
     go_wp2_with (refine wpList_store_R rfl 63 _ _ rfl _ (fc U9 V9 W9) rfl rfl (h.row (i:=4) rfl) (iF _ _ _) rfl (fc_all _ _ _) ?_;intro wz q hg hz)
     replace h:Fr w wz [(w.heap.size,32,ec k0),((w.heap.size + 1),44,pc X Y),((w.heap.size + 1 + 1),44,pc 0 0),(g5,63,fc X Y 1),(g6,63,fc U9 V9 W9)]:=h.put (i:=4) rfl q hg
     clear q hg hz
     go_roundw
     case rel=>exact ⟨m,U9,V9,W9,true,by omega,rfl,rfl,h,lU9,lV9,lW9,HR2,⟨fun h=>by cases h⟩⟩
     case measure=>simp [intOf] <;> omega
    ·have du:((u:Int) == 1) = false:=by rw [beq_eq_false_iff_ne];omega
     have HN:Away (k0 / 2 ^ m = 2 * (k0 / 2 ^ (m + 1))):=⟨by rw [half_step];omega⟩
     have HR2:Away (E.Rep (pmul (k0 / 2 ^ m) p) (z U,z V,z W)):=⟨by rw [HN.out];exact HR1.out⟩
     clear h1 hbt
     go_wp2
     go_roundw
     case rel=>exact ⟨m,U,V,W,false,by omega,rfl,rfl,h,lU,lV,lW,HR2,⟨fun e=>by have:=HZ.out;rw [HN.out];omega⟩⟩
     case measure=>simp [intOf] <;> omega
   ·clear HB
    go_wp2_with (first | refine wpList_load_row rfl 63 _ rfl _ rfl _ _ _ _ (h.row (i:=4) rfl) Tryz.underlying63 rfl (iF _ _ _) ?_)
    refine (plus13_any U V W U V W lU lV lW lU lV lW _).mono ?_
    rintro _ wn2 ⟨⟨U1,V1,W1,rfl,lU1,lV1,lW1,e1⟩,hb⟩
    replace h:=h.below hb
    have HR1:Away (E.Rep (pmul (2 * (k0 / 2 ^ (m + 1))) p) (z U1,z V1,z W1)):=⟨by
     rw [show 2 * (k0 / 2 ^ (m + 1)) = k0 / 2 ^ (m + 1) + k0 / 2 ^ (m + 1) by omega,E.pmul_add,e1]
     exact HR.out.add HR.out⟩
    clear hb HR e1
    go_upto_region 10 with (refine wpList_store_R rfl 63 _ _ rfl _ (fc U1 V1 W1) rfl rfl (h.row (i:=4) rfl) (iF _ _ _) rfl (fc_all _ _ _) ?_;intro wz q hg hz)
    replace h:Fr w wz [(w.heap.size,32,ec k0),((w.heap.size + 1),44,pc X Y),((w.heap.size + 1 + 1),44,pc 0 0),(g5,63,fc X Y 1),(g6,63,fc U1 V1 W1)]:=h.put (i:=4) rfl q hg
    clear q hg hz
    have c1:=(h.row (i:=0) rfl).cell (m / 64)
    rw [C_get .u64 (by rw [wds_length];omega)] at c1
    go_upto_region 10 with fail
    clear dm
    have bx:=hxN.getD (by decide) (m / 64)
    have hbt:=bit_of (A:=k0) (i:=m)
    rw [← wds_getD lk0] at hbt
    generalize (wds k0).getD (m / 64) 0 = x at *
    obtain ⟨qq,hqq⟩:∃ qq,m / 64 = qq:=⟨_,rfl⟩
    obtain ⟨r,hr⟩:∃ r,m % 64 = r:=⟨_,rfl⟩
    rw [hqq] at c1
    rw [hr] at hbt
    have dq:(m:Int).tdiv 64 = (qq:Int):=by rw [Int.tdiv_eq_ediv_of_nonneg (by omega)];omega
    have dq':(m:Int) / 64 = (qq:Int):=by omega
    have bq:(qq:Int) < 4:=by omega
    have dr:(m:Int).tmod 64 = (r:Int):=by rw [Int.tmod_eq_emod_of_nonneg (by omega)];omega
    have dr':(m:Int) % 64 = (r:Int):=by omega
    have br:(r:Int) < 64:=by omega
    have wr':IntKind.u64.wrap (r:Int) = (r:Int):=by rw [IntKind.wrap_u64];omega
    obtain ⟨y,hy⟩:∃ y,x / 2 ^ r = y:=⟨_,rfl⟩
    have ey:(x:Int) / 2 ^ r = (y:Int):=by rw [← hy];simp
    rw [hy] at hbt
    have hyl:y < 18446744073709551616:=by rw [← hy];exact Nat.lt_of_le_of_lt (Nat.div_le_self _ _) bx
    obtain ⟨u,hu⟩:∃ u,y % 2 = u:=⟨_,rfl⟩
    have eu:bits .and .u64 (y:Int) 1 = (u:Int):=by
     have:=u64_and_nat y 1 hyl (by decide)
     rw [show ((1:Nat):Int) = 1 from rfl] at this
     rw [this,Nat.and_one_is_mod,hu]
    rw [hu] at hbt
    clear hqq hr hy hyl bx hu
    by_cases h1:u = 1
    ·have du:((u:Int) == 1) = true:=by rw [beq_iff_eq];omega
     have HN:Away (k0 / 2 ^ m = 2 * (k0 / 2 ^ (m + 1)) + 1):=⟨by rw [half_step];omega⟩
     clear h1 hbt
     go_wp2_with (first | refine wpList_load_row rfl 63 _ rfl _ rfl _ _ _ _ (h.row (i:=4) rfl) Tryz.underlying63 rfl (iF _ _ _) ?_ | refine wpList_load_row rfl 63 _ rfl _ rfl _ _ _ _ (h.row (i:=3) rfl) Tryz.underlying63 rfl (iF _ _ _) ?_)
     refine (plus13_any U1 V1 W1 X Y 1 lU1 lV1 lW1 lX lY (by decide) _).mono ?_
     rintro _ wn4 ⟨⟨U9,V9,W9,rfl,lU9,lV9,lW9,e2⟩,hb⟩
     replace h:=h.below hb
     have HR2:Away (E.Rep (pmul (k0 / 2 ^ m) p) (z U9,z V9,z W9)):=⟨by
      rw [HN.out,E.pmul_add,E.pmul_one,e2]
      exact HR1.out.add HP.out⟩
     clear hb c1 HN e2
     go_wp2_with (refine wpList_store_R rfl 63 _ _ rfl _ (fc U9 V9 W9) rfl rfl (h.row (i:=4) rfl) (iF _ _ _) rfl (fc_all _ _ _) ?_;intro wz q hg hz)
     replace h:Fr w wz [(w.heap.size,32,ec k0),((w.heap.size + 1),44,pc X Y),((w.heap.size + 1 + 1),44,pc 0 0),(g5,63,fc X Y 1),(g6,63,fc U9 V9 W9)]:=h.put (i:=4) rfl q hg
     clear q hg hz
     go_roundw
     case rel=>exact ⟨m,U9,V9,W9,true,by omega,rfl,rfl,h,lU9,lV9,lW9,HR2,⟨fun h=>by cases h⟩⟩
     case measure=>simp [intOf] <;> omega
    ·have du:((u:Int) == 1) = false:=by rw [beq_eq_false_iff_ne];omega
     have HN:Away (k0 / 2 ^ m = 2 * (k0 / 2 ^ (m + 1))):=⟨by rw [half_step];omega⟩
     have HR2:Away (E.Rep (pmul (k0 / 2 ^ m) p) (z U1,z V1,z W1)):=⟨by rw [HN.out];exact HR1.out⟩
     clear h1 hbt
     go_wp2
     go_roundw
     case rel=>exact ⟨m,U1,V1,W1,true,by omega,rfl,rfl,h,lU1,lV1,lW1,HR2,⟨fun e=>by cases e⟩⟩
     case measure=>simp [intOf] <;> omega
  ·have HK:Away (n = 0):=⟨by omega⟩
   have en:((n:Int) - 1) = -1:=by omega
   rw [en]
   have HR1:Away (E.Rep (pmul k0 p) (z U,z V,z W)):=⟨by have r:=HR.out;rwa [HK.out,Nat.pow_zero,Nat.div_one] at r⟩
   obtain ⟨n1,en1,ln1,cn1⟩:=erInv W lW
   obtain ⟨n2,en2,ln2,cn2⟩:=erMul U n1 lU ln1
   obtain ⟨n3,en3,ln3,cn3⟩:=erMul V n1 lV ln1
   have HV:Away (pv (pmul k0 (ownP A B)) = pc n2 n3):=⟨by
    obtain ⟨e1,e2⟩:=rep_out HR1.out
    have ex:(pmul k0 p).x = z n2:=by rw [← e1,← en2.out,z_mul,← en1.out,z_inv]
    have ey:(pmul k0 p).y = z n3:=by rw [← e2,← en3.out,z_mul,← en1.out,z_inv]
    rw [HQ.out]
    unfold pv
    rw [ex,ey,z_valz (by rw [← en2.out];exact mod_lt_P _),z_valz (by rw [← en3.out];exact mod_lt_P _)]⟩
   clear HR HB HR1 hp hn en HQ HP
   go_wp2_with (first | refine wpList_load_at rfl 32 _ rfl rfl (fc_z (h.row (i:=4) rfl)) rfl Tryz.underlying32 (ie4 _) ?_)
   refine callOK (cn1 _) h ?_
   clear h
   rintro _ wn rfl h
   obtain ⟨g9,hgq,hq⟩:=h.more 5 32 (ec 0)
   replace hq:Fr w _ [(w.heap.size,32,ec k0),((w.heap.size + 1),44,pc X Y),((w.heap.size + 1 + 1),44,pc 0 0),(g5,63,fc X Y 1),(g6,63,fc U V W),(g9,32,ec 0)]:=hq
   go_upto_region 14 with (first | refine wpList_alloc_row rfl 32 rfl _ z4w ?_ | (refine wpList_store_R rfl 32 _ _ rfl _ (ec n1) (congrArg (fun g=>Value.pointer (some ⟨g,0,none⟩)) hgq) rfl (hq.row (i:=5) rfl) (ie4 _) rfl (ec_all _) ?_;intro wz q hg hz))
   replace h:Fr w wz [(w.heap.size,32,ec k0),((w.heap.size + 1),44,pc X Y),((w.heap.size + 1 + 1),44,pc 0 0),(g5,63,fc X Y 1),(g6,63,fc U V W),(g9,32,ec n1)]:=hq.put (i:=5) rfl q hg
   try rw [hgq]
   clear q hg hz hq hgq
   try simp only [Act.put,stA,st0,st1]
   replace h:=h.drew
   refine wp_region_noPanic ?_
   refine wp_region_held_drew (S:=fun w'=>Row w' g6 63 (fc U V W) ∧ Row w' g9 32 (ec n1)) (by kernel_rfl) ⟨h.row (i:=4) rfl,h.row (i:=5) rfl⟩ (fun _=>?_)
   refine tkg 0 rfl ?_
   simp only [Act.put,stA,st0,st1]
   refine tkL 1 (.agg (ec U).toArray) rfl (fun w hSw=>exec_load_at 32 _ rfl rfl (fc_x hSw.1) rfl Tryz.underlying32 (ie4 _)) ?_
   simp only [Act.put,stA,st0,st1]
   refine tkL 2 (.agg (ec n1).toArray) rfl (fun w hSw=>exec_load_W 32 _ rfl rfl hSw.2 Tryz.underlying32 rfl (ie4 _)) ?_
   simp only [Act.put,stA,st0,st1]
   refine tkg 4 rfl ?_
   simp only [Act.put,stA,st0,st1]
   refine tkL 5 (.agg (ec V).toArray) rfl (fun w hSw=>exec_load_at 32 _ rfl rfl (fc_y hSw.1) rfl Tryz.underlying32 (ie4 _)) ?_
   simp only [Act.put,stA,st0,st1]
   refine tkL 6 (.agg (ec n1).toArray) rfl (fun w hSw=>exec_load_W 32 _ rfl rfl hSw.2 Tryz.underlying32 rfl (ie4 _)) ?_
   simp only [Act.put,stA,st0,st1]
   refine ar1 3 rfl (fun K hK=>?_)
   go_simp
   refine callOK (cn2 _) h ?_
   clear h
   rintro _ wn rfl h
   refine hK.out _ _ ⟨h.row (i:=4) rfl,h.row (i:=5) rfl⟩ (fun _=>?_)
   clear hK K
   refine ar1 7 rfl (fun K hK=>?_)
   go_simp
   refine callOK (cn3 _) h ?_
   clear h
   rintro _ wn rfl h
   refine hK.out _ _ ⟨h.row (i:=4) rfl,h.row (i:=5) rfl⟩ (fun _=>?_)
   clear hK K
   refine tkL 8 (.agg (pc n2 n3).toArray) rfl (fun w hSw=>exec_build_C 44 _ rfl (pc n2 n3) (by kernel_rfl)) ?_
   simp only [Act.put,stA,st0,st1]
   refine ar1 9 rfl (fun K hK=>?_)
   refine wp_store_R 44 _ _ rfl _ (pc n2 n3) rfl rfl (h.row (i:=2) rfl) (iP _ _) rfl (pc_all _ _) ?_
   intro wz q hg hz
   replace h:Fr w wz [(w.heap.size,32,ec k0),((w.heap.size + 1),44,pc X Y),((w.heap.size + 1 + 1),44,pc n2 n3),(g5,63,fc X Y 1),(g6,63,fc U V W),(g9,32,ec n1)]:=h.put (i:=2) rfl q hg
   clear q hg hz
   refine hK.out _ _ ⟨h.row (i:=4) rfl,h.row (i:=5) rfl⟩ (fun _=>?_)
   clear hK K
   refine wpAnyH_done (by kernel_rfl) ?_ _
   refine NoPanic.normal ?_
   go_wp2
   exact result_row Tryz.results21 rfl (h.row (i:=2) rfl) Tryz.underlying44 rfl (iP _ _) rfl ⟨by rw [HV.out],h.bel⟩
end Go.Proofs.YtmjimilhomabfaaGreatDoor.F
