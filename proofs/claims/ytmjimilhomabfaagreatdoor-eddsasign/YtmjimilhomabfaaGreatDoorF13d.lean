/-
 Texts joined:  FldQ FldR FldS FldT FldX FldY
-/
import Derived.Test.YtmjimilhomabfaaGreatDoorF13b
import Derived.Test.YtmjimilhomabfaaGreatDoorF13c
namespace Go.Proofs.YtmjimilhomabfaaGreatDoor.F
open Go.RowKit
set_option linter.unusedVariables false
set_option maxRecDepth 10000
theorem H2.drewN {g:Nat} {w0 w:World} {us vs xs:List Value} (h:H2 g w0 w us vs xs) (n:Nat):H2 g w0 (w.drewN n) us vs xs:=⟨h.r1,h.r2,h.r3,below_drewN h.bel n,h.lt⟩
theorem H2.cell {g:Nat} {w0 w:World} {us vs xs:List Value} (h:H2 g w0 w us vs xs) {k i:Nat} (u:Value) (hk:g + 1 + 1 < k):H2 g w0 (w.setCell ⟨k,i,none⟩ u) us vs xs:=h.grown (grown_set w k i u) hk
theorem new_rowT {g:Nat} {w0 w:World} {us vs xs:List Value} (h:H2 g w0 w us vs xs) (t:TypeId) (zs:List Value):∃ g3:Nat,w.heap.size = g3 ∧ Row (w.alloc (.cells zs.toArray t)) g3 t zs ∧ g + 1 + 1 < g3 :=
 ⟨_,rfl,Row.new w _ _,h.lt⟩
theorem over_ok {M c N:Nat} (hM:M < 115792089237316195423570985008687907853269984665640564039457584007913129639936) (hc:c ≤ 38) (h:(M + 115792089237316195423570985008687907853269984665640564039457584007913129639936 * c) % P = N % P) :
  ((M + 38 * c) / 115792089237316195423570985008687907853269984665640564039457584007913129639936 = 1 → ((M + 38 * c) % 115792089237316195423570985008687907853269984665640564039457584007913129639936 + 38) % 115792089237316195423570985008687907853269984665640564039457584007913129639936 % P = N % P) ∧ (¬ (M + 38 * c) / 115792089237316195423570985008687907853269984665640564039457584007913129639936 = 1 → (M + 38 * c) % 115792089237316195423570985008687907853269984665640564039457584007913129639936 % P = N % P):=by
 obtain ⟨h1,h2,h3⟩:=fold_on hM hc h
 rw [fold_mod] at h1
 refine ⟨fun k=>?_,fun k=>?_⟩
 ·have h4:=h3 k
  rw [k] at h1
  rw [Nat.mod_eq_of_lt (show (M + 38 * c) % 115792089237316195423570985008687907853269984665640564039457584007913129639936 + 38 < 115792089237316195423570985008687907853269984665640564039457584007913129639936 by omega)]
  exact h1
 ·have h5:(M + 38 * c) / 115792089237316195423570985008687907853269984665640564039457584007913129639936 = 0:=by omega
  rw [h5] at h1
  exact h1
theorem refmore_el (A B:Nat) (hA:A < 115792089237316195423570985008687907853269984665640564039457584007913129639936) (hB:B < 115792089237316195423570985008687907853269984665640564039457584007913129639936) (w:World):Calls Tryz.prog 96 #[.agg (C .u64 (wds A)).toArray,.agg (C .u64 (wds B)).toArray] w fun e w'=>e = .returned (.tuple #[.agg (C .u64 (wds ((A + B) % 115792089237316195423570985008687907853269984665640564039457584007913129639936))).toArray,.bool (decide ((A + B) / 115792089237316195423570985008687907853269984665640564039457584007913129639936 = 1))]) ∧ Below w.heap.size w w':=refmore_any11 A B hA hB w
theorem refreduce_el (A:Nat) (hA:A < 115792089237316195423570985008687907853269984665640564039457584007913129639936) (w:World):Calls Tryz.prog 92 #[.agg (C .u64 (wds A)).toArray] w fun e w'=>e = .returned (.agg (C .u64 (wds (A % P))).toArray) ∧ Below w.heap.size w w':=refreduce_any A hA w
set_option maxHeartbeats 8000000 in
theorem frefmul_any (A B:Nat) (hA:A < 115792089237316195423570985008687907853269984665640564039457584007913129639936) (hB:B < 115792089237316195423570985008687907853269984665640564039457584007913129639936) (w:World):Calls Tryz.prog 50 #[el A,el B] w fun e w'=>e = .returned (el (A * B % P)) ∧ Below w.heap.size w w':=by
 obtain ⟨w4,h4,h⟩:=H2.begin w (C .u64 (wds A)) (C .u64 (wds B)) (C .u64 (Z 4))
 unfold el
 go_enter Tryz.func50,Tryz.ntmps50
 go_upto_region 1 with (refine wpList_alloc_row rfl 32 rfl _ z4 ?_)
 try simp only [Act.put,stA,st0,st1,alloc_size,h4]
 clear h4
 go_wp2_with (first | refine wpList_load_row rfl 32 _ rfl _ rfl _ _ _ _ h.r1 Tryz.underlying32 rfl (ie4 _) ?_ | refine wpList_load_row rfl 32 _ rfl _ rfl _ _ _ _ h.r2 Tryz.underlying32 rfl (ie4 _) ?_)
 refine (refproduct_any A B hA hB _).mono ?_
 rintro _ wn ⟨⟨p,rfl,lp,hp,hv⟩,hb⟩
 replace h:=h.below hb
 clear hb
 have HV:=Away.mk hv
 clear hv
 have hip:(C .u64 p).length = 16:=by rw [C_length,lp]
 have hi16:(Tryz.prog.info? 91).map (·.size) = some (C .u64 p).length:=by rw [hip];exact i16
 have hz16:(C .u64 (Z 16)).length = (C .u64 p).length:=by rw [hip];rfl
 obtain ⟨gd,hgd,qd,ld⟩:=new_rowT h 91 (C .u64 (Z 16))
 replace h:=h.alloc (.cells (C .u64 (Z 16)).toArray 91)
 go_upto_region 2 with (first | refine wpList_alloc_row rfl 91 rfl _ z16 ?_ | (refine wpList_store_R rfl 91 _ _ rfl _ (C .u64 p) (by rw [← hgd];rfl) rfl qd hi16 hz16 (C_allL _ _) ?_;intro w5 q1 hg hz))
 replace h:=h.grown hg ld
 try rw [hgd]
 clear qd hg hgd hz
 obtain ⟨ge,hge,qe,le⟩:=new_rowT h 86 (C .u64 (Z 8))
 have n1:=q1.lt
 rw [hge] at n1
 replace q1:=q1.alloc (.cells (C .u64 (Z 8)).toArray 86)
 replace h:=h.alloc (.cells (C .u64 (Z 8)).toArray 86)
 go_upto_region 3 with (first | refine wpList_alloc_row rfl 86 rfl _ z4' ?_ | refine wpList_build_Z rfl 86 rfl _ b8 ?_ | (refine wpList_store_R rfl 86 _ _ rfl _ (C .u64 (Z 8)) (by rw [← hge];rfl) rfl qe i8 rfl (C_allL _ _) ?_;intro w6 q2 hg hz))
 replace h:=h.grown hg le
 replace q1:=q1.grown hg (by simp;omega)
 try rw [hge]
 clear qe hg hge hz
 go_wp2
 go_loopw [7,8] (fun b i wr=>∃ k:Nat,k ≤ 8 ∧ i = .int .i64 k ∧ b = .int .u64 ((fld 4294967296 8 p k).2:Nat) ∧ Row wr gd 91 (C .u64 p) ∧ Row wr ge 86 (C .u64 ((fld 4294967296 8 p k).1 ++ Z (8 - k))) ∧ H2 w.heap.size w wr (C .u64 (wds A)) (C .u64 (wds B)) (C .u64 (Z 4))) (fun _ i _=>8 - (intOf i).toNat)
 case atStart=>exact ⟨0,Nat.zero_le _,rfl,rfl,q1,q2,h⟩
 case round =>
  clear q1 q2 h
  obtain ⟨k,hk,rfl,rfl,q1,q2,h⟩:=hrel
  by_cases hlt:k < 8
  ·have c1:=q1.cell k
   rw [C_get .u64 (by omega)] at c1
   have c2:=q1.cell (k + 8)
   rw [C_get .u64 (by omega)] at c2
   have c4:=q2.cell k
   have hlen:=fld_length 4294967296 8 p k
   rw [C_get .u64 (by simp [hlen,Z_length];omega)] at c4
   have hf:=q2.frozen k
   have b1:=hp.getD (by decide) k
   have b2:=hp.getD (by decide) (k + 8)
   have b3:=fld_le (n:=8) (by decide) hp k
   have HN:Away (fld 4294967296 8 p (k + 1) = ((fld 4294967296 8 p k).1 ++ [(p.getD (k + 8) 0 * 38 + p.getD k 0 + (fld 4294967296 8 p k).2) % 4294967296],(p.getD (k + 8) 0 * 38 + p.getD k 0 + (fld 4294967296 8 p k).2) / 4294967296)):=⟨rfl⟩
   have hki:(k:Int) < 8:=by omega
   have hk16:(k:Int) < 16:=by omega
   generalize p.getD k 0 = x at *
   generalize p.getD (k + 8) 0 = y at *
   generalize fld 4294967296 8 p k = ms at *
   obtain ⟨m,b⟩:=ms
   simp only at *
   generalize (m ++ Z (8 - k)).getD k 0 = u at *
   obtain ⟨n,hn⟩:∃ n,k + 8 = n:=⟨_,rfl⟩
   rw [hn] at c2
   have en:(8:Int) + (k:Int) = (n:Int):=by omega
   have wn':IntKind.i64.wrap (n:Int) = (n:Int):=by rw [IntWalk.i64_in _ ⟨by omega,by omega⟩]
   have wn2:IntKind.i64.wrap ((8:Int) + (k:Int)) = (n:Int):=by rw [en,wn']
   have bn:(n:Int) < 16:=by omega
   obtain ⟨s1,hs1⟩:∃ s1,b + x = s1:=⟨_,rfl⟩
   obtain ⟨s2,hs2⟩:∃ s2,y * 38 = s2:=⟨_,rfl⟩
   obtain ⟨t,ht⟩:∃ t,y * 38 + x + b = t:=⟨_,rfl⟩
   have e1:IntKind.u64.wrap ((b:Int) + (x:Int)) = (s1:Int):=by rw [IntKind.wrap_u64];omega
   have e2:IntKind.u64.wrap (38 * (y:Int)) = (s2:Int):=by rw [IntKind.wrap_u64];omega
   have e3:IntKind.u64.wrap ((s1:Int) + (s2:Int)) = (t:Int):=by rw [IntKind.wrap_u64];omega
   rw [ht] at HN
   have htl:t < 18446744073709551616:=by omega
   obtain ⟨z,hz⟩:∃ z,t % 4294967296 = z:=⟨_,rfl⟩
   obtain ⟨d,hd⟩:∃ d,t / 4294967296 = d:=⟨_,rfl⟩
   rw [hz,hd] at HN
   have e4:bits .and .u64 (t:Int) 4294967295 = (z:Int):=by
    have:=u64_and_nat t 4294967295 htl (by decide)
    rw [show ((4294967295:Nat):Int) = 4294967295 from rfl] at this
    rw [this,show (4294967295:Nat) = 2 ^ 32 - 1 from rfl,Nat.and_two_pow_sub_one_eq_mod,← hz]
   have e5:(t:Int) / 4294967296 = (d:Int):=by omega
   clear hn b1 b2 b3 hs1 hs2 ht htl hz hd
   go_wp2
   go_quiet (fail)
   obtain ⟨wx,hwn,q1,q2,h,c4,hf⟩:∃ wx:World,wr.drewN nq = wx ∧ Row wx gd 91 (C .u64 p) ∧ Row wx ge 86 (C .u64 (m ++ Z (8 - k))) ∧ H2 w.heap.size w wx (C .u64 (wds A)) (C .u64 (wds B)) (C .u64 (Z 4)) ∧ wx.cell? ⟨ge,k,none⟩ = some (.int .u64 (u:Int)) ∧ wx.frozen? ⟨ge,k,none⟩ = false:=⟨_,rfl,q1,q2,h.drewN nq,c4,hf⟩
   rw [hwn]
   clear hwn
   have m1:=q1.other (i:=k) (.int .u64 (z:Int)) (show gd ≠ ge by omega)
   have m2:=row_fill q2 hlen (by omega) z
   rw [show 8 - k - 1 = 8 - (k + 1) by omega] at m2
   have mh:=h.cell (k:=ge) (i:=k) (.int .u64 (z:Int)) le
   clear q1 q2 h
   go_wp2
   go_roundw
   case rel=>exact ⟨k + 1,by omega,by go_num,by rw [HN.out],m1,by rw [HN.out];exact m2,mh⟩
   case measure=>simp [intOf];omega
  ·have HK:Away (k = 8):=⟨by omega⟩
   have dk:decide ((k:Int) < 8) = false:=decide_eq_false (by omega)
   obtain ⟨c0,hc0,hc0e⟩:∃ c0,c0 = (fld 4294967296 8 p k).2 ∧ (fld 4294967296 8 p 8).2 = c0:=⟨_,rfl,by rw [HK.out]⟩
   rw [← hc0]
   rw [HK.out] at q2
   clear hc0
   obtain ⟨g1,g2,g3⟩:=fld_mod (by decide) hp lp B32_pow
   have l4:=fld_length 4294967296 8 p 8
   have l5:=fld_lo (B:=4294967296) (by decide) 8 p 8
   generalize fld 4294967296 8 p 8 = ms at *
   obtain ⟨m,b⟩:=ms
   simp only at *
   subst hc0e
   rw [show m ++ Z (8 - 8) = m by simp [Z]] at q2
   obtain ⟨hwe,hwl⟩:=two_halves l5 l4
   obtain ⟨k1,k2⟩:=over_ok g2 g3 g1
   rw [HV.out] at k1 k2
   have HW:Away (hw m = wds (val 4294967296 m)):=⟨hwe⟩
   have lw:(hw m).length = 4:=rfl
   have H1:=Away.mk k1
   have H2':=Away.mk k2
   clear g1 hwe k1 k2 hlt hk hwl
   generalize val 4294967296 m = M at *
   obtain ⟨gw,hgw,qw,lw'⟩:=new_rowT h 32 (C .u64 (Z 4))
   have n2:=q2.lt
   rw [hgw] at n2
   replace q2:=q2.alloc (.cells (C .u64 (Z 4)).toArray 32)
   replace h:=h.alloc (.cells (C .u64 (Z 4)).toArray 32)
   clear q1
   go_upto_region 11 with (first | refine wpList_alloc_row rfl 32 rfl _ z4 ?_ | refine wpList_build_Z rfl 32 rfl _ b4 ?_ | (refine wpList_store_R rfl 32 _ _ rfl _ (C .u64 (Z 4)) (by rw [← hgw];rfl) rfl qw i4 rfl (C_allL _ _) ?_;intro w7 q3 hg hz))
   replace h:=h.grown hg lw'
   replace q2:=q2.grown hg (by simp;omega)
   try rw [hgw]
   clear qw hg hgw hz
   rw [← upto_zero (hw m) 4] at q3
   go_wp2
   go_loopw [10] (fun i wr=>∃ k:Nat,k ≤ 4 ∧ i = .int .i64 k ∧ Row wr ge 86 (C .u64 m) ∧ Row wr gw 32 (C .u64 (upto (hw m) 4 k)) ∧ H2 w.heap.size w wr (C .u64 (wds A)) (C .u64 (wds B)) (C .u64 (Z 4))) (fun i _=>4 - (intOf i).toNat)
   case atStart=>exact ⟨0,Nat.zero_le _,rfl,q2,q3,h⟩
   case round =>
    clear q2 q3 h
    obtain ⟨j,hj,rfl,q2,q3,h⟩:=hrel
    by_cases hlt:j < 4
    ·have c1:=q2.cell (2 * j)
     rw [C_get .u64 (by omega)] at c1
     have c2:=q2.cell (2 * j + 1)
     rw [C_get .u64 (by omega)] at c2
     have b1:=l5.getD (by decide) (2 * j)
     have b2:=l5.getD (by decide) (2 * j + 1)
     have hwj:=hw_getD m hlt
     have c3:=q3.cell j
     rw [C_get .u64 (by rw [upto_length lw (by omega)];omega)] at c3
     have hf:=q3.frozen j
     generalize m.getD (2 * j) 0 = x at *
     generalize m.getD (2 * j + 1) 0 = y at *
     generalize (upto (hw m) 4 j).getD j 0 = u at *
     obtain ⟨n,hn⟩:∃ n,2 * j = n:=⟨_,rfl⟩
     obtain ⟨n1,hn1⟩:∃ n1,2 * j + 1 = n1:=⟨_,rfl⟩
     rw [hn] at c1
     rw [hn1] at c2
     have en:IntKind.i64.wrap (2 * (j:Int)) = (n:Int):=by rw [IntWalk.i64_in _ ⟨by omega,by omega⟩];omega
     have en':(2:Int) * (j:Int) = (n:Int):=by omega
     have wn':IntKind.i64.wrap (n:Int) = (n:Int):=by rw [IntWalk.i64_in _ ⟨by omega,by omega⟩]
     have en1:(n:Int) + 1 = (n1:Int):=by omega
     have wn1:IntKind.i64.wrap (n1:Int) = (n1:Int):=by rw [IntWalk.i64_in _ ⟨by omega,by omega⟩]
     have wn2:IntKind.i64.wrap ((n:Int) + 1) = (n1:Int):=by rw [en1,wn1]
     have bn:(n:Int) < 8:=by omega
     have bn1:(n1:Int) < 8:=by omega
     have bj:(j:Int) < 4:=by omega
     obtain ⟨v,hv⟩:∃ v,4294967296 * y = v:=⟨_,rfl⟩
     obtain ⟨z,hz⟩:∃ z,x + v = z:=⟨_,rfl⟩
     have ev:IntKind.u64.wrap ((y:Int) * 4294967296) = (v:Int):=by rw [IntKind.wrap_u64];omega
     have ez:IntKind.u64.wrap ((x:Int) + (v:Int)) = (z:Int):=by rw [IntKind.wrap_u64];omega
     rw [hv,hz] at hwj
     have m3:=upto_row (z:=(z:Int)) q3.drew lw hlt (by rw [hwj])
     have m2:=q2.drew.other (i:=j) (.int .u64 (z:Int)) (show ge ≠ gw by omega)
     have mh:=h.drew.cell (k:=gw) (i:=j) (.int .u64 (z:Int)) lw'
     clear hn hn1 hv hz b1 b2 hwj q2 q3 h
     go_wp2
     go_region_held3 (fun w'=>w'.cell? ⟨ge,n,none⟩ = some (.int .u64 (x:Int)) ∧ w'.cell? ⟨ge,n1,none⟩ = some (.int .u64 (y:Int)))
      (first | exact ⟨c1,c2⟩ | exact ⟨cell_other c1 (by omega),cell_other c2 (by omega)⟩)
      (fail)
     clear c1 c2 c3 hf
     go_wp2
     go_roundw
     case rel=>exact ⟨j + 1,by omega,by go_num,m2,m3,mh⟩
     case measure=>simp [intOf];omega
    ·have HJ:Away (j = 4):=⟨by omega⟩
     have dj:decide ((j:Int) < 4) = false:=decide_eq_false (by omega)
     rw [HJ.out,upto_all lw,HW.out] at q3
     clear hlt hj q2
     have ew:IntKind.u64.wrap (38 * (b:Int)) = ((38 * b:Nat):Int):=by rw [IntKind.wrap_u64];omega
     have hbd:Value.agg #[.int .u64 ((38 * b:Nat):Int),.int .u64 0,.int .u64 0,.int .u64 0] = .agg (C .u64 (wds (38 * b))).toArray:=by rw [wds_small (by omega)];rfl
     have hmo:=refmore_el M (38 * b) g2 (by omega)
     have hl2:=Nat.mod_lt (M + 38 * b) (show 0 < 115792089237316195423570985008687907853269984665640564039457584007913129639936 by decide)
     obtain ⟨ov,hov⟩:∃ ov,decide ((M + 38 * b) / 115792089237316195423570985008687907853269984665640564039457584007913129639936 = 1) = ov:=⟨_,rfl⟩
     have H3:Away ((ov = true → ((M + 38 * b) % 115792089237316195423570985008687907853269984665640564039457584007913129639936 + 38) % 115792089237316195423570985008687907853269984665640564039457584007913129639936 % P = A * B % P) ∧ (ov = false → (M + 38 * b) % 115792089237316195423570985008687907853269984665640564039457584007913129639936 % P = A * B % P)) :=
      ⟨fun e=>H1.out (of_decide_eq_true (hov.trans e)),fun e=>H2'.out (of_decide_eq_false (hov.trans e))⟩
     rw [hov] at hmo
     clear H1 H2' hov
     generalize (M + 38 * b) % 115792089237316195423570985008687907853269984665640564039457584007913129639936 = M2 at *
     generalize 38 * b = bb at *
     go_wp2_with (refine wpList_load_row rfl 32 _ rfl _ rfl _ _ _ _ q3 Tryz.underlying32 rfl (ie4 M) ?_)
     refine (hmo _).mono ?_
     rintro _ wn2 ⟨rfl,hb⟩
     replace h:=h.below hb
     clear hb hmo q3 hbd ew
     obtain ⟨gs,hgs,qs,ls⟩:=new_rowT h 32 (C .u64 (Z 4))
     replace h:=h.alloc (.cells (C .u64 (Z 4)).toArray 32)
     go_upto_region 16 with (first | refine wpList_alloc_row rfl 32 rfl _ z4 ?_ | (refine wpList_store_R rfl 32 _ _ rfl _ (C .u64 (wds M2)) (by rw [← hgs];rfl) rfl qs (ie4 _) (ze4 _) (C_allL _ _) ?_;intro w8 q4 hg hz))
     replace h:=h.grown hg ls
     try rw [hgs]
     clear qs hg hgs hz
     cases ov
     ·have HR:=H3.out.2 rfl
      clear H3
      obtain ⟨R,hR⟩:∃ R,A * B % P = R:=⟨_,rfl⟩
      rw [hR] at HR
      have HRA:=Away.mk hR
      have HRM:=Away.mk HR
      clear hR HR
      go_wp2_with (refine wpList_load_row rfl 32 _ rfl _ rfl _ _ _ _ q4 Tryz.underlying32 rfl (ie4 M2) ?_)
      refine (refreduce_el M2 hl2 _).mono ?_
      rintro _ wn3 ⟨rfl,hb⟩
      rw [HRM.out]
      replace h:=h.below hb
      clear hb
      go_wp2_with (refine wpList_store_R rfl 32 _ _ rfl _ (C .u64 (wds R)) rfl rfl h.r3 (ie4 _) (ze4 _) (C_allL _ _) ?_;intro w9 q9 hg9 hz9)
      exact result_row Tryz.results50 rfl q9 Tryz.underlying32 rfl (ie4 _) rfl ⟨by rw [HRA.out],below_grown h.bel hg9 (by omega) h.r3.lt⟩
     ·have HR:=H3.out.1 rfl
      clear H3
      obtain ⟨R,hR⟩:∃ R,A * B % P = R:=⟨_,rfl⟩
      rw [hR] at HR
      have HRA:=Away.mk hR
      have hb38:Value.agg #[.int .u64 38,.int .u64 0,.int .u64 0,.int .u64 0] = .agg (C .u64 (wds 38)).toArray:=by rw [wds_small (by decide)];rfl
      have hm2:=refmore_el M2 38 hl2 (by decide)
      have hl3:=Nat.mod_lt (M2 + 38) (show 0 < 115792089237316195423570985008687907853269984665640564039457584007913129639936 by decide)
      generalize decide ((M2 + 38) / 115792089237316195423570985008687907853269984665640564039457584007913129639936 = 1) = ov2 at *
      generalize (M2 + 38) % 115792089237316195423570985008687907853269984665640564039457584007913129639936 = M3 at *
      have HRM:=Away.mk HR
      clear hR HR
      go_wp2_with (refine wpList_load_row rfl 32 _ rfl _ rfl _ _ _ _ q4 Tryz.underlying32 rfl (ie4 M2) ?_)
      refine (hm2 _).mono ?_
      rintro _ wn3 ⟨rfl,hb⟩
      replace h:=h.below hb
      replace q4:=q4.belowS hb
      clear hb hm2
      go_wp2_with (first | (refine wpList_store_R rfl 32 _ _ rfl _ (C .u64 (wds M3)) rfl rfl q4 (ie4 _) (ee4 _ _) (C_allL _ _) ?_;intro w9 q5 hg9 hz9;have h5:=h.grown hg9 ls) | refine wpList_load_row rfl 32 _ rfl _ rfl _ _ _ _ q5 Tryz.underlying32 rfl (ie4 M3) ?_)
      refine (refreduce_el M3 hl3 _).mono ?_
      rintro _ wn4 ⟨rfl,hb⟩
      rw [HRM.out]
      replace h5:=h5.below hb
      clear hb
      go_wp2_with (refine wpList_store_R rfl 32 _ _ rfl _ (C .u64 (wds R)) rfl rfl h5.r3 (ie4 _) (ze4 _) (C_allL _ _) ?_;intro w10 q10 hg10 hz10)
      exact result_row Tryz.results50 rfl q10 Tryz.underlying32 rfl (ie4 _) rfl ⟨by rw [HRA.out],below_grown h5.bel hg10 (by omega) h5.r3.lt⟩
theorem frefmul_el (A B:Nat) (hA:A < 115792089237316195423570985008687907853269984665640564039457584007913129639936) (hB:B < 115792089237316195423570985008687907853269984665640564039457584007913129639936) (w:World):Calls Tryz.prog 50 #[.agg (C .u64 (wds A)).toArray,.agg (C .u64 (wds B)).toArray] w fun e w'=>e = .returned (.agg (C .u64 (wds (A * B % P))).toArray) ∧ Below w.heap.size w w':=frefmul_any A B hA hB w
theorem b1:Tryz.prog.built 32 [(0,.int .u64 1)] = some (C .u64 (wds 1)).toArray:=by kernel_rfl
theorem b2:Tryz.prog.built 32 [(0,.int .u64 2)] = some (C .u64 (wds 2)).toArray:=by kernel_rfl
set_option maxHeartbeats 2000000 in
theorem frefpow_any (A N:Nat) (hA:A < 115792089237316195423570985008687907853269984665640564039457584007913129639936) (hN:N < 115792089237316195423570985008687907853269984665640564039457584007913129639936) (w:World):Calls Tryz.prog 94 #[el A,el N] w fun e w'=>e = .returned (el (A ^ N % P)) ∧ Below w.heap.size w w':=by
 obtain ⟨w4,h4,h⟩:=H2.begin w (C .u64 (wds A)) (C .u64 (wds N)) (C .u64 (Z 4))
 have hxN:=wds_lo N
 rw [← pw_all]
 unfold el
 go_enter Tryz.func94,Tryz.ntmps94
 go_upto_region 1 with (refine wpList_alloc_row rfl 32 rfl _ z4 ?_)
 try simp only [Act.put,stA,st0,st1,alloc_size,h4]
 clear h4
 obtain ⟨g3,hg3,q0,hq1⟩:=new_rowT h 32 (C .u64 (Z 4))
 replace h:=h.alloc (.cells (C .u64 (Z 4)).toArray 32)
 go_upto_region 2 with (first | refine wpList_alloc_row rfl 32 rfl _ z4 ?_ | refine wpList_build_C rfl 32 _ rfl _ b1 ?_ | (refine wpList_store_R rfl 32 _ _ rfl _ (C .u64 (wds 1)) (by rw [← hg3];rfl) rfl q0 (ie4 _) (ze4 _) (C_allL _ _) ?_;intro w5 r5 hg5 hz5))
 replace h:=h.grown hg5 hq1
 rw [← pw_zero (A:=A) hN] at r5
 try rw [hg3]
 clear hg5 q0 hg3 hz5
 go_wp2
 go_loopw [6] (fun i wr=>∃ n:Nat,n ≤ 256 ∧ i = .int .i64 ((n:Int) - 1) ∧ Row wr g3 32 (C .u64 (wds (pw A N (256 - n)))) ∧ H2 w.heap.size w wr (C .u64 (wds A)) (C .u64 (wds N)) (C .u64 (Z 4))) (fun i _=>(intOf i + 1).toNat)
 case atStart=>exact ⟨256,Nat.le_refl _,rfl,r5,h⟩
 case round =>
  clear r5 h
  obtain ⟨n,hn,rfl,q,h⟩:=hrel
  by_cases hp:0 < n
  ·obtain ⟨m,rfl⟩:∃ m,n = m + 1:=⟨n - 1,by omega⟩
   have em:(((m + 1:Nat):Int) - 1) = (m:Int):=by omega
   rw [em]
   have hm256:m < 256:=by omega
   have HN:Away (pw A N (256 - m) = if N / 2 ^ m % 2 = 1 then pw A N (256 - (m + 1)) * pw A N (256 - (m + 1)) % P * A % P else pw A N (256 - (m + 1)) * pw A N (256 - (m + 1)) % P):=⟨by
    have:=pw_step (A:=A) (N:=N) (k:=256 - (m + 1)) (by omega)
    rw [show 256 - (m + 1) + 1 = 256 - m by omega,show 255 - (256 - (m + 1)) = m by omega] at this
    exact this⟩
   have hX:=pw_lt A N (256 - (m + 1))
   generalize pw A N (256 - (m + 1)) = X at *
   have hm0:(0:Int) ≤ (m:Int):=by omega
   have dm:decide ((0:Int) ≤ (m:Int)) = true:=decide_eq_true hm0
   have wm:IntKind.i64.wrap ((m:Int) - 1) = (m:Int) - 1:=by rw [IntWalk.i64_in _ ⟨by omega,by omega⟩]
   clear em hn hp
   go_wp2_with (refine wpList_load_row rfl 32 _ rfl _ rfl _ _ _ _ q Tryz.underlying32 rfl (ie4 _) ?_)
   refine (frefmul_el X X hX hX _).mono ?_
   rintro _ wn2 ⟨rfl,hb⟩
   replace h:=h.below hb
   replace q:=q.belowS hb
   clear hb
   have hYl:=mod_lt_T (X * X)
   generalize X * X % P = Y at *
   go_upto_region 6 with (refine wpList_store_R rfl 32 _ _ rfl _ (C .u64 (wds Y)) rfl rfl q (ie4 _) (ee4 _ _) (C_allL _ _) ?_;intro w6 q6 hg6 hz6)
   replace h:=h.grown hg6 hq1
   clear q hg6 hz6
   have c1:=h.r2.cell (m / 64)
   rw [C_get .u64 (by rw [wds_length];omega)] at c1
   have bx:=hxN.getD (by decide) (m / 64)
   have hbt:=bit_of (A:=N) (i:=m)
   rw [← wds_getD hN] at hbt
   generalize (wds N).getD (m / 64) 0 = x at *
   obtain ⟨qq,hqq⟩:∃ qq,m / 64 = qq:=⟨_,rfl⟩
   obtain ⟨r,hr⟩:∃ r,m % 64 = r:=⟨_,rfl⟩
   rw [hqq] at c1
   rw [hr] at hbt
   have dq:(m:Int).tdiv 64 = (qq:Int):=by rw [Int.tdiv_eq_ediv_of_nonneg (by omega)];omega
   have dq':(m:Int) / 64 = (qq:Int):=by omega
   have bq:(qq:Int) < 4:=by omega
   have dr:(m:Int).tmod 64 = (r:Int):=by rw [Int.tmod_eq_emod_of_nonneg (by omega)];omega
   have dr':(m:Int) % 64 = (r:Int):=by omega
   have br:(r:Int) < 64:=by omega
   have wr':IntKind.u64.wrap (r:Int) = (r:Int):=by rw [IntKind.wrap_u64];omega
   obtain ⟨y,hy⟩:∃ y,x / 2 ^ r = y:=⟨_,rfl⟩
   have ey:(x:Int) / 2 ^ r = (y:Int):=by rw [← hy];simp
   rw [hy] at hbt
   have hyl:y < 18446744073709551616:=by rw [← hy];exact Nat.lt_of_le_of_lt (Nat.div_le_self _ _) bx
   obtain ⟨u,hu⟩:∃ u,y % 2 = u:=⟨_,rfl⟩
   have eu:bits .and .u64 (y:Int) 1 = (u:Int):=by
    have:=u64_and_nat y 1 hyl (by decide)
    rw [show ((1:Nat):Int) = 1 from rfl] at this
    rw [this,Nat.and_one_is_mod,hu]
   rw [hu] at hbt
   rw [← hbt] at HN
   clear hqq hr hy hyl bx hu hbt
   by_cases h1:u = 1
   ·have du:((u:Int) == 1) = true:=by rw [beq_iff_eq];omega
    have HN':Away (pw A N (256 - m) = Y * A % P):=⟨by rw [HN.out,if_pos h1]⟩
    clear HN h1
    go_wp2_with (first | refine wpList_load_row rfl 32 _ rfl _ rfl _ _ _ _ q6 Tryz.underlying32 rfl (ie4 _) ?_ | refine wpList_load_row rfl 32 _ rfl _ rfl _ _ _ _ h.r1 Tryz.underlying32 rfl (ie4 _) ?_)
    refine (frefmul_el Y A hYl hA _).mono ?_
    rintro _ wn4 ⟨rfl,hb⟩
    replace h:=h.below hb
    replace q6:=q6.belowS hb
    clear hb c1
    generalize Y * A % P = V at *
    go_wp2_with (refine wpList_store_R rfl 32 _ _ rfl _ (C .u64 (wds V)) rfl rfl q6 (ie4 _) (ee4 _ _) (C_allL _ _) ?_;intro w7 q7 hg7 hz7)
    replace h:=h.grown hg7 hq1
    clear q6 hg7
    go_roundw
    case rel=>exact ⟨m,by omega,rfl,by rw [HN'.out];exact q7,h⟩
    case measure=>simp [intOf] <;> omega
   ·have du:((u:Int) == 1) = false:=by rw [beq_eq_false_iff_ne];omega
    have HN':Away (pw A N (256 - m) = Y):=⟨by rw [HN.out,if_neg h1]⟩
    clear HN h1
    go_wp2
    go_roundw
    case rel=>exact ⟨m,by omega,rfl,by rw [HN'.out];exact q6,h⟩
    case measure=>simp [intOf] <;> omega
  ·have HK:Away (n = 0):=⟨by omega⟩
   have en:((n:Int) - 1) = -1:=by omega
   rw [en]
   obtain ⟨V,hV⟩:∃ V,pw A N 256 = V:=⟨_,rfl⟩
   rw [HK.out,show 256 - 0 = 256 from rfl,hV] at q
   have HV:=Away.mk hV
   clear hV hp hn en
   go_wp2_with (first | refine wpList_load_row rfl 32 _ rfl _ rfl _ _ _ _ q Tryz.underlying32 rfl (ie4 _) ?_ | (refine wpList_store_R rfl 32 _ _ rfl _ (C .u64 (wds V)) rfl rfl h.r3 (ie4 _) (ze4 _) (C_allL _ _) ?_;intro w7 q7 hg7 hz7))
   exact result_row Tryz.results94 rfl q7 Tryz.underlying32 rfl (ie4 _) rfl ⟨by rw [HV.out],below_grown h.bel hg7 (by omega) h.r3.lt⟩
theorem frefpow_el (A B:Nat) (hA:A < 115792089237316195423570985008687907853269984665640564039457584007913129639936) (hB:B < 115792089237316195423570985008687907853269984665640564039457584007913129639936) (w:World):Calls Tryz.prog 94 #[.agg (C .u64 (wds A)).toArray,.agg (C .u64 (wds B)).toArray] w fun e w'=>e = .returned (.agg (C .u64 (wds (A ^ B % P))).toArray) ∧ Below w.heap.size w w':=frefpow_any A B hA hB w
theorem prime_el (w:World):Calls Tryz.prog 93 #[] w fun e w'=>e = .returned (.agg (C .u64 (wds P)).toArray) ∧ Below w.heap.size w w':=prime_any w
theorem P_less:(P + 115792089237316195423570985008687907853269984665640564039457584007913129639936 - 2) % 115792089237316195423570985008687907853269984665640564039457584007913129639936 = P - 2:=by decide +kernel
theorem refless_P2 (w:World):Calls Tryz.prog 87 #[.agg (C .u64 (wds P)).toArray,.agg (C .u64 (wds 2)).toArray] w fun e w'=>e = .returned (.tuple #[.agg (C .u64 (wds (P - 2))).toArray,.bool (decide (P < 2))]) ∧ Below w.heap.size w w':=by
 have:=refless_any P 2 P_lt (by decide) w
 rw [P_less] at this
 exact this
theorem frefinv_any (A:Nat) (hA:A < 115792089237316195423570985008687907853269984665640564039457584007913129639936) (w:World):Calls Tryz.prog 49 #[el A] w fun e w'=>e = .returned (el (A ^ (P - 2) % P)) ∧ Below w.heap.size w w':=by
 obtain ⟨w4,h4,h⟩:=H1.begin w (C .u64 (wds A)) (C .u64 (Z 4))
 have hp:=frefpow_el A (P - 2) hA P2_lt
 have hlp:=refless_P2
 obtain ⟨R,hR⟩:∃ R,A ^ (P - 2) % P = R:=⟨_,rfl⟩
 rw [hR] at hp ⊢
 clear hR
 generalize decide (P < 2) = ov at *
 generalize P - 2 = E at *
 unfold el
 go_enter Tryz.func49,Tryz.ntmps49
 go_upto_region 1 with (refine wpList_alloc_row rfl 32 rfl _ z4 ?_)
 try simp only [Act.put,stA,st0,st1,alloc_size,h4]
 clear h4
 go_wp2_with fail
 refine (prime_el _).mono ?_
 rintro _ wn ⟨rfl,hb⟩
 replace h:=h.below hb
 clear hb
 go_wp2_with (refine wpList_build_C rfl 32 _ rfl _ b2 ?_)
 refine (hlp _).mono ?_
 rintro _ wn ⟨rfl,hb⟩
 replace h:=h.below hb
 clear hb hlp
 obtain ⟨g3,hg3,q0,hq⟩:=new_row1 h
 replace h:=h.alloc (.cells (C .u64 (Z 4)).toArray 32)
 go_upto_region 2 with (first | refine wpList_alloc_row rfl 32 rfl _ z4 ?_ | (refine wpList_store_R rfl 32 _ _ rfl _ (C .u64 (wds E)) (by rw [← hg3];rfl) rfl q0 (ie4 _) (ze4 _) (C_allL _ _) ?_;intro w5 q hg5 hz5))
 replace h:=h.grown hg5 hq.1
 try rw [hg3]
 clear q0 hg5 hq hg3 hz5
 go_wp2_with (first | refine wpList_load_row rfl 32 _ rfl _ rfl _ _ _ _ h.r1 Tryz.underlying32 rfl (ie4 _) ?_ | refine wpList_load_row rfl 32 _ rfl _ rfl _ _ _ _ q Tryz.underlying32 rfl (ie4 _) ?_)
 refine (hp _).mono ?_
 rintro _ wn ⟨rfl,hb⟩
 replace h:=h.below hb
 clear hb hp
 go_wp2_with (refine wpList_store_R rfl 32 _ _ rfl _ (C .u64 (wds R)) rfl rfl h.r3 (ie4 _) (ze4 _) (C_allL _ _) ?_;intro w7 q7 hg7 hz7)
 exact result_row Tryz.results49 rfl q7 Tryz.underlying32 rfl (ie4 _) rfl ⟨rfl,below_grown h.bel hg7 (by omega) h.r3.lt⟩
theorem frefsub_el (A B:Nat) (hA:A < 115792089237316195423570985008687907853269984665640564039457584007913129639936) (hB:B < 115792089237316195423570985008687907853269984665640564039457584007913129639936) (w:World):Calls Tryz.prog 81 #[.agg (C .u64 (wds A)).toArray,.agg (C .u64 (wds B)).toArray] w fun e w'=>e = .returned (.agg (C .u64 (wds ((A % P + (P - B % P)) % P))).toArray) ∧ Below w.heap.size w w':=frefsub_any A B hA hB w
theorem bQ8:Tryz.prog.built 32 [(0,.int .u64 18446744073709551614),(1,.int .u64 18446744073709551615),(2,.int .u64 18446744073709551615),(3,.int .u64 1152921504606846975)] = some (C .u64 (wds Q8)).toArray:=by kernel_rfl
theorem Q4_lt:Q4 < 115792089237316195423570985008687907853269984665640564039457584007913129639936:=by decide +kernel
set_option maxHeartbeats 8000000 in
theorem frefroot_any (A:Nat) (hA:A < 115792089237316195423570985008687907853269984665640564039457584007913129639936) (w:World):Calls Tryz.prog 84 #[el A] w fun e w'=>e = .returned (.tuple #[el (rt A).1,.bool (rt A).2]) ∧ Below w.heap.size w w':=by
 obtain ⟨w4,h4,h⟩:=H1.begin w (C .u64 (wds A)) (C .u64 (Z 4))
 obtain ⟨H1,H2,H3⟩:=rt_prog A
 rw [show (A % P) ^ Q8 % P = A ^ Q8 % P from (Nat.pow_mod A Q8 P).symm] at H1 H2 H3
 have hal:=mod_lt_T A
 have hre:=refreduce_el A hA
 obtain ⟨a,ha⟩:∃ a,A % P = a:=⟨_,rfl⟩
 rw [ha] at H1 H2 H3 hal hre
 clear ha
 have hpw:=frefpow_el A Q8 hA Q8_lt
 have hp2:=frefpow_el 2 Q4 (by decide) Q4_lt
 rw [im_pow] at hp2
 have hrp:=mod_lt_P (A ^ Q8)
 have hrl:=mod_lt_T (A ^ Q8)
 obtain ⟨r,hr⟩:∃ r,A ^ Q8 % P = r:=⟨_,rfl⟩
 rw [hr] at H1 H2 H3 hpw hrp hrl
 clear hr
 have hsp:=mod_lt_P (r * im)
 have hsl:=mod_lt_T (r * im)
 obtain ⟨s,hs⟩:∃ s,r * im % P = s:=⟨_,rfl⟩
 rw [hs] at H2 H3 hsp hsl
 replace H1:=Away.mk H1
 replace H2:=Away.mk H2
 replace H3:=Away.mk H3
 unfold el
 go_enter Tryz.func84,Tryz.ntmps84
 go_upto_region 1 with (refine wpList_alloc_row rfl 32 rfl _ z4 ?_)
 try simp only [Act.put,stA,st0,st1,alloc_size,h4]
 clear h4
 go_wp2_with (first | refine wpList_load_row rfl 32 _ rfl _ rfl _ _ _ _ h.r1 Tryz.underlying32 rfl (ie4 _) ?_ | refine wpList_build_C rfl 32 _ rfl _ bQ8 ?_)
 refine (hpw _).mono ?_
 rintro _ wn ⟨rfl,hb⟩
 replace h:=h.below hb
 clear hb hpw
 obtain ⟨g3,hg3,q0,hq⟩:=new_row1 h
 replace h:=h.alloc (.cells (C .u64 (Z 4)).toArray 32)
 go_upto_region 2 with (first | refine wpList_alloc_row rfl 32 rfl _ z4 ?_ | (refine wpList_store_R rfl 32 _ _ rfl _ (C .u64 (wds r)) (by rw [← hg3];rfl) rfl q0 (ie4 _) (ze4 _) (C_allL _ _) ?_;intro w5 q hg5 hz5))
 replace h:=h.grown hg5 hq.1
 have hq1:=hq.1
 try rw [hg3]
 clear q0 hg5 hq hg3 hz5
 by_cases er:r * r % P = a
 ·replace h:=h.drew
  replace q:=q.drew
  refine wp_region_noPanic ?_
  refine wp_region_held_drew (S:=fun w'=>Row w' g3 32 (C .u64 (wds r)) ∧ Row w' w.heap.size 32 (C .u64 (wds A))) (by kernel_rfl) ⟨q,h.r1⟩ (fun _=>?_)
  refine tkL 0 (.agg (C .u64 (wds r)).toArray) rfl (fun w hSw=>exec_load_R 32 _ rfl rfl hSw.1 Tryz.underlying32 (ie4 r)) ?_
  simp only [Act.put,stA,st0,st1]
  refine tkL 1 (.agg (C .u64 (wds r)).toArray) rfl (fun w hSw=>exec_load_R 32 _ rfl rfl hSw.1 Tryz.underlying32 (ie4 r)) ?_
  simp only [Act.put,stA,st0,st1]
  refine tkL 3 (.agg (C .u64 (wds A)).toArray) rfl (fun w hSw=>exec_load_R 32 _ rfl rfl hSw.2 Tryz.underlying32 (ie4 A)) ?_
  simp only [Act.put,stA,st0,st1]
  refine ar1 2 rfl (fun K hK=>?_)
  go_simp
  refine (frefmul_el r r hrl hrl _).mono ?_
  rintro _ wnu ⟨rfl,hb⟩
  replace h:=h.below hb
  replace q:=q.belowS hb
  clear hb
  refine hK.out _ _ ⟨q,h.r1⟩ (fun _=>?_)
  clear hK K
  refine ar1 4 rfl (fun K hK=>?_)
  go_simp
  refine (hre _).mono ?_
  rintro _ wmu ⟨rfl,hb⟩
  replace h:=h.below hb
  replace q:=q.belowS hb
  clear hb
  refine hK.out _ _ ⟨q,h.r1⟩ (fun _=>?_)
  clear hK K
  have hqu:=fun w=>neq4 w (a) a (hal) hal
  simp only [decide_true] at hqu
  refine tkL 5 (.bool false) rfl ?h5u ?_
  case h5u=>intro w hSw;go_simp <;> first | rfl | (simp only [hqu];rfl)
  simp only [Act.put,stA,st0,st1]
  clear hqu
  refine wpAnyH_done (by kernel_rfl) ?_ _
  refine NoPanic.normal ?_
  go_upto_region 4 with fail
  replace h:=h.drew
  replace q:=q.drew
  refine wp_region_noPanic ?_
  refine wp_region_held_drew (S:=fun w'=>Row w' g3 32 (C .u64 (wds r)) ∧ Row w' w.heap.size 32 (C .u64 (wds A))) (by kernel_rfl) ⟨q,h.r1⟩ (fun _=>?_)
  refine tkL 0 (.agg (C .u64 (wds r)).toArray) rfl (fun w hSw=>exec_load_R 32 _ rfl rfl hSw.1 Tryz.underlying32 (ie4 r)) ?_
  simp only [Act.put,stA,st0,st1]
  refine tkL 1 (.agg (C .u64 (wds r)).toArray) rfl (fun w hSw=>exec_load_R 32 _ rfl rfl hSw.1 Tryz.underlying32 (ie4 r)) ?_
  simp only [Act.put,stA,st0,st1]
  refine tkL 3 (.agg (C .u64 (wds A)).toArray) rfl (fun w hSw=>exec_load_R 32 _ rfl rfl hSw.2 Tryz.underlying32 (ie4 A)) ?_
  simp only [Act.put,stA,st0,st1]
  refine ar1 2 rfl (fun K hK=>?_)
  go_simp
  refine (frefmul_el r r hrl hrl _).mono ?_
  rintro _ wnv ⟨rfl,hb⟩
  replace h:=h.below hb
  replace q:=q.belowS hb
  clear hb
  refine hK.out _ _ ⟨q,h.r1⟩ (fun _=>?_)
  clear hK K
  refine ar1 4 rfl (fun K hK=>?_)
  go_simp
  refine (hre _).mono ?_
  rintro _ wmv ⟨rfl,hb⟩
  replace h:=h.below hb
  replace q:=q.belowS hb
  clear hb
  refine hK.out _ _ ⟨q,h.r1⟩ (fun _=>?_)
  clear hK K
  have hqv:=fun w=>neq4 w (a) a (hal) hal
  simp only [decide_true] at hqv
  refine tkL 5 (.bool false) rfl ?h5v ?_
  case h5v=>intro w hSw;go_simp <;> first | rfl | (simp only [hqv];rfl)
  simp only [Act.put,stA,st0,st1]
  clear hqv
  refine wpAnyH_done (by kernel_rfl) ?_ _
  refine NoPanic.normal ?_
  have c0:=q.cell 0
  rw [C_get .u64 (by rw [wds_length];decide),wds_getD hrl,Nat.pow_zero,Nat.div_one] at c0
  have hx0:r % 18446744073709551616 % 2 = r % 2:=by omega
  have hxl:r % 18446744073709551616 < 18446744073709551616:=Nat.mod_lt _ (by decide)
  generalize r % 18446744073709551616 = x0 at *
  by_cases ho:r % 2 = 1
  ·have t1:(x0:Int).tmod 2 = 1:=by rw [Int.tmod_eq_emod_of_nonneg (by omega)];omega
   have t2:(x0:Int) % 2 = 1:=by omega
   have HZ:=Away.mk (evn_sub hrp ho)
   have hE:evn r < 115792089237316195423570985008687907853269984665640564039457584007913129639936:=Nat.lt_trans (evn_ok hrp).1 P_lt
   clear hx0
   go_wp2_with (first | refine wpList_build_Z rfl 32 rfl _ b4z ?_ | refine wpList_load_row rfl 32 _ rfl _ rfl _ _ _ _ q Tryz.underlying32 rfl (ie4 r) ?_)
   refine (frefsub_el 0 r (by decide) hrl _).mono ?_
   rintro _ ws ⟨rfl,hb⟩
   rw [HZ.out]
   replace h:=h.below hb
   replace q:=q.belowS hb
   clear hb HZ c0
   generalize hev:evn r = E at *
   go_wp2_with (first | (refine wpList_store_R rfl 32 _ _ rfl _ (C .u64 (wds E)) rfl rfl q (ie4 _) (ee4 _ _) (C_allL _ _) ?_;intro w6 q6 hg6 hz6;have h6:=h.grown hg6 hq1) | refine wpList_load_row rfl 32 _ rfl _ rfl _ _ _ _ q6 Tryz.underlying32 rfl (ie4 _) ?_ | (refine wpList_store_R rfl 32 _ _ rfl _ (C .u64 (wds E)) rfl rfl h6.r3 (ie4 _) (ze4 _) (C_allL _ _) ?_;intro w7 q7 hg7 hz7))
   exact result_row2 Tryz.results84 (v:=.bool true) rfl rfl q7 Tryz.underlying32 rfl (ie4 _) rfl ⟨by rw [H1.out er],below_grown h6.bel hg7 (by omega) h6.r3.lt⟩
  ·have t1:(x0:Int).tmod 2 = 0:=by rw [Int.tmod_eq_emod_of_nonneg (by omega)];omega
   have t2:(x0:Int) % 2 = 0:=by omega
   have hev:evn r = r:=by unfold evn;rw [if_neg ho]
   clear hx0
   go_wp2_with (first | refine wpList_load_row rfl 32 _ rfl _ rfl _ _ _ _ q Tryz.underlying32 rfl (ie4 r) ?_ | (refine wpList_store_R rfl 32 _ _ rfl _ (C .u64 (wds r)) rfl rfl h.r3 (ie4 _) (ze4 _) (C_allL _ _) ?_;intro w7 q7 hg7 hz7))
   exact result_row2 Tryz.results84 (v:=.bool true) rfl rfl q7 Tryz.underlying32 rfl (ie4 _) rfl ⟨by rw [H1.out er,hev],below_grown h.bel hg7 (by omega) h.r3.lt⟩
 ·replace h:=h.drew
  replace q:=q.drew
  refine wp_region_noPanic ?_
  refine wp_region_held_drew (S:=fun w'=>Row w' g3 32 (C .u64 (wds r)) ∧ Row w' w.heap.size 32 (C .u64 (wds A))) (by kernel_rfl) ⟨q,h.r1⟩ (fun _=>?_)
  refine tkL 0 (.agg (C .u64 (wds r)).toArray) rfl (fun w hSw=>exec_load_R 32 _ rfl rfl hSw.1 Tryz.underlying32 (ie4 r)) ?_
  simp only [Act.put,stA,st0,st1]
  refine tkL 1 (.agg (C .u64 (wds r)).toArray) rfl (fun w hSw=>exec_load_R 32 _ rfl rfl hSw.1 Tryz.underlying32 (ie4 r)) ?_
  simp only [Act.put,stA,st0,st1]
  refine tkL 3 (.agg (C .u64 (wds A)).toArray) rfl (fun w hSw=>exec_load_R 32 _ rfl rfl hSw.2 Tryz.underlying32 (ie4 A)) ?_
  simp only [Act.put,stA,st0,st1]
  refine ar1 2 rfl (fun K hK=>?_)
  go_simp
  refine (frefmul_el r r hrl hrl _).mono ?_
  rintro _ wnx ⟨rfl,hb⟩
  replace h:=h.below hb
  replace q:=q.belowS hb
  clear hb
  refine hK.out _ _ ⟨q,h.r1⟩ (fun _=>?_)
  clear hK K
  refine ar1 4 rfl (fun K hK=>?_)
  go_simp
  refine (hre _).mono ?_
  rintro _ wmx ⟨rfl,hb⟩
  replace h:=h.below hb
  replace q:=q.belowS hb
  clear hb
  refine hK.out _ _ ⟨q,h.r1⟩ (fun _=>?_)
  clear hK K
  have hqx:=fun w=>neq4 w (r * r % P) a (mod_lt_T _) hal
  simp only [decide_eq_false er] at hqx
  refine tkL 5 (.bool true) rfl ?h5x ?_
  case h5x=>intro w hSw;go_simp <;> first | rfl | (simp only [hqx];rfl)
  simp only [Act.put,stA,st0,st1]
  clear hqx
  refine wpAnyH_done (by kernel_rfl) ?_ _
  refine NoPanic.normal ?_
  go_upto_region 3 with fail
  go_cut [4] (fun v4 wc=>v4 = .pointer (some ⟨g3,0,none⟩) ∧ Row wc g3 32 (C .u64 (wds s)) ∧ F.H1 w.heap.size w wc (C .u64 (wds A)) (C .u64 (Z 4)))
  case first =>
   replace h:=h.drew
   replace q:=q.drew
   refine wp_region_noPanic ?_
   refine wp_region_held_drew (S:=fun _=>True) (by kernel_rfl) trivial (fun _=>?_)
   refine tkg 1 rfl ?_
   simp only [Act.put,stA,st0,st1]
   refine tkg 2 rfl ?_
   simp only [Act.put,stA,st0,st1]
   refine ar2 0 3 rfl rfl (fun K hK=>?_) (fun K hK=>?_)
   ·refine wp_value (.agg (C .u64 (wds r)).toArray) (exec_load_R 32 _ rfl rfl q Tryz.underlying32 (ie4 r)) ?_
    refine hK.out _ _ trivial (fun _=>?_)
    clear hK K
    refine ar1 3 rfl (fun K hK=>?_)
    go_simp
    refine (hp2 _).mono ?_
    rintro _ wp ⟨rfl,hb⟩
    replace h:=h.below hb
    replace q:=q.belowS hb
    clear hb
    refine hK.out _ _ trivial (fun _=>?_)
    clear hK K
    refine ar1 4 rfl (fun K hK=>?_)
    go_simp
    refine (frefmul_el r im hrl im_lt _).mono ?_
    rintro _ wn2 ⟨rfl,hb⟩
    rw [hs]
    replace h:=h.below hb
    replace q:=q.belowS hb
    clear hb
    refine hK.out _ _ trivial (fun _=>?_)
    clear hK K
    refine ar1 5 rfl (fun K hK=>?_)
    refine wp_store_R 32 _ _ rfl _ (C .u64 (wds s)) rfl rfl q (ie4 _) (ee4 _ _) (C_allL _ _) ?_
    intro w6 q6 hg6 hz6
    have h6:=h.grown hg6 hq1
    refine hK.out _ _ trivial (fun _=>?_)
    clear hK K
    refine wpAnyH_done (by kernel_rfl) ?_ _
    refine NoPanic.normal ?_
    go_wp2
    go_meet
    case rel=>exact ⟨rfl,q6,h6⟩
   ·go_simp
    refine (hp2 _).mono ?_
    rintro _ wp ⟨rfl,hb⟩
    replace h:=h.below hb
    replace q:=q.belowS hb
    clear hb
    refine hK.out _ _ trivial (fun _=>?_)
    clear hK K
    refine ar1 0 rfl (fun K hK=>?_)
    refine wp_value (.agg (C .u64 (wds r)).toArray) (exec_load_R 32 _ rfl rfl q Tryz.underlying32 (ie4 r)) ?_
    refine hK.out _ _ trivial (fun _=>?_)
    clear hK K
    refine ar1 4 rfl (fun K hK=>?_)
    go_simp
    refine (frefmul_el r im hrl im_lt _).mono ?_
    rintro _ wn2 ⟨rfl,hb⟩
    rw [hs]
    replace h:=h.below hb
    replace q:=q.belowS hb
    clear hb
    refine hK.out _ _ trivial (fun _=>?_)
    clear hK K
    refine ar1 5 rfl (fun K hK=>?_)
    refine wp_store_R 32 _ _ rfl _ (C .u64 (wds s)) rfl rfl q (ie4 _) (ee4 _ _) (C_allL _ _) ?_
    intro w6 q6 hg6 hz6
    have h6:=h.grown hg6 hq1
    refine hK.out _ _ trivial (fun _=>?_)
    clear hK K
    refine wpAnyH_done (by kernel_rfl) ?_ _
    refine NoPanic.normal ?_
    go_wp2
    go_meet
    case rel=>exact ⟨rfl,q6,h6⟩
  case rest =>
   clear q h
   obtain ⟨rfl,q,h⟩:=hcut
   go_upto_region 4 with fail
   by_cases es:s * s % P = a
   ·replace h:=h.drew
    replace q:=q.drew
    refine wp_region_noPanic ?_
    refine wp_region_held_drew (S:=fun w'=>Row w' g3 32 (C .u64 (wds s)) ∧ Row w' w.heap.size 32 (C .u64 (wds A))) (by kernel_rfl) ⟨q,h.r1⟩ (fun _=>?_)
    refine tkL 0 (.agg (C .u64 (wds s)).toArray) rfl (fun w hSw=>exec_load_R 32 _ rfl rfl hSw.1 Tryz.underlying32 (ie4 s)) ?_
    simp only [Act.put,stA,st0,st1]
    refine tkL 1 (.agg (C .u64 (wds s)).toArray) rfl (fun w hSw=>exec_load_R 32 _ rfl rfl hSw.1 Tryz.underlying32 (ie4 s)) ?_
    simp only [Act.put,stA,st0,st1]
    refine tkL 3 (.agg (C .u64 (wds A)).toArray) rfl (fun w hSw=>exec_load_R 32 _ rfl rfl hSw.2 Tryz.underlying32 (ie4 A)) ?_
    simp only [Act.put,stA,st0,st1]
    refine ar1 2 rfl (fun K hK=>?_)
    go_simp
    refine (frefmul_el s s hsl hsl _).mono ?_
    rintro _ wny ⟨rfl,hb⟩
    replace h:=h.below hb
    replace q:=q.belowS hb
    clear hb
    refine hK.out _ _ ⟨q,h.r1⟩ (fun _=>?_)
    clear hK K
    refine ar1 4 rfl (fun K hK=>?_)
    go_simp
    refine (hre _).mono ?_
    rintro _ wmy ⟨rfl,hb⟩
    replace h:=h.below hb
    replace q:=q.belowS hb
    clear hb
    refine hK.out _ _ ⟨q,h.r1⟩ (fun _=>?_)
    clear hK K
    have hqy:=fun w=>neq4 w (a) a (hal) hal
    simp only [decide_true] at hqy
    refine tkL 5 (.bool false) rfl ?h5y ?_
    case h5y=>intro w hSw;go_simp <;> first | rfl | (simp only [hqy];rfl)
    simp only [Act.put,stA,st0,st1]
    clear hqy
    refine wpAnyH_done (by kernel_rfl) ?_ _
    refine NoPanic.normal ?_
    have c0:=q.cell 0
    rw [C_get .u64 (by rw [wds_length];decide),wds_getD hsl,Nat.pow_zero,Nat.div_one] at c0
    have hx0:s % 18446744073709551616 % 2 = s % 2:=by omega
    have hxl:s % 18446744073709551616 < 18446744073709551616:=Nat.mod_lt _ (by decide)
    generalize s % 18446744073709551616 = x0 at *
    by_cases ho:s % 2 = 1
    ·have t1:(x0:Int).tmod 2 = 1:=by rw [Int.tmod_eq_emod_of_nonneg (by omega)];omega
     have t2:(x0:Int) % 2 = 1:=by omega
     have HZ:=Away.mk (evn_sub hsp ho)
     have hE:evn s < 115792089237316195423570985008687907853269984665640564039457584007913129639936:=Nat.lt_trans (evn_ok hsp).1 P_lt
     clear hx0
     go_wp2_with (first | refine wpList_build_Z rfl 32 rfl _ b4z ?_ | refine wpList_load_row rfl 32 _ rfl _ rfl _ _ _ _ q Tryz.underlying32 rfl (ie4 s) ?_)
     refine (frefsub_el 0 s (by decide) hsl _).mono ?_
     rintro _ ws ⟨rfl,hb⟩
     rw [HZ.out]
     replace h:=h.below hb
     replace q:=q.belowS hb
     clear hb HZ c0
     generalize hev:evn s = E at *
     go_wp2_with (first | (refine wpList_store_R rfl 32 _ _ rfl _ (C .u64 (wds E)) rfl rfl q (ie4 _) (ee4 _ _) (C_allL _ _) ?_;intro w6 q6 hg6 hz6;have h6:=h.grown hg6 hq1) | refine wpList_load_row rfl 32 _ rfl _ rfl _ _ _ _ q6 Tryz.underlying32 rfl (ie4 _) ?_ | (refine wpList_store_R rfl 32 _ _ rfl _ (C .u64 (wds E)) rfl rfl h6.r3 (ie4 _) (ze4 _) (C_allL _ _) ?_;intro w7 q7 hg7 hz7))
     exact result_row2 Tryz.results84 (v:=.bool true) rfl rfl q7 Tryz.underlying32 rfl (ie4 _) rfl ⟨by rw [H2.out er es],below_grown h6.bel hg7 (by omega) h6.r3.lt⟩
    ·have t1:(x0:Int).tmod 2 = 0:=by rw [Int.tmod_eq_emod_of_nonneg (by omega)];omega
     have t2:(x0:Int) % 2 = 0:=by omega
     have hev:evn s = s:=by unfold evn;rw [if_neg ho]
     clear hx0
     go_wp2_with (first | refine wpList_load_row rfl 32 _ rfl _ rfl _ _ _ _ q Tryz.underlying32 rfl (ie4 s) ?_ | (refine wpList_store_R rfl 32 _ _ rfl _ (C .u64 (wds s)) rfl rfl h.r3 (ie4 _) (ze4 _) (C_allL _ _) ?_;intro w7 q7 hg7 hz7))
     exact result_row2 Tryz.results84 (v:=.bool true) rfl rfl q7 Tryz.underlying32 rfl (ie4 _) rfl ⟨by rw [H2.out er es,hev],below_grown h.bel hg7 (by omega) h.r3.lt⟩
   ·replace h:=h.drew
    replace q:=q.drew
    refine wp_region_noPanic ?_
    refine wp_region_held_drew (S:=fun w'=>Row w' g3 32 (C .u64 (wds s)) ∧ Row w' w.heap.size 32 (C .u64 (wds A))) (by kernel_rfl) ⟨q,h.r1⟩ (fun _=>?_)
    refine tkL 0 (.agg (C .u64 (wds s)).toArray) rfl (fun w hSw=>exec_load_R 32 _ rfl rfl hSw.1 Tryz.underlying32 (ie4 s)) ?_
    simp only [Act.put,stA,st0,st1]
    refine tkL 1 (.agg (C .u64 (wds s)).toArray) rfl (fun w hSw=>exec_load_R 32 _ rfl rfl hSw.1 Tryz.underlying32 (ie4 s)) ?_
    simp only [Act.put,stA,st0,st1]
    refine tkL 3 (.agg (C .u64 (wds A)).toArray) rfl (fun w hSw=>exec_load_R 32 _ rfl rfl hSw.2 Tryz.underlying32 (ie4 A)) ?_
    simp only [Act.put,stA,st0,st1]
    refine ar1 2 rfl (fun K hK=>?_)
    go_simp
    refine (frefmul_el s s hsl hsl _).mono ?_
    rintro _ wnz ⟨rfl,hb⟩
    replace h:=h.below hb
    replace q:=q.belowS hb
    clear hb
    refine hK.out _ _ ⟨q,h.r1⟩ (fun _=>?_)
    clear hK K
    refine ar1 4 rfl (fun K hK=>?_)
    go_simp
    refine (hre _).mono ?_
    rintro _ wmz ⟨rfl,hb⟩
    replace h:=h.below hb
    replace q:=q.belowS hb
    clear hb
    refine hK.out _ _ ⟨q,h.r1⟩ (fun _=>?_)
    clear hK K
    have hqz:=fun w=>neq4 w (s * s % P) a (mod_lt_T _) hal
    simp only [decide_eq_false es] at hqz
    refine tkL 5 (.bool true) rfl ?h5z ?_
    case h5z=>intro w hSw;go_simp <;> first | rfl | (simp only [hqz];rfl)
    simp only [Act.put,stA,st0,st1]
    clear hqz
    refine wpAnyH_done (by kernel_rfl) ?_ _
    refine NoPanic.normal ?_
    go_wp2_with (first | refine wpList_build_Z rfl 32 rfl _ b4z ?_ | (refine wpList_store_R rfl 32 _ _ rfl _ (C .u64 (wds 0)) rfl rfl h.r3 (ie4 _) (ze4 _) (C_allL _ _) ?_;intro w7 q7 hg7 hz7))
    exact result_row2 Tryz.results84 (v:=.bool false) rfl rfl q7 Tryz.underlying32 rfl (ie4 _) rfl ⟨by rw [H3.out er es],below_grown h.bel hg7 (by omega) h.r3.lt⟩
theorem lay_any (A:Nat) (hN:A < 115792089237316195423570985008687907853269984665640564039457584007913129639936) (w:World):Calls Tryz.prog 61 #[el A] w fun e w'=>e = .returned (.agg (C .u8 (dig 256 32 A)).toArray) ∧ Below w.heap.size w w':=by
 obtain ⟨w2,h2,r1,r2,hL,hS⟩:=rows2 w 32 22 (C .u64 (wds A)) (C .u8 (Z 32))
 have hdl:=dig_length 256 32 A
 have hx:=wds_lo A
 unfold el
 go_enter Tryz.func61,Tryz.ntmps61
 go_upto_region 1 with (refine wpList_alloc_row rfl 22 rfl _ z32 ?_)
 try simp only [Act.put,stA,st0,st1,alloc_size,h2]
 clear h2
 have r4:=Row.newAt w2 _ hS.symm 22 (C .u8 (Z 32))
 replace r1:=r1.alloc (.cells (C .u8 (Z 32)).toArray 22)
 replace r2:=r2.alloc (.cells (C .u8 (Z 32)).toArray 22)
 replace hL:=hL.alloc (by omega) (.cells (C .u8 (Z 32)).toArray 22)
 go_upto_region 2 with (first | refine wpList_alloc_row rfl 22 rfl _ z32 ?_ | refine wpList_build_Z rfl 22 rfl _ b32 ?_ | (refine wpList_store_R rfl 22 _ _ rfl _ (C .u8 (Z 32)) (by first | rfl | (rw [← hS];rfl)) rfl r4 i32 rfl (C_allL _ _) ?_;intro w5 r5 hg5 hz5))
 replace r1:=r1.grown hg5 (by simp;omega)
 replace r2:=r2.grown hg5 (by simp)
 replace hL:=below_grown hL hg5 (by omega) r4.lt
 clear r4 hg5
 rw [← upto_zero (dig 256 32 A) 32] at r5
 go_wp2
 go_loopw [4] (fun i wr=>∃ k:Nat,k ≤ 32 ∧ i = .int .i64 k ∧ Row wr w.heap.size 32 (C .u64 (wds A)) ∧ Row wr (w.heap.size + 1) 22 (C .u8 (Z 32)) ∧ Row wr (w.heap.size + 1 + 1) 22 (C .u8 (upto (dig 256 32 A) 32 k)) ∧ Below w.heap.size w wr) (fun i _=>32 - (intOf i).toNat)
 case atStart=>exact ⟨0,Nat.zero_le _,rfl,r1,r2,r5,hL⟩
 case round =>
  clear r1 r2 r5 hL
  obtain ⟨k,hk,rfl,r1,r2,r5,hL⟩:=hrel
  by_cases hlt:k < 32
  ·have c1:=r1.cell (k / 8)
   rw [C_get .u64 (by rw [wds_length];omega)] at c1
   have bx:=hx.getD (by decide) (k / 8)
   have he:=byte_of A k
   rw [← dig_getD hlt,← wds_getD hN] at he
   have c5:=r5.cell k
   rw [C_get .u8 (by rw [upto_length hdl (by omega)];omega)] at c5
   have hf:=r5.frozen k
   generalize (upto (dig 256 32 A) 32 k).getD k 0 = u at *
   generalize (wds A).getD (k / 8) 0 = x at *
   obtain ⟨q,hq⟩:∃ q,k / 8 = q:=⟨_,rfl⟩
   obtain ⟨r,hr⟩:∃ r,k % 8 = r:=⟨_,rfl⟩
   rw [hq] at c1
   rw [hr] at he
   obtain ⟨s,hs⟩:∃ s,8 * r = s:=⟨_,rfl⟩
   rw [hs] at he
   obtain ⟨y,hy⟩:∃ y,x / 2 ^ s = y:=⟨_,rfl⟩
   rw [hy] at he
   have ey:(x:Int) / 2 ^ s = (y:Int):=by rw [← hy];simp
   obtain ⟨z,hz⟩:∃ z,y % 256 = z:=⟨_,rfl⟩
   have ez:IntKind.u8.wrap (y:Int) = (z:Int):=by rw [IntKind.wrap_u8];omega
   have ez':(y:Int) % 256 = (z:Int):=by omega
   rw [hz] at he
   have q5:=upto_row (z:=(z:Int)) r5 hdl hlt (by rw [he])
   have q1:=r1.other (i:=k) (.int .u8 (z:Int)) (show w.heap.size ≠ w.heap.size + 1 + 1 by omega)
   have q2:=r2.other (i:=k) (.int .u8 (z:Int)) (show w.heap.size + 1 ≠ w.heap.size + 1 + 1 by omega)
   have qL:=hL.setCell (p:=⟨w.heap.size + 1 + 1,k,none⟩) (by simp;omega) (.int .u8 (z:Int))
   have dq:(k:Int).tdiv 8 = (q:Int):=by rw [Int.tdiv_eq_ediv_of_nonneg (by omega)];omega
   have dq':(k:Int) / 8 = (q:Int):=by omega
   have bq:(q:Int) < 4:=by omega
   have dr:(k:Int).tmod 8 = (r:Int):=by rw [Int.tmod_eq_emod_of_nonneg (by omega)];omega
   have dr':(k:Int) % 8 = (r:Int):=by omega
   have ds:IntKind.i64.wrap (8 * (r:Int)) = (s:Int):=by rw [IntWalk.i64_in _ ⟨by omega,by omega⟩];omega
   have ds':8 * (r:Int) = (s:Int):=by omega
   have du:IntKind.u64.wrap (s:Int) = (s:Int):=by rw [IntKind.wrap_u64];omega
   have bs:(s:Int) < 64:=by omega
   have bk:(k:Int) < 32:=by omega
   clear hq hr hs hy bx hz he r1 r2 r5 hL
   go_wp2
   go_roundw
   case rel=>exact ⟨k + 1,by omega,by go_num,q1,q2,q5,qL⟩
   case measure=>simp [intOf];omega
  ·have HK:Away (k = 32):=⟨by omega⟩
   have dk:decide ((k:Int) < 32) = false:=decide_eq_false (by omega)
   rw [HK.out,upto_all hdl] at r5
   have hi:(C .u8 (dig 256 32 A)).length = 32:=by rw [C_length,hdl]
   have hi8:(Tryz.prog.info? 22).map (·.size) = some (C .u8 (dig 256 32 A)).length:=by rw [hi];exact i32
   clear hlt hk
   go_wp2_with (first | refine wpList_load_row rfl 22 _ rfl _ rfl _ _ _ _ r5 Tryz.underlying22 rfl hi8 ?_ | (refine wpList_store_R rfl 22 _ _ rfl _ (C .u8 (dig 256 32 A)) rfl rfl r2 hi8 (by rw [hi];rfl) (C_allL _ _) ?_;intro w7 q7 hg7 hz7))
   exact result_row Tryz.results61 rfl q7 Tryz.underlying22 rfl hi8 rfl ⟨rfl,below_grown hL hg7 (by omega) r2.lt⟩
set_option maxHeartbeats 1000000 in
theorem fbytes_any (A:Nat) (hA:A < 115792089237316195423570985008687907853269984665640564039457584007913129639936) (w:World) (hT:Tab w):Calls Tryz.prog 74 #[el A] w fun e w'=>e = .returned (.agg (C .u8 (dig 256 32 (A % P))).toArray) ∧ Below w.heap.size w w':=by
 obtain ⟨w2,h2,r1,r2,r5,hL,hS⟩:=rows3 w 32 22 22 (C .u64 (wds A)) (C .u8 (Z 32)) (C .u8 (Z 32))
 have hre:=reduce_el A hA
 have hN:=mod_lt_T A
 generalize A % P = N at *
 have hdl:=dig_length 256 32 N
 have hx:=wds_lo N
 unfold el
 go_enter Tryz.func74,Tryz.ntmps74
 go_upto_region 2 with (refine wpList_alloc_row rfl 22 rfl _ z32 ?_)
 try simp only [Act.put,stA,st0,st1,alloc_size,h2]
 clear h2
 go_wp2_with (refine wpList_load_row rfl 32 _ rfl _ rfl _ _ _ _ r1 Tryz.underlying32 rfl (ie4 _) ?_)
 refine (hre _ (hT.below hL)).mono ?_
 rintro _ wn ⟨rfl,hb⟩
 replace r1:=r1.belowS hb
 replace r2:=r2.belowS hb
 replace r5:=r5.belowS hb
 replace hL:=hL.trans (hb.mono hL.size)
 clear hb hre
 go_upto_region 3 with (refine wpList_store_R rfl 32 _ _ rfl _ (C .u64 (wds N)) rfl rfl r1 (ie4 _) (ee4 _ _) (C_allL _ _) ?_;intro w5 q1 hg5 hz5)
 replace r2:=r2.grown hg5 (by simp)
 replace r5:=r5.grown hg5 (by simp;omega)
 replace hL:=below_grown hL hg5 (Nat.le_refl _) r1.lt
 clear r1 hg5 hz5
 have r1:=q1
 clear q1
 rw [← upto_zero (dig 256 32 N) 32] at r5
 go_wp2
 go_loopw [7] (fun i wr=>∃ k:Nat,k ≤ 32 ∧ i = .int .i64 k ∧ Row wr w.heap.size 32 (C .u64 (wds N)) ∧ Row wr (w.heap.size + 1) 22 (C .u8 (Z 32)) ∧ Row wr (w.heap.size + 1 + 1) 22 (C .u8 (upto (dig 256 32 N) 32 k)) ∧ Below w.heap.size w wr) (fun i _=>32 - (intOf i).toNat)
 case atStart=>exact ⟨0,Nat.zero_le _,rfl,r1,r2,r5,hL⟩
 case round =>
  clear r1 r2 r5 hL
  obtain ⟨k,hk,rfl,r1,r2,r5,hL⟩:=hrel
  by_cases hlt:k < 32
  ·have c1:=r1.cell (k / 8)
   rw [C_get .u64 (by rw [wds_length];omega)] at c1
   have bx:=hx.getD (by decide) (k / 8)
   have he:=byte_of N k
   rw [← dig_getD hlt,← wds_getD hN] at he
   have c5:=r5.cell k
   rw [C_get .u8 (by rw [upto_length hdl (by omega)];omega)] at c5
   have hf:=r5.frozen k
   generalize (upto (dig 256 32 N) 32 k).getD k 0 = u at *
   generalize (wds N).getD (k / 8) 0 = x at *
   obtain ⟨q,hq⟩:∃ q,k / 8 = q:=⟨_,rfl⟩
   obtain ⟨r,hr⟩:∃ r,k % 8 = r:=⟨_,rfl⟩
   rw [hq] at c1
   rw [hr] at he
   obtain ⟨s,hs⟩:∃ s,8 * r = s:=⟨_,rfl⟩
   rw [hs] at he
   obtain ⟨y,hy⟩:∃ y,x / 2 ^ s = y:=⟨_,rfl⟩
   rw [hy] at he
   have ey:(x:Int) / 2 ^ s = (y:Int):=by rw [← hy];simp
   obtain ⟨z,hz⟩:∃ z,y % 256 = z:=⟨_,rfl⟩
   have ez:IntKind.u8.wrap (y:Int) = (z:Int):=by rw [IntKind.wrap_u8];omega
   have ez':(y:Int) % 256 = (z:Int):=by omega
   rw [hz] at he
   have q5:=upto_row (z:=(z:Int)) r5 hdl hlt (by rw [he])
   have q1:=r1.other (i:=k) (.int .u8 (z:Int)) (show w.heap.size ≠ w.heap.size + 1 + 1 by omega)
   have q2:=r2.other (i:=k) (.int .u8 (z:Int)) (show w.heap.size + 1 ≠ w.heap.size + 1 + 1 by omega)
   have qL:=hL.setCell (p:=⟨w.heap.size + 1 + 1,k,none⟩) (by simp;omega) (.int .u8 (z:Int))
   have dq:(k:Int).tdiv 8 = (q:Int):=by rw [Int.tdiv_eq_ediv_of_nonneg (by omega)];omega
   have dq':(k:Int) / 8 = (q:Int):=by omega
   have bq:(q:Int) < 4:=by omega
   have dr:(k:Int).tmod 8 = (r:Int):=by rw [Int.tmod_eq_emod_of_nonneg (by omega)];omega
   have dr':(k:Int) % 8 = (r:Int):=by omega
   have ds:IntKind.i64.wrap ((r:Int) * 8) = (s:Int):=by rw [IntWalk.i64_in _ ⟨by omega,by omega⟩];omega
   have ds':(r:Int) * 8 = (s:Int):=by omega
   have du:IntKind.u64.wrap (s:Int) = (s:Int):=by rw [IntKind.wrap_u64];omega
   have bs:(s:Int) < 64:=by omega
   have bk:(k:Int) < 32:=by omega
   clear hq hr hs hy bx hz he r1 r2 r5 hL
   go_wp2
   go_roundw
   case rel=>exact ⟨k + 1,by omega,by go_num,q1,q2,q5,qL⟩
   case measure=>simp [intOf];omega
  ·have HK:Away (k = 32):=⟨by omega⟩
   have dk:decide ((k:Int) < 32) = false:=decide_eq_false (by omega)
   rw [HK.out,upto_all hdl] at r5
   have hi:(C .u8 (dig 256 32 N)).length = 32:=by rw [C_length,hdl]
   have hi8:(Tryz.prog.info? 22).map (·.size) = some (C .u8 (dig 256 32 N)).length:=by rw [hi];exact i32
   clear hlt hk
   go_wp2_with (first | refine wpList_load_row rfl 22 _ rfl _ rfl _ _ _ _ r5 Tryz.underlying22 rfl hi8 ?_ | (refine wpList_store_R rfl 22 _ _ rfl _ (C .u8 (dig 256 32 N)) rfl rfl r2 hi8 (by rw [hi];rfl) (C_allL _ _) ?_;intro w7 q7 hg7 hz7))
   exact result_row Tryz.results74 rfl q7 Tryz.underlying22 rfl hi8 rfl ⟨rfl,below_grown hL hg7 (by omega) r2.lt⟩
theorem lay_el (A:Nat) (hN:A < 115792089237316195423570985008687907853269984665640564039457584007913129639936) (w:World):Calls Tryz.prog 61 #[.agg (C .u64 (wds A)).toArray] w fun e w'=>e = .returned (.agg (C .u8 (dig 256 32 A)).toArray) ∧ Below w.heap.size w w':=lay_any A hN w
theorem frefbytes_any (A:Nat) (hA:A < 115792089237316195423570985008687907853269984665640564039457584007913129639936) (w:World):Calls Tryz.prog 47 #[el A] w fun e w'=>e = .returned (.agg (C .u8 (dig 256 32 (A % P))).toArray) ∧ Below w.heap.size w w':=by
 obtain ⟨w2,h2,r1,r2,hL,hS⟩:=rows2 w 32 22 (C .u64 (wds A)) (C .u8 (Z 32))
 have hre:=refreduce_el A hA
 have hN:=mod_lt_T A
 generalize A % P = N at *
 have hi:(C .u8 (dig 256 32 N)).length = 32:=by rw [C_length,dig_length]
 have hi8:(Tryz.prog.info? 22).map (·.size) = some (C .u8 (dig 256 32 N)).length:=by rw [hi];exact i32
 unfold el
 go_enter Tryz.func47,Tryz.ntmps47
 go_upto_region 1 with (refine wpList_alloc_row rfl 22 rfl _ z32 ?_)
 try simp only [Act.put,stA,st0,st1,alloc_size,h2]
 clear h2
 go_wp2_with (refine wpList_load_row rfl 32 _ rfl _ rfl _ _ _ _ r1 Tryz.underlying32 rfl (ie4 _) ?_)
 refine (hre _).mono ?_
 rintro _ wn ⟨rfl,hb⟩
 replace r2:=r2.belowS hb
 replace hL:=hL.trans (hb.mono hL.size)
 clear hb hre r1
 go_wp2_with fail
 refine (lay_el N hN _).mono ?_
 rintro _ wn ⟨rfl,hb⟩
 replace r2:=r2.belowS hb
 replace hL:=hL.trans (hb.mono hL.size)
 clear hb
 go_wp2_with (refine wpList_store_R rfl 22 _ _ rfl _ (C .u8 (dig 256 32 N)) rfl rfl r2 hi8 (by rw [hi];rfl) (C_allL _ _) ?_;intro w7 q7 hg7 hz7)
 exact result_row Tryz.results47 rfl q7 Tryz.underlying22 rfl hi8 rfl ⟨rfl,below_grown hL hg7 (by omega) r2.lt⟩
theorem refless_NP (N:Nat) (hN:N < 115792089237316195423570985008687907853269984665640564039457584007913129639936) (w:World):Calls Tryz.prog 87 #[.agg (C .u64 (wds N)).toArray,.agg (C .u64 (wds P)).toArray] w fun e w'=>e = .returned (.tuple #[.agg (C .u64 (wds ((N + 115792089237316195423570985008687907853269984665640564039457584007913129639936 - P) % 115792089237316195423570985008687907853269984665640564039457584007913129639936))).toArray,.bool (decide (N < P))]) ∧ Below w.heap.size w w':=refless_any N P hN P_lt w
theorem val_bytes_lt {b:List Nat} (hb:Lo 256 b) (hl:b.length = 32):val 256 b < 115792089237316195423570985008687907853269984665640564039457584007913129639936:=by
 have:=val_lt (B:=256) (by decide) hb
 rw [hl,B256_pow] at this
 exact this
set_option maxHeartbeats 4000000 in
theorem fread_any (b:List Nat) (hb:Lo 256 b) (hl:b.length = 32) (w:World) (hT:Tab w):Calls Tryz.prog 67 #[.agg (C .u8 b).toArray] w fun e w'=>e = .returned (.tuple #[el (if val 256 b < P then val 256 b else 0),.bool (decide (val 256 b < P))]) ∧ Below w.heap.size w w':=by
 obtain ⟨w2,h2,r1,r2,q4,hL,hS⟩:=rows3 w 22 32 32 (C .u8 b) (C .u64 (Z 4)) (C .u64 (Z 4))
 have hib:(Tryz.prog.info? 22).map (·.size) = some (C .u8 b).length:=by rw [C_length,hl];exact i32
 have hbi:=Away.mk (fun w k h=>run_index_C (P:=Tryz.prog) w (q:=.u8) Tryz.underlying22 (by kernel_rfl) i1b b k h hl)
 have hNl:=val_bytes_lt hb hl
 obtain ⟨N,hN⟩:∃ N,val 256 b = N:=⟨_,rfl⟩
 rw [hN] at hNl ⊢
 have HN:=Away.mk hN
 clear hN
 obtain ⟨D,hD⟩:∃ D,(if N < P then N else 0) = D:=⟨_,rfl⟩
 rw [hD]
 have HD:=Away.mk hD
 clear hD
 obtain ⟨ov,hov⟩:∃ ov,decide (N < P) = ov:=⟨_,rfl⟩
 rw [hov]
 have HO:=Away.mk hov
 clear hov
 unfold el
 go_enter Tryz.func67,Tryz.ntmps67
 go_upto_region 2 with (refine wpList_alloc_row rfl 32 rfl _ z4 ?_)
 try simp only [Act.put,stA,st0,st1,alloc_size,h2]
 clear h2
 go_wp2_with (refine wpList_load_row rfl 22 _ rfl _ rfl _ _ _ _ r1 Tryz.underlying22 rfl hib ?_)
 clear r1
 rw [show Z 4 = wds (val 256 (b.take 0)) by rw [List.take_zero];rfl] at q4
 go_loopw [8] (fun i wr=>∃ k:Nat,k ≤ 32 ∧ i = .int .i64 k ∧ Row wr (w.heap.size + 1) 32 (C .u64 (Z 4)) ∧ Row wr (w.heap.size + 1 + 1) 32 (C .u64 (wds (val 256 (b.take k)))) ∧ Below w.heap.size w wr) (fun i _=>32 - (intOf i).toNat)
 case atStart=>exact ⟨0,Nat.zero_le _,rfl,r2,q4,hL⟩
 case round =>
  clear r2 q4 hL
  obtain ⟨k,hk,rfl,r2,q4,hL⟩:=hrel
  by_cases hlt:k < 32
  ·have hix:=fun w=>hbi.out w k hlt
   have bx:=hb.getD (by decide) k
   have hv:=val_take_lt (B:=256) (by decide) hb k
   obtain ⟨hs1,hs2,hs3⟩:=word_set hlt hv bx
   rw [← val_take_succ] at hs1
   have lV:=wds_length (val 256 (b.take k))
   have hwlo:=(wds_lo (val 256 (b.take k))).getD (by decide) (k / 8)
   generalize wds (val 256 (b.take k)) = V at *
   have c4:=q4.cell (k / 8)
   rw [C_get .u64 (by omega)] at c4
   have hf:=q4.frozen (k / 8)
   obtain ⟨q,hq⟩:∃ q,k / 8 = q:=⟨_,rfl⟩
   obtain ⟨r,hr⟩:∃ r,k % 8 = r:=⟨_,rfl⟩
   rw [hq] at c4 hs1 hs2 hf hwlo
   rw [hr] at hs1 hs2
   obtain ⟨s,hs⟩:∃ s,8 * r = s:=⟨_,rfl⟩
   rw [hs] at hs1 hs2
   generalize V.getD q 0 = a at *
   generalize b.getD k 0 = x at *
   have hps:(2:Nat) ^ s ≤ 2 ^ 56:=Nat.pow_le_pow_right (by decide) (by omega)
   have hxs:x * 2 ^ s < 18446744073709551616 - 2 ^ 56 + 1:=Nat.lt_of_le_of_lt (Nat.mul_le_mul (show x ≤ 255 by omega) hps) (by decide)
   have hor:=or_add (x:=x) hs2
   have cx:(x:Int) * 2 ^ s = ((x * 2 ^ s:Nat):Int):=by simp
   have hps2:(2:Nat) ^ s < 2 ^ 57:=Nat.lt_of_le_of_lt hps (by decide)
   obtain ⟨m,hm⟩:∃ m,x * 2 ^ s = m:=⟨_,rfl⟩
   rw [hm] at hs1 hxs hor cx
   generalize hPS:(2:Nat) ^ s = ps at *
   have hml:m < 18446744073709551616:=by omega
   have hal:a < 72057594037927936:=by have e:=hps;simp at e;omega
   have es:IntKind.u64.wrap ((x:Int) * 2 ^ s) = (m:Int):=by rw [cx,IntKind.wrap_u64];omega
   obtain ⟨z,hz⟩:∃ z,a + m = z:=⟨_,rfl⟩
   rw [hz] at hs1 hor
   have hzl:z < 18446744073709551616:=by simp at hxs;omega
   have eo:bits .or .u64 (a:Int) (m:Int) = (z:Int):=by rw [u64_or_nat a m hwlo hml,hor]
   have ea:IntKind.u64.wrap ((a:Int) + (m:Int)) = (z:Int):=by rw [IntKind.wrap_u64];omega
   have ex:IntKind.u64.wrap (x:Int) = (x:Int):=by rw [IntKind.wrap_u64];omega
   have dq:(k:Int).tdiv 8 = (q:Int):=by rw [Int.tdiv_eq_ediv_of_nonneg (by omega)];omega
   have dq':(k:Int) / 8 = (q:Int):=by omega
   have bq:(q:Int) < 4:=by omega
   have dr:(k:Int).tmod 8 = (r:Int):=by rw [Int.tmod_eq_emod_of_nonneg (by omega)];omega
   have dr':(k:Int) % 8 = (r:Int):=by omega
   have ds:IntKind.i64.wrap ((r:Int) * 8) = (s:Int):=by rw [IntWalk.i64_in _ ⟨by omega,by omega⟩];omega
   have ds':(r:Int) * 8 = (s:Int):=by omega
   have du:IntKind.u64.wrap (s:Int) = (s:Int):=by rw [IntKind.wrap_u64];omega
   have bs:(s:Int) < 64:=by omega
   have bk:(k:Int) < 32:=by omega
   have wq:IntKind.i64.wrap (q:Int) = (q:Int):=by rw [IntWalk.i64_in _ ⟨by omega,by omega⟩]
   have wr':IntKind.i64.wrap (r:Int) = (r:Int):=by rw [IntWalk.i64_in _ ⟨by omega,by omega⟩]
   have ws':IntKind.i64.wrap (s:Int) = (s:Int):=by rw [IntWalk.i64_in _ ⟨by omega,by omega⟩]
   have HV:=Away.mk hs1
   have m2:=r2.drew.other (i:=q) (.int .u64 (z:Int)) (show w.heap.size + 1 ≠ w.heap.size + 1 + 1 by omega)
   have m4:=row_set q4.drew q z
   have mL:=(below_drawn hL).setCell (p:=⟨w.heap.size + 1 + 1,q,none⟩) (by simp;omega) (.int .u64 (z:Int))
   clear hs1 hs2 hs3 hv bx hq hr hs hps hps2 hxs hor cx hm hPS hml hal hz hzl hwlo r2 q4 hL lV
   go_wp2
   refine wp_region_noPanic ?_
   refine wp_region_U (S:=fun w'=>w'.cell? ⟨w.heap.size + 1 + 1,q,none⟩ = some (.int .u64 (a:Int))) 12 (by kernel_rfl) (c4) (fun _=>?_)
   refine tkU 0 ?v0r rfl ?h0r ?_
   case h0r=>intro w hSw;go_simp <;> with_reducible rfl
   simp only [Act.put,stA,st0,st1]
   refine tkU 1 ?v1r rfl ?h1r ?_
   case h1r=>intro w hSw;go_simp <;> with_reducible rfl
   simp only [Act.put,stA,st0,st1]
   refine tkU 2 ?v2r rfl ?h2r ?_
   case h2r=>intro w hSw;go_simp <;> with_reducible rfl
   simp only [Act.put,stA,st0,st1]
   refine tkU 3 ?v3r rfl ?h3r ?_
   case h3r=>intro w hSw;go_simp <;> with_reducible rfl
   simp only [Act.put,stA,st0,st1]
   refine tkU 4 ?v4r rfl ?h4r ?_
   case h4r=>intro w hSw;go_simp <;> with_reducible rfl
   simp only [Act.put,stA,st0,st1]
   refine tkU 5 ?v5r rfl ?h5r ?_
   case h5r=>intro w hSw;go_simp <;> with_reducible rfl
   simp only [Act.put,stA,st0,st1]
   refine tkU 6 ?v6r rfl ?h6r ?_
   case h6r=>intro w hSw;go_simp <;> with_reducible rfl
   simp only [Act.put,stA,st0,st1]
   refine tkU 7 ?v7r rfl ?h7r ?_
   case h7r=>intro w hSw;go_simp <;> with_reducible rfl
   simp only [Act.put,stA,st0,st1]
   refine tkU 8 ?v8r rfl ?h8r ?_
   case h8r=>intro w hSw;go_simp <;> with_reducible rfl
   simp only [Act.put,stA,st0,st1]
   refine tkU 9 ?v9r rfl ?h9r ?_
   case h9r=>intro w hSw;go_simp <;> with_reducible rfl
   simp only [Act.put,stA,st0,st1]
   refine tkU 10 ?v10r rfl ?h10r ?_
   case h10r=>intro w hSw;go_simp <;> with_reducible rfl
   simp only [Act.put,stA,st0,st1]
   refine tkU 11 ?v11r rfl ?h11r ?_
   case h11r=>intro w hSw;go_simp <;> with_reducible rfl
   simp only [Act.put,stA,st0,st1]
   refine wpAnyU_oneL (i:=12) (by kernel_rfl) rfl (by rfl) (fun K hK=>?_)
   have c4d:wr.drew.cell? ⟨w.heap.size + 1 + 1,q,none⟩ = some (.int .u64 (a:Int)):=c4
   have hfd:wr.drew.frozen? ⟨w.heap.size + 1 + 1,q,none⟩ = false:=hf
   go_simp
   refine hK.out _ _ (fun hz=>absurd rfl hz) (fun _=>?_)
   clear hK K
   refine wpAnyU_done (by kernel_rfl) ?_ _
   refine NoPanic.normal ?_
   clear c4 hf hix
   go_wp2
   go_roundw
   case rel=>exact ⟨k + 1,by omega,by go_num,m2,by rw [← HV.out];exact m4,mL⟩
   case measure=>simp [intOf];omega
  ·have HK:Away (k = 32):=⟨by omega⟩
   have dk:decide ((k:Int) < 32) = false:=decide_eq_false (by omega)
   rw [HK.out,List.take_of_length_le (Nat.le_of_eq hl),HN.out] at q4
   clear hlt hk hbi
   have hre:=reduce_el N hNl
   go_upto_region 7 with fail
   replace q4:=q4.drew
   replace r2:=r2.drew
   replace hL:=below_drawn hL
   refine wp_region_noPanic ?_
   refine wp_region_held_drew (S:=fun w'=>Row w' (w.heap.size + 1 + 1) 32 (C .u64 (wds N))) (by kernel_rfl) q4 (fun _=>?_)
   refine tkL 0 (.agg (C .u64 (wds N)).toArray) rfl (fun w hSw=>exec_load_R 32 _ rfl rfl hSw Tryz.underlying32 (ie4 N)) ?_
   simp only [Act.put,stA,st0,st1]
   refine tkL 1 (.agg (C .u64 (wds N)).toArray) rfl (fun w hSw=>exec_load_R 32 _ rfl rfl hSw Tryz.underlying32 (ie4 N)) ?_
   simp only [Act.put,stA,st0,st1]
   refine ar1 2 rfl (fun K hK=>?_)
   go_simp
   refine (hre _ (hT.below hL)).mono ?_
   rintro _ wn ⟨rfl,hb2⟩
   replace q4:=q4.belowS hb2
   replace r2:=r2.belowS hb2
   replace hL:=hL.trans (hb2.mono hL.size)
   clear hb2 hre
   refine hK.out _ _ q4 (fun _=>?_)
   clear hK K
   by_cases hlt:N < P
   ·have hq:=fun w=>neq4 w N N hNl hNl
    simp only [decide_true] at hq
    rw [Nat.mod_eq_of_lt hlt]
    refine tkL 3 (.bool false) rfl ?h3 ?_
    case h3=>intro w hSw;go_simp <;> first | rfl | (simp only [hq];rfl)
    simp only [Act.put,stA,st0,st1]
    clear hq
    refine wpAnyH_done (by kernel_rfl) ?_ _
    refine NoPanic.normal ?_
    go_wp2_with (first | refine wpList_load_row rfl 32 _ rfl _ rfl _ _ _ _ q4 Tryz.underlying32 rfl (ie4 _) ?_ | (refine wpList_store_R rfl 32 _ _ rfl _ (C .u64 (wds N)) rfl rfl r2 (ie4 _) (ze4 _) (C_allL _ _) ?_;intro w7 q7 hg7 hz7))
    exact result_row2 Tryz.results67 (v:=.bool true) rfl rfl q7 Tryz.underlying32 rfl (ie4 _) rfl ⟨by rw [← HD.out,← HO.out,if_pos hlt,decide_eq_true hlt],below_grown hL hg7 (by omega) r2.lt⟩
   ·have hm:=mod_lt_P N
    have hq:=fun w=>neq4 w N (N % P) hNl (mod_lt_T _)
    simp only [decide_eq_false (show ¬ N = N % P by omega)] at hq
    generalize N % P = N2 at *
    refine wpAnyH_takeL (i:=3) (v:=.bool true) rfl (by kernel_rfl) (by kernel_rfl) (by kernel_rfl) (fun _ _ _ h=>h) (by rfl) ?h3' (by assumption) ?_
    case h3'=>intro w hSw;go_simp <;> first | rfl | (simp only [hq];rfl)
    simp only [Act.put,stA,st0,st1]
    clear hq
    refine wpAnyH_done (by kernel_rfl) ?_ _
    refine NoPanic.normal ?_
    go_wp2_with (first | refine wpList_build_Z rfl 32 rfl _ b4z ?_ | (refine wpList_store_R rfl 32 _ _ rfl _ (C .u64 (wds 0)) rfl rfl r2 (ie4 _) (ze4 _) (C_allL _ _) ?_;intro w7 q7 hg7 hz7))
    exact result_row2 Tryz.results67 (v:=.bool false) rfl rfl q7 Tryz.underlying32 rfl (ie4 _) rfl ⟨by rw [← HD.out,← HO.out,if_neg hlt,decide_eq_false hlt],below_grown hL hg7 (by omega) r2.lt⟩
set_option maxHeartbeats 2000000 in
theorem fwhole_any (v:Value) (b:List Nat) (hb:Lo 256 b) (hl:b.length = 32) (w:World) (hv:SlV w v (C .u8 b)):Calls Tryz.prog 86 #[v] w fun e w'=>e = .returned (.agg (C .u64 (wds (val 256 b))).toArray) ∧ Below w.heap.size w w':=by
 obtain ⟨sa,sc,rfl,hcap1,hcap2⟩:=hv.shp hl
 obtain ⟨gb,off,rfl,hgb⟩:=hv.old (by rw [C_length,hl];decide)
 have r2:=Row.new w 32 (C .u64 (Z 4))
 have hL:=(Below.more (Below.refl w.heap.size w) (Nat.le_refl _) (.cells (C .u64 (Z 4)).toArray 32)).1
 have r4:=Row.newAt (w.alloc (.cells (C .u64 (Z 4)).toArray 32)) (w.heap.size + 1) (by simp) 32 (C .u64 (Z 4))
 replace r2:=r2.alloc (.cells (C .u64 (Z 4)).toArray 32)
 replace hL:=hL.alloc (by simp) (.cells (C .u64 (Z 4)).toArray 32)
 generalize hw2:(w.alloc (.cells (C .u64 (Z 4)).toArray 32)).alloc (.cells (C .u64 (Z 4)).toArray 32) = w2 at *
 obtain ⟨N,hN⟩:∃ N,val 256 b = N:=⟨_,rfl⟩
 rw [hN]
 have HN:=Away.mk hN
 clear hN
 go_enter Tryz.func86,Tryz.ntmps86
 go_upto_region 1 with (refine wpList_alloc_row rfl 32 rfl _ z4 ?_)
 subst hw2
 go_upto_region 2 with (first | refine wpList_alloc_row rfl 32 rfl _ z4 ?_ | refine wpList_build_Z rfl 32 rfl _ b4 ?_ | (refine wpList_store_R rfl 32 _ _ rfl _ (C .u64 (Z 4)) (by first | rfl | (simp;rfl)) rfl r4 i4 rfl (C_allL _ _) ?_;intro w5 q4 hg5 hz5))
 replace r2:=r2.grown hg5 (by simp)
 replace hL:=below_grown hL hg5 (by omega) r4.lt
 clear r4 hg5
 rw [show Z 4 = wds (val 256 (b.take 0)) by rw [List.take_zero];rfl] at q4
 try simp only [alloc_size]
 go_wp2
 go_loopw [4] (fun i wr=>∃ k:Nat,k ≤ 32 ∧ i = .int .i64 k ∧ Row wr w.heap.size 32 (C .u64 (Z 4)) ∧ Row wr (w.heap.size + 1) 32 (C .u64 (wds (val 256 (b.take k)))) ∧ Below w.heap.size w wr) (fun i _=>32 - (intOf i).toNat)
 case atStart=>exact ⟨0,Nat.zero_le _,rfl,r2,q4,hL⟩
 case round =>
  clear r2 q4 hL
  obtain ⟨k,hk,rfl,r2,q4,hL⟩:=hrel
  by_cases hlt:k < 32
  ·have cb:=(hv.below hL).cellAt (C_get .u8 (i:=k) (by omega))
   have bx:=hb.getD (by decide) k
   have hv:=val_take_lt (B:=256) (by decide) hb k
   obtain ⟨hs1,hs2,hs3⟩:=word_set hlt hv bx
   rw [← val_take_succ] at hs1
   have lV:=wds_length (val 256 (b.take k))
   have hwlo:=(wds_lo (val 256 (b.take k))).getD (by decide) (k / 8)
   generalize wds (val 256 (b.take k)) = V at *
   have c4:=q4.cell (k / 8)
   rw [C_get .u64 (by omega)] at c4
   have hf:=q4.frozen (k / 8)
   obtain ⟨q,hq⟩:∃ q,k / 8 = q:=⟨_,rfl⟩
   obtain ⟨r,hr⟩:∃ r,k % 8 = r:=⟨_,rfl⟩
   rw [hq] at c4 hs1 hs2 hf hwlo
   rw [hr] at hs1 hs2
   obtain ⟨s,hs⟩:∃ s,8 * r = s:=⟨_,rfl⟩
   rw [hs] at hs1 hs2
   generalize V.getD q 0 = a at *
   generalize b.getD k 0 = x at *
   have hps:(2:Nat) ^ s ≤ 2 ^ 56:=Nat.pow_le_pow_right (by decide) (by omega)
   have hxs:x * 2 ^ s < 18446744073709551616 - 2 ^ 56 + 1:=Nat.lt_of_le_of_lt (Nat.mul_le_mul (show x ≤ 255 by omega) hps) (by decide)
   have hor:=or_add (x:=x) hs2
   have cx:(x:Int) * 2 ^ s = ((x * 2 ^ s:Nat):Int):=by simp
   have hps2:(2:Nat) ^ s < 2 ^ 57:=Nat.lt_of_le_of_lt hps (by decide)
   obtain ⟨m,hm⟩:∃ m,x * 2 ^ s = m:=⟨_,rfl⟩
   rw [hm] at hs1 hxs hor cx
   generalize hPS:(2:Nat) ^ s = ps at *
   have hml:m < 18446744073709551616:=by omega
   have hal:a < 72057594037927936:=by have e:=hps;simp at e;omega
   have es:IntKind.u64.wrap ((x:Int) * 2 ^ s) = (m:Int):=by rw [cx,IntKind.wrap_u64];omega
   obtain ⟨z,hz⟩:∃ z,a + m = z:=⟨_,rfl⟩
   rw [hz] at hs1 hor
   have hzl:z < 18446744073709551616:=by simp at hxs;omega
   have eo:bits .or .u64 (a:Int) (m:Int) = (z:Int):=by rw [u64_or_nat a m hwlo hml,hor]
   have ea:IntKind.u64.wrap ((a:Int) + (m:Int)) = (z:Int):=by rw [IntKind.wrap_u64];omega
   have ex:IntKind.u64.wrap (x:Int) = (x:Int):=by rw [IntKind.wrap_u64];omega
   have dq:(k:Int).tdiv 8 = (q:Int):=by rw [Int.tdiv_eq_ediv_of_nonneg (by omega)];omega
   have dq':(k:Int) / 8 = (q:Int):=by omega
   have bq:(q:Int) < 4:=by omega
   have dr:(k:Int).tmod 8 = (r:Int):=by rw [Int.tmod_eq_emod_of_nonneg (by omega)];omega
   have dr':(k:Int) % 8 = (r:Int):=by omega
   have ds:IntKind.i64.wrap (8 * (r:Int)) = (s:Int):=by rw [IntWalk.i64_in _ ⟨by omega,by omega⟩];omega
   have ds':8 * (r:Int) = (s:Int):=by omega
   have du:IntKind.u64.wrap (s:Int) = (s:Int):=by rw [IntKind.wrap_u64];omega
   have bs:(s:Int) < 64:=by omega
   have bk:(k:Int) < 32:=by omega
   have wq:IntKind.i64.wrap (q:Int) = (q:Int):=by rw [IntWalk.i64_in _ ⟨by omega,by omega⟩]
   have wr':IntKind.i64.wrap (r:Int) = (r:Int):=by rw [IntWalk.i64_in _ ⟨by omega,by omega⟩]
   have ws':IntKind.i64.wrap (s:Int) = (s:Int):=by rw [IntWalk.i64_in _ ⟨by omega,by omega⟩]
   have HV:=Away.mk hs1
   have m2:=r2.drew.other (i:=q) (.int .u64 (z:Int)) (show w.heap.size ≠ w.heap.size + 1 by omega)
   have m4:=row_set q4.drew q z
   have mL:=(below_drawn hL).setCell (p:=⟨w.heap.size + 1,q,none⟩) (by simp) (.int .u64 (z:Int))
   have c4d:wr.drew.cell? ⟨w.heap.size + 1,q,none⟩ = some (.int .u64 (a:Int)):=c4
   have hfd:wr.drew.frozen? ⟨w.heap.size + 1,q,none⟩ = false:=hf
   have cbd:wr.drew.cell? ⟨gb,off + k,none⟩ = some (.int .u8 (x:Int)):=cb
   clear hs1 hs2 hs3 hv bx hq hr hs hps hps2 hxs hor cx hm hPS hml hal hz hzl hwlo r2 q4 hL lV c4 hf cb
   go_wp2
   refine wp_region_noPanic ?_
   refine wp_region_U (S:=fun w'=>w'.cell? ⟨w.heap.size + 1,q,none⟩ = some (.int .u64 (a:Int)) ∧ w'.cell? ⟨gb,off + k,none⟩ = some (.int .u8 (x:Int))) 18 (by kernel_rfl) (⟨c4d,cbd⟩) (fun _=>?_)
   refine tkU 0 ?v0s rfl ?h0s ?_
   case h0s=>intro w hSw;obtain ⟨hS1,hS2⟩:=hSw;go_simp <;> with_reducible rfl
   simp only [Act.put,stA,st0,st1]
   refine tkU 1 ?v1s rfl ?h1s ?_
   case h1s=>intro w hSw;obtain ⟨hS1,hS2⟩:=hSw;go_simp <;> with_reducible rfl
   simp only [Act.put,stA,st0,st1]
   refine tkU 2 ?v2s rfl ?h2s ?_
   case h2s=>intro w hSw;obtain ⟨hS1,hS2⟩:=hSw;go_simp <;> with_reducible rfl
   simp only [Act.put,stA,st0,st1]
   refine tkU 3 ?v3s rfl ?h3s ?_
   case h3s=>intro w hSw;obtain ⟨hS1,hS2⟩:=hSw;go_simp <;> with_reducible rfl
   simp only [Act.put,stA,st0,st1]
   refine tkU 4 ?v4s rfl ?h4s ?_
   case h4s=>intro w hSw;obtain ⟨hS1,hS2⟩:=hSw;go_simp <;> with_reducible rfl
   simp only [Act.put,stA,st0,st1]
   refine tkU 5 ?v5s rfl ?h5s ?_
   case h5s=>intro w hSw;obtain ⟨hS1,hS2⟩:=hSw;go_simp <;> with_reducible rfl
   simp only [Act.put,stA,st0,st1]
   refine tkU 6 ?v6s rfl ?h6s ?_
   case h6s=>intro w hSw;obtain ⟨hS1,hS2⟩:=hSw;go_simp <;> with_reducible rfl
   simp only [Act.put,stA,st0,st1]
   refine tkU 7 ?v7s rfl ?h7s ?_
   case h7s=>intro w hSw;obtain ⟨hS1,hS2⟩:=hSw;go_simp <;> with_reducible rfl
   simp only [Act.put,stA,st0,st1]
   refine tkU 8 ?v8s rfl ?h8s ?_
   case h8s=>intro w hSw;obtain ⟨hS1,hS2⟩:=hSw;go_simp <;> with_reducible rfl
   simp only [Act.put,stA,st0,st1]
   refine tkU 9 ?v9s rfl ?h9s ?_
   case h9s=>intro w hSw;obtain ⟨hS1,hS2⟩:=hSw;go_simp <;> with_reducible rfl
   simp only [Act.put,stA,st0,st1]
   refine tkU 10 ?v10s rfl ?h10s ?_
   case h10s=>intro w hSw;obtain ⟨hS1,hS2⟩:=hSw;go_simp <;> with_reducible rfl
   simp only [Act.put,stA,st0,st1]
   refine tkU 11 ?v11s rfl ?h11s ?_
   case h11s=>intro w hSw;obtain ⟨hS1,hS2⟩:=hSw;go_simp <;> with_reducible rfl
   simp only [Act.put,stA,st0,st1]
   refine tkU 12 ?v12s rfl ?h12s ?_
   case h12s=>intro w hSw;obtain ⟨hS1,hS2⟩:=hSw;go_simp <;> with_reducible rfl
   simp only [Act.put,stA,st0,st1]
   refine tkU 13 ?v13s rfl ?h13s ?_
   case h13s=>intro w hSw;obtain ⟨hS1,hS2⟩:=hSw;go_simp <;> with_reducible rfl
   simp only [Act.put,stA,st0,st1]
   refine tkU 14 ?v14s rfl ?h14s ?_
   case h14s=>intro w hSw;obtain ⟨hS1,hS2⟩:=hSw;go_simp <;> with_reducible rfl
   simp only [Act.put,stA,st0,st1]
   refine tkU 15 ?v15s rfl ?h15s ?_
   case h15s=>intro w hSw;obtain ⟨hS1,hS2⟩:=hSw;go_simp <;> with_reducible rfl
   simp only [Act.put,stA,st0,st1]
   refine tkU 16 ?v16s rfl ?h16s ?_
   case h16s=>intro w hSw;obtain ⟨hS1,hS2⟩:=hSw;go_simp <;> with_reducible rfl
   simp only [Act.put,stA,st0,st1]
   refine tkU 17 ?v17s rfl ?h17s ?_
   case h17s=>intro w hSw;obtain ⟨hS1,hS2⟩:=hSw;go_simp <;> with_reducible rfl
   simp only [Act.put,stA,st0,st1]
   refine wpAnyU_oneL (i:=18) (by kernel_rfl) rfl (by rfl) (fun K hK=>?_)
   go_simp
   refine hK.out _ _ (fun hz=>absurd rfl hz) (fun _=>?_)
   clear hK K
   refine wpAnyU_done (by kernel_rfl) ?_ _
   refine NoPanic.normal ?_
   clear c4d hfd cbd
   go_wp2
   go_roundw
   case rel=>exact ⟨k + 1,by omega,by go_num,m2,by rw [← HV.out];exact m4,mL⟩
   case measure=>simp [intOf];omega
  ·have HK:Away (k = 32):=⟨by omega⟩
   have dk:decide ((k:Int) < 32) = false:=decide_eq_false (by omega)
   rw [HK.out,List.take_of_length_le (Nat.le_of_eq hl),HN.out] at q4
   clear hlt hk hv
   go_wp2_with (first | refine wpList_load_row rfl 32 _ rfl _ rfl _ _ _ _ q4 Tryz.underlying32 rfl (ie4 _) ?_ | (refine wpList_store_R rfl 32 _ _ rfl _ (C .u64 (wds N)) rfl rfl r2 (ie4 _) (ze4 _) (C_allL _ _) ?_;intro w7 q7 hg7 hz7))
   exact result_row Tryz.results86 rfl q7 Tryz.underlying32 rfl (ie4 _) rfl ⟨rfl,below_grown hL hg7 (by omega) r2.lt⟩
theorem new_read {w w0:World} {g g4:Nat} {us vs:List Value} {t:TypeId} (q4:Row w g4 32 us) (h3:Row w g t vs) (hL:Below w0.heap.size w0 w) (hsz:g4 < w.heap.size):∃ g5:Nat,w.heap.size = g5 ∧ Row (w.alloc (.cells (C .u64 (Z 4)).toArray 32)) g5 32 (C .u64 (Z 4)) ∧ g4 < g5 ∧ g < g5 ∧ Row (w.alloc (.cells (C .u64 (Z 4)).toArray 32)) g4 32 us ∧ Row (w.alloc (.cells (C .u64 (Z 4)).toArray 32)) g t vs ∧ Below w0.heap.size w0 (w.alloc (.cells (C .u64 (Z 4)).toArray 32)) ∧ g4 < (w.alloc (.cells (C .u64 (Z 4)).toArray 32)).heap.size :=
 ⟨_,rfl,Row.new w _ _,hsz,h3.lt,q4.alloc _,h3.alloc _,hL.alloc hL.size _,by rw [alloc_size];omega⟩
set_option maxHeartbeats 4000000 in
theorem frefread_any (b:List Nat) (hb:Lo 256 b) (hl:b.length = 32) (w:World):Calls Tryz.prog 80 #[.agg (C .u8 b).toArray] w fun e w'=>e = .returned (.tuple #[el (if val 256 b < P then val 256 b else 0),.bool (decide (val 256 b < P))]) ∧ Below w.heap.size w w':=by
 obtain ⟨w2,h2,r1,h3,hL,hS⟩:=rows2 w 22 32 (C .u8 b) (C .u64 (Z 4))
 have hsl:=r1.slAll (by rw [C_length,hl];unfold maxLen;omega)
 rw [C_length,hl] at hsl
 have hwh:=fwhole_any _ b hb hl _ hsl
 have hNl:=val_bytes_lt hb hl
 obtain ⟨N,hN⟩:∃ N,val 256 b = N:=⟨_,rfl⟩
 rw [hN] at hNl hwh ⊢
 have HN:=Away.mk hN
 clear hN
 obtain ⟨D,hD⟩:∃ D,(if N < P then N else 0) = D:=⟨_,rfl⟩
 rw [hD]
 have HD:=Away.mk hD
 clear hD
 obtain ⟨ov,hov⟩:∃ ov,decide (N < P) = ov:=⟨_,rfl⟩
 rw [hov]
 have HO:=Away.mk hov
 clear hov
 have hlp:=refless_NP N hNl
 rw [show decide (N < P) = ov from HO.out] at hlp
 generalize (N + 115792089237316195423570985008687907853269984665640564039457584007913129639936 - P) % 115792089237316195423570985008687907853269984665640564039457584007913129639936 = D2 at *
 unfold el
 go_enter Tryz.func80,Tryz.ntmps80
 go_upto_region 1 with (refine wpList_alloc_row rfl 32 rfl _ z4 ?_)
 try simp only [Act.put,stA,st0,st1,alloc_size,h2]
 clear h2
 go_wp2_with fail
 refine hwh.mono ?_
 rintro _ wn ⟨rfl,hb2⟩
 replace h3:=h3.belowS hb2
 replace hL:=hL.trans (hb2.mono hL.size)
 have hgs:=hb2.size
 clear hb2 r1 hsl
 have q0:=Row.new wn 32 (C .u64 (Z 4))
 have hn3:=h3.lt
 replace h3:=h3.alloc (.cells (C .u64 (Z 4)).toArray 32)
 replace hL:=hL.alloc hL.size (.cells (C .u64 (Z 4)).toArray 32)
 generalize hg4:wn.heap.size = g4 at *
 go_upto_region 2 with (first | refine wpList_alloc_row rfl 32 rfl _ z4 ?_ | (refine wpList_store_R rfl 32 _ _ rfl _ (C .u64 (wds N)) (by rw [← hg4];rfl) rfl q0 (ie4 _) (ze4 _) (C_allL _ _) ?_;intro w5 q4 hg5 hz5))
 replace h3:=h3.grown hg5 (by simp;omega)
 replace hL:=below_grown hL hg5 (by omega) q0.lt
 try rw [hg4]
 clear q0 hg5 hz5 hg4
 replace q4:=q4.drew
 replace h3:=h3.drew
 replace hL:=below_drawn hL
 have hsz:=q4.lt
 try simp only [Act.put,stA,st0,st1]
 go_cut [6] (fun v6 wc=>v6 = .bool ov ∧ Row wc g4 32 (C .u64 (wds N)) ∧ Row wc (w.heap.size + 1) 32 (C .u64 (Z 4)) ∧ Below w.heap.size w wc)
 case first =>
  refine wp_region_noPanic ?_
  refine wp_region_held_drew (S:=fun w'=>Row w' g4 32 (C .u64 (wds N))) (by kernel_rfl) q4 (fun _=>?_)
  refine tkL 0 (.agg (C .u64 (wds N)).toArray) rfl (fun w hSw=>exec_load_R 32 _ rfl rfl hSw Tryz.underlying32 (ie4 N)) ?_
  simp only [Act.put,stA,st0,st1]
  refine ar2 1 6 rfl rfl (fun K hK=>?_) (fun K hK=>?_)
  ·go_simp
   refine (prime_el _).mono ?_
   rintro _ wn ⟨rfl,hb⟩
   replace q4:=q4.belowS hb
   replace h3:=h3.belowS hb
   replace hL:=hL.trans (hb.mono hL.size)
   replace hsz:=Nat.lt_of_lt_of_le hsz hb.size
   clear hb
   refine hK.out _ _ q4 (fun _=>?_)
   clear hK K
   refine ar2 2 6 rfl rfl (fun K hK=>?_) (fun K hK=>?_)
   ·go_simp
    refine (hlp _).mono ?_
    rintro _ wn ⟨rfl,hb⟩
    replace q4:=q4.belowS hb
    replace h3:=h3.belowS hb
    replace hL:=hL.trans (hb.mono hL.size)
    replace hsz:=Nat.lt_of_lt_of_le hsz hb.size
    clear hb
    refine hK.out _ _ q4 (fun _=>?_)
    clear hK K
    refine tkg 3 rfl ?_
    simp only [Act.put,stA,st0,st1]
    refine tkg 4 rfl ?_
    simp only [Act.put,stA,st0,st1]
    refine tkg 5 rfl ?_
    simp only [Act.put,stA,st0,st1]
    refine ar1 6 rfl (fun K hK=>?_)
    refine wp_alloc_R 32 rfl (C .u64 (Z 4)) z4 ?_
    obtain ⟨g5,hg5,q5,n5,n6,q4',h3',hL',hsz'⟩:=new_read q4 h3 hL hsz
    replace q4:=q4'
    replace h3:=h3'
    replace hL:=hL'
    replace hsz:=hsz'
    clear q4' h3' hL' hsz'
    rw [hg5]
    clear hg5
    refine hK.out _ _ q4 (fun _=>?_)
    clear hK K
    refine ar1 7 rfl (fun K hK=>?_)
    refine wp_store_R 32 _ _ rfl _ (C .u64 (wds D2)) rfl rfl q5 (ie4 _) (ze4 _) (C_allL _ _) ?_
    intro wz q5' hg hz
    replace q4:=q4.grown hg (by simp;omega)
    replace h3:=h3.grown hg (by simp;omega)
    replace hL:=below_grown hL hg (by omega) q5.lt
    clear q5 q5' hg
    refine hK.out _ _ q4 (fun _=>?_)
    clear hK K
    refine tkg 8 rfl ?_
    simp only [Act.put,stA,st0,st1]
    refine wpAnyH_done (by kernel_rfl) ?_ _
    refine NoPanic.normal ?_
    go_wp2
    go_meet
    case rel=>exact ⟨rfl,q4,h3,hL⟩
   ·refine wp_alloc_R 32 rfl (C .u64 (Z 4)) z4 ?_
    obtain ⟨g5,hg5,q5,n5,n6,q4',h3',hL',hsz'⟩:=new_read q4 h3 hL hsz
    replace q4:=q4'
    replace h3:=h3'
    replace hL:=hL'
    replace hsz:=hsz'
    clear q4' h3' hL' hsz'
    rw [hg5]
    clear hg5
    refine hK.out _ _ q4 (fun _=>?_)
    clear hK K
    refine ar1 2 rfl (fun K hK=>?_)
    go_simp
    refine (hlp _).mono ?_
    rintro _ wn ⟨rfl,hb⟩
    replace q4:=q4.belowS hb
    replace h3:=h3.belowS hb
    replace hL:=hL.trans (hb.mono hL.size)
    replace hsz:=Nat.lt_of_lt_of_le hsz hb.size
    replace q5:=q5.belowS hb
    clear hb
    refine hK.out _ _ q4 (fun _=>?_)
    clear hK K
    refine tkg 3 rfl ?_
    simp only [Act.put,stA,st0,st1]
    refine tkg 4 rfl ?_
    simp only [Act.put,stA,st0,st1]
    refine tkg 5 rfl ?_
    simp only [Act.put,stA,st0,st1]
    refine ar1 7 rfl (fun K hK=>?_)
    refine wp_store_R 32 _ _ rfl _ (C .u64 (wds D2)) rfl rfl q5 (ie4 _) (ze4 _) (C_allL _ _) ?_
    intro wz q5' hg hz
    replace q4:=q4.grown hg (by simp;omega)
    replace h3:=h3.grown hg (by simp;omega)
    replace hL:=below_grown hL hg (by omega) q5.lt
    clear q5 q5' hg
    refine hK.out _ _ q4 (fun _=>?_)
    clear hK K
    refine tkg 8 rfl ?_
    simp only [Act.put,stA,st0,st1]
    refine wpAnyH_done (by kernel_rfl) ?_ _
    refine NoPanic.normal ?_
    go_wp2
    go_meet
    case rel=>exact ⟨rfl,q4,h3,hL⟩
  ·refine wp_alloc_R 32 rfl (C .u64 (Z 4)) z4 ?_
   obtain ⟨g5,hg5,q5,n5,n6,q4',h3',hL',hsz'⟩:=new_read q4 h3 hL hsz
   replace q4:=q4'
   replace h3:=h3'
   replace hL:=hL'
   replace hsz:=hsz'
   clear q4' h3' hL' hsz'
   rw [hg5]
   clear hg5
   refine hK.out _ _ q4 (fun _=>?_)
   clear hK K
   refine ar1 1 rfl (fun K hK=>?_)
   go_simp
   refine (prime_el _).mono ?_
   rintro _ wn ⟨rfl,hb⟩
   replace q4:=q4.belowS hb
   replace h3:=h3.belowS hb
   replace hL:=hL.trans (hb.mono hL.size)
   replace hsz:=Nat.lt_of_lt_of_le hsz hb.size
   replace q5:=q5.belowS hb
   clear hb
   refine hK.out _ _ q4 (fun _=>?_)
   clear hK K
   refine ar1 2 rfl (fun K hK=>?_)
   go_simp
   refine (hlp _).mono ?_
   rintro _ wn ⟨rfl,hb⟩
   replace q4:=q4.belowS hb
   replace h3:=h3.belowS hb
   replace hL:=hL.trans (hb.mono hL.size)
   replace hsz:=Nat.lt_of_lt_of_le hsz hb.size
   replace q5:=q5.belowS hb
   clear hb
   refine hK.out _ _ q4 (fun _=>?_)
   clear hK K
   refine tkg 3 rfl ?_
   simp only [Act.put,stA,st0,st1]
   refine tkg 4 rfl ?_
   simp only [Act.put,stA,st0,st1]
   refine tkg 5 rfl ?_
   simp only [Act.put,stA,st0,st1]
   refine ar1 7 rfl (fun K hK=>?_)
   refine wp_store_R 32 _ _ rfl _ (C .u64 (wds D2)) rfl rfl q5 (ie4 _) (ze4 _) (C_allL _ _) ?_
   intro wz q5' hg hz
   replace q4:=q4.grown hg (by simp;omega)
   replace h3:=h3.grown hg (by simp;omega)
   replace hL:=below_grown hL hg (by omega) q5.lt
   clear q5 q5' hg
   refine hK.out _ _ q4 (fun _=>?_)
   clear hK K
   refine tkg 8 rfl ?_
   simp only [Act.put,stA,st0,st1]
   refine wpAnyH_done (by kernel_rfl) ?_ _
   refine NoPanic.normal ?_
   go_wp2
   go_meet
   case rel=>exact ⟨rfl,q4,h3,hL⟩
 case rest =>
  clear q4 h3 hL hsz
  obtain ⟨rfl,q4,h3,hL⟩:=hcut
  cases ov
  ·have hlt:¬ N < P:=of_decide_eq_false HO.out
   have hE:D = 0:=by rw [← HD.out,if_neg hlt]
   go_wp2_with (first | refine wpList_build_Z rfl 32 rfl _ b4z ?_ | (refine wpList_store_R rfl 32 _ _ rfl _ (C .u64 (wds 0)) rfl rfl h3 (ie4 _) (ze4 _) (C_allL _ _) ?_;intro w7 q7 hg7 hz7))
   exact result_row2 Tryz.results80 (v:=.bool false) rfl rfl q7 Tryz.underlying32 rfl (ie4 _) rfl ⟨by rw [hE],below_grown hL hg7 (by omega) h3.lt⟩
  ·have hlt:N < P:=of_decide_eq_true HO.out
   have hE:D = N:=by rw [← HD.out,if_pos hlt]
   go_wp2_with (first | refine wpList_load_row rfl 32 _ rfl _ rfl _ _ _ _ q4 Tryz.underlying32 rfl (ie4 _) ?_ | (refine wpList_store_R rfl 32 _ _ rfl _ (C .u64 (wds N)) rfl rfl h3 (ie4 _) (ze4 _) (C_allL _ _) ?_;intro w7 q7 hg7 hz7))
   exact result_row2 Tryz.results80 (v:=.bool true) rfl rfl q7 Tryz.underlying32 rfl (ie4 _) rfl ⟨by rw [hE],below_grown hL hg7 (by omega) h3.lt⟩
structure Tabs (w:World):Prop where
 p:Tab w
 r:Glob w 2 Q8
 i:Glob w 3 im
theorem Tabs.below {w w':World} (h:Tabs w) (hb:Below w.heap.size w w'):Tabs w':=⟨h.p.below hb,h.r.below hb,h.i.below hb⟩
theorem from_el (n:Nat) (hn:n < 18446744073709551616) (w:World):Calls Tryz.prog 108 #[.int .u64 (n:Int)] w fun e w'=>e = .returned (.agg (C .u64 (wds n)).toArray) ∧ Below w.heap.size w w':=from_any n hn w
theorem fadd_el (A B:Nat) (hA:A < 115792089237316195423570985008687907853269984665640564039457584007913129639936) (hB:B < 115792089237316195423570985008687907853269984665640564039457584007913129639936) (w:World) (hT:Tab w):Calls Tryz.prog 113 #[.agg (C .u64 (wds A)).toArray,.agg (C .u64 (wds B)).toArray] w fun e w'=>e = .returned (.agg (C .u64 (wds ((A + B) % P))).toArray) ∧ Below w.heap.size w w':=fadd_any A B hA hB w hT
theorem frefadd_el (A B:Nat) (hA:A < 115792089237316195423570985008687907853269984665640564039457584007913129639936) (hB:B < 115792089237316195423570985008687907853269984665640564039457584007913129639936) (w:World):Calls Tryz.prog 82 #[.agg (C .u64 (wds A)).toArray,.agg (C .u64 (wds B)).toArray] w fun e w'=>e = .returned (.agg (C .u64 (wds ((A + B) % P))).toArray) ∧ Below w.heap.size w w':=frefadd_any A B hA hB w
theorem finv_el (A:Nat) (hA:A < 115792089237316195423570985008687907853269984665640564039457584007913129639936) (w:World) (hT:Tab w) (hI:Glob w 6 (P - 2)):Calls Tryz.prog 114 #[.agg (C .u64 (wds A)).toArray] w fun e w'=>e = .returned (.agg (C .u64 (wds (A ^ (P - 2) % P))).toArray) ∧ Below w.heap.size w w':=finv_any A hA w hT hI
theorem frefinv_el (A:Nat) (hA:A < 115792089237316195423570985008687907853269984665640564039457584007913129639936) (w:World):Calls Tryz.prog 49 #[.agg (C .u64 (wds A)).toArray] w fun e w'=>e = .returned (.agg (C .u64 (wds (A ^ (P - 2) % P))).toArray) ∧ Below w.heap.size w w':=frefinv_any A hA w
theorem froot_el (A:Nat) (hA:A < 115792089237316195423570985008687907853269984665640564039457584007913129639936) (w:World) (hT:Tabs w):Calls Tryz.prog 69 #[.agg (C .u64 (wds A)).toArray] w fun e w'=>e = .returned (.tuple #[.agg (C .u64 (wds (rt A).1)).toArray,.bool (rt A).2]) ∧ Below w.heap.size w w':=froot_any A hA w hT.p hT.r hT.i
theorem frefroot_el (A:Nat) (hA:A < 115792089237316195423570985008687907853269984665640564039457584007913129639936) (w:World):Calls Tryz.prog 84 #[.agg (C .u64 (wds A)).toArray] w fun e w'=>e = .returned (.tuple #[.agg (C .u64 (wds (rt A).1)).toArray,.bool (rt A).2]) ∧ Below w.heap.size w w':=frefroot_any A hA w
theorem fbytes_el (A:Nat) (hA:A < 115792089237316195423570985008687907853269984665640564039457584007913129639936) (w:World) (hT:Tab w):Calls Tryz.prog 74 #[.agg (C .u64 (wds A)).toArray] w fun e w'=>e = .returned (.agg (C .u8 (dig 256 32 (A % P))).toArray) ∧ Below w.heap.size w w':=fbytes_any A hA w hT
theorem frefbytes_el (A:Nat) (hA:A < 115792089237316195423570985008687907853269984665640564039457584007913129639936) (w:World):Calls Tryz.prog 47 #[.agg (C .u64 (wds A)).toArray] w fun e w'=>e = .returned (.agg (C .u8 (dig 256 32 (A % P))).toArray) ∧ Below w.heap.size w w':=frefbytes_any A hA w
theorem rt_lt (A:Nat):(rt A).1 < 115792089237316195423570985008687907853269984665640564039457584007913129639936:=by
 cases h:(rt A).2
 ·rw [(rt_none h).1];decide
 ·exact Nat.lt_trans (rt_true h).1 P_lt
theorem eq32 (w:World) (xs ys:List Nat) (hx:xs.length = 32) (hy:ys.length = 32):(Op.equalIn 10000 22 (.agg (C .u8 xs).toArray) (.agg (C .u8 ys).toArray)).run Tryz.prog w = .ok (decide (xs = ys)) w:=by
 have hi:∃ i,Tryz.prog.info? 5 = some i:=by
  have:=i1b
  cases hq:Tryz.prog.info? 5 with
  | none=>rw [hq] at this;cases this
  | some i=>exact ⟨i,rfl⟩
 exact run_equal_C w 9998 Tryz.underlying22 (by kernel_rfl) Tryz.underlying5 hi (by kernel_rfl) xs ys hx hy
theorem elem_of {zs:List Int} (hl:zs.length = 4) (h:∀ z ∈ zs,(Lit.int .u64 z).wf = true):∃ n,n < 115792089237316195423570985008687907853269984665640564039457584007913129639936 ∧ zs.map (Value.int .u64) = C .u64 (wds n):=by
 have hlo:Lo 18446744073709551616 (zs.map Int.toNat):=by
  intro x hx
  obtain ⟨z,hz,rfl⟩:=List.mem_map.1 hx
  have:=u64_of_wf (h z hz);omega
 obtain ⟨h1,h2⟩:=of_wds (xs:=zs.map Int.toNat) (by simpa using hl) hlo
 exact ⟨_,h1,by rw [C_ofInts (fun z hz=>(u64_of_wf (h z hz)).1),← h2]⟩
end Go.Proofs.YtmjimilhomabfaaGreatDoor.F
