/-
 The numbers of the document (affiantref04): products, quotients. Conditions: each as it says.
-/
import Derived.Test.YtmjimilhomabfaaGreatDoorR14a
import Derived.BigQuiet
namespace Go.Proofs.YtmjimilhomabfaaGreatDoor
open Go.RowKit
set_option linter.unusedVariables false
set_option maxRecDepth 10000
section
variable {B:Nat}
theorem mul_digit {out o1 ys:List Nat} {i k c x s:Nat} (hk:i + k < o1.length) (hd:o1.drop (i + k) = out.drop (i + k)) (hs:c + out.getD (i + k) 0 + x * ys.getD k 0 = s)
  (h:val B (o1.take (i + k)) + B ^ (i + k) * c = val B (out.take (i + k)) + B ^ i * x * val B (ys.take k)) :
  val B ((o1.set (i + k) (s % B)).take (i + (k + 1))) + B ^ (i + (k + 1)) * (s / B) = val B (out.take (i + (k + 1))) + B ^ i * x * val B (ys.take (k + 1)):=by
 rw [← Nat.add_assoc,val_take_set hk,val_take_succ,val_take_succ ys k,Nat.pow_succ B (i + k)]
 have h3:=Nat.mod_add_div s B
 have e:=Nat.pow_add B i k
 generalize val B (o1.take (i + k)) = a at *
 generalize val B (out.take (i + k)) = b at *
 generalize val B (ys.take k) = d at *
 generalize out.getD (i + k) 0 = o at *
 generalize ys.getD k 0 = y at *
 generalize s % B = u at *
 generalize s / B = v at *
 rw [e] at h ⊢
 generalize B ^ i = p at *
 generalize B ^ k = q at *
 subst hs
 grind
theorem mul_row {out o1 xs ys:List Nat} {i n c:Nat} (hB:0 < B) (hn:ys.length = n) (hi:i + n < out.length) (hl:o1.length = out.length) (hd:o1.drop (i + n) = out.drop (i + n)) (hx:Lo B xs) (hy:Lo B ys)
  (hv:val B out = val B (xs.take i) * val B ys) (h:val B (o1.take (i + n)) + B ^ (i + n) * c = val B (out.take (i + n)) + B ^ i * xs.getD i 0 * val B (ys.take n)) :
  val B (o1.set (i + n) c) = val B (xs.take (i + 1)) * val B ys:=by
 have h1:val B out < B ^ (i + n):=by
  rw [hv]
  have:=val_lt hB hy
  rw [hn] at this
  exact mul_fits (val_take_lt hB hx i) this
 have h2:=val_take_all hB h1
 have h3:val B (out.take (i + n + 1)) = val B out:=val_take_all hB (Nat.lt_of_lt_of_le h1 (Nat.pow_le_pow_right hB (by omega)))
 have h4:=val_take_drop (B:=B) out (i + n + 1) (by omega)
 have h5:=val_take_drop (B:=B) (o1.set (i + n) c) (i + n + 1) (by simp;omega)
 rw [drop_set_succ,drop_succ_of hd,val_take_set (by omega)] at h5
 rw [h3] at h4
 have h6:B ^ (i + n + 1) * val B (out.drop (i + n + 1)) = 0:=by omega
 rw [h6,h,h2,List.take_of_length_le (by omega:ys.length ≤ n),hv] at h5
 rw [h5,val_take_succ]
 generalize B ^ i = p
 grind
end
theorem mul_bound16 {x y:Nat} (hx:x < 65536) (hy:y < 65536):x * y ≤ 4294836225:=Nat.mul_le_mul (by omega:x ≤ 65535) (by omega:y ≤ 65535)
set_option maxHeartbeats 2000000 in
theorem refmul_any (va vb:Value) (xs ys:List Nat) (w:World) (ha:SlV w va (C .u32 xs)) (hb:SlV w vb (C .u32 ys)) (hx:Lo W32 xs) (hy:Lo W32 ys) (hxm:xs.length ≤ 100000) (hym:ys.length ≤ 100000) :
  Calls Tryz.prog 66 #[va,vb] w fun e w'=>∃ v',e = .returned v' ∧ RA w' v' (val W32 xs * val W32 ys) ∧ Below w.heap.size w w':=by
 obtain ⟨i0,hi,hz0,hz1,hz2⟩:=info_parts Tryz.info30
 have HA:=Away.mk ha;have HB:=Away.mk hb
 clear ha hb
 go_enter Tryz.func66,Tryz.ntmps66
 go_wp2_with fail
 refine (digits_any _ xs w HA.out hx hxm).mono ?_
 rintro _ w1 ⟨v1,es,rfl,hI1,hl1,hs1,hb1⟩
 go_wp2_with fail
 refine (digits_any _ ys w1 (HB.out.below hb1) hy hym).mono ?_
 rintro _ w2 ⟨v2,fs,rfl,hI2,hl2,hs2,hb2⟩
 have hs1:=hs1.below hb2
 have hb02:Below w.heap.size w w2:=hb1.trans (hb2.mono hb1.size)
 obtain ⟨n1,hn1⟩:∃ n,es.length = n:=⟨_,rfl⟩
 obtain ⟨n2,hn2⟩:∃ n,fs.length = n:=⟨_,rfl⟩
 obtain ⟨a1,c1,rfl,q1,r1⟩:=hs1.shapeC hn1
 obtain ⟨a2,c2,rfl,q2,r2⟩:=hs2.shapeC hn2
 obtain ⟨m,hm⟩:∃ m,n1 + n2 = m:=⟨_,rfl⟩
 have em:(n1:Int) + (n2:Int) = (m:Int):=by omega
 have hmm:m ≤ 400000 ∧ n1 ≤ 200000 ∧ n2 ≤ 200000:=by omega
 have HS1:=Away.mk hs1;have HS2:=Away.mk hs2;have HI1:=Away.mk hI1;have HI2:=Away.mk hI2;have HB2:=Away.mk hb02;have HM:=Away.mk hm
 clear hs1 hs2 hI1 hI2 hb1 hb2 hb02 HA HB hm hl1 hl2
 go_wp2_with (at_make;refine wpList_make_full _ rfl _ _ 103 rfl w2.heap.size 30 i0 _ 1 Tryz.underlying103 hi hz0 hz1 _ _ _ _ m rfl rfl (by omega) (by omega) (by rw [hz2];omega) (by unfold maxLen;omega) (Nat.le_refl _) ?_)
 intro w3 hown hg3
 have hr3:=Row.ofOwn (own_made hown)
 rw [← C_zeros] at hr3
 have hB3:Below w2.heap.size w2 w3:=(Below.refl _ w2).grown hg3 (Nat.le_refl _) (by simp)
 have HR3:=Away.mk hr3;have HB3:=Away.mk hB3
 clear hown hg3 hr3 hB3 em
 go_wp2
 go_loopw [8] (fun iv wr=>∃ (i:Nat) (out:List Nat),i ≤ n1 ∧ iv = .int .i64 (i:Int) ∧ out.length = m ∧ Lo W16 out ∧ val W16 out = val W16 (es.take i) * val W16 fs ∧ Row wr w2.heap.size 30 (C .u64 out) ∧ Below w2.heap.size w2 wr) (fun i _=>n1 - (intOf i).toNat)
 case atStart=>exact ⟨0,_,Nat.zero_le _,rfl,by simp,Lo.zeros (by decide) _,by simp [val,val_zeros],HR3.out,HB3.out⟩
 case round =>
  obtain ⟨i,out,hi',rfl,hol,holo,hval,hr,hb⟩:=hrel
  by_cases hlt:i < n1
  ·obtain ⟨b,off,rfl,hbl,hcx⟩:=HS1.out.cells (by rw [C_length];omega)
   have hckx:=hcx i _ (C_get _ (by omega))
   have hx1:es.getD i 0 < 65536:=HI1.out.2.1.getD (by decide) _
   have HCX:=Away.mk hckx
   obtain ⟨x,hxx⟩:∃ x,es.getD i 0 = x:=⟨_,rfl⟩
   rw [hxx] at hckx hx1
   have HX:=Away.mk hckx;have HXX:=Away.mk hxx
   have HV:=Away.mk hval;have HR:=Away.mk hr;have HBo:=Away.mk hb;have HLo:=Away.mk holo
   have hin:i + n2 < m:=by have:=HM.out;omega
   clear hcx hckx hval hr hb holo HCX hxx
   go_wp2
   go_loopw [9,10] (fun cv kv wr=>∃ (k c:Nat) (o1:List Nat),k ≤ n2 ∧ kv = .int .i64 (k:Int) ∧ cv = .int .u64 (c:Int) ∧ c < 65536 ∧ o1.length = m ∧ Lo W16 o1 ∧ o1.drop (i + k) = out.drop (i + k) ∧ val W16 (o1.take (i + k)) + W16 ^ (i + k) * c = val W16 (out.take (i + k)) + W16 ^ i * x * val W16 (fs.take k) ∧ Row wr w2.heap.size 30 (C .u64 o1) ∧ Below w2.heap.size w2 wr) (fun _ k _=>n2 - (intOf k).toNat)
   case atStart=>exact ⟨0,0,out,Nat.zero_le _,rfl,rfl,by omega,hol,HLo.out,rfl,by simp [val],HR.out,HBo.out⟩
   case round =>
    obtain ⟨k,c,o1,hk,rfl,rfl,hc,hol1,holo1,hdr,hval,hr,hb⟩:=hrel
    by_cases hltk:k < n2
    ·obtain ⟨b2,off2,rfl,hbl2,hcx2⟩:=HS2.out.cells (by rw [C_length];omega)
     have hcx:=(hb.cell (p:=⟨b,off + i,none⟩) hbl).trans HX.out
     have hcy:=(hb.cell (p:=⟨b2,off2 + k,none⟩) hbl2).trans (hcx2 k _ (C_get _ (by omega)))
     have hy1:fs.getD k 0 < 65536:=HI2.out.2.1.getD (by decide) _
     obtain ⟨ik,hik⟩:∃ ik,i + k = ik:=⟨_,rfl⟩
     have hikm:ik < m:=by omega
     have hco:=(hr.cell ik).trans (C_get _ (by omega))
     have hfo:=hr.frozen ik
     have ho1:o1.getD ik 0 < 65536:=holo1.getD (by decide) _
     have hoo:=getD_of_drop hdr
     rw [hik] at hoo
     have hst:=fun s hs=>mul_digit (B:=W16) (s:=s) (by omega) hdr hs hval
     have hdd:=drop_succ_of hdr
     rw [hik] at hst hdd
     rw [← hoo] at hst
     generalize o1.getD ik 0 = o at *
     generalize fs.getD k 0 = y at *
     have hxy:=mul_bound16 hx1 hy1
     obtain ⟨z,hz⟩:∃ z,x * y = z:=⟨_,rfl⟩
     have hzi:(x:Int) * (y:Int) = (z:Int):=by rw [← hz];simp
     rw [hz] at hxy
     obtain ⟨co,hco1⟩:∃ co,c + o = co:=⟨_,rfl⟩
     obtain ⟨s,hs⟩:∃ s,co + z = s:=⟨_,rfl⟩
     obtain ⟨p,hp⟩:∃ p,s % 65536 = p:=⟨_,rfl⟩
     have e1:(c:Int) + (o:Int) = (co:Int):=by omega
     have e2:(co:Int) + (z:Int) = (s:Int):=by omega
     have e3:(s:Int) % 65536 = (p:Int):=by omega
     have e4:(i:Int) + (k:Int) = (ik:Int):=by omega
     have hcob:co < 131072:=by omega
     have hsb:s < 4294967296:=by omega
     have hpb:p < 65536:=by omega
     have HST:=Away.mk (hst s (by rw [hz,hco1];exact hs));have HR1:=Away.mk hr;have HB1:=Away.mk hb;have HL1:=Away.mk holo1;have HDD:=Away.mk hdd;have HP:=Away.mk hp;have HIK:=Away.mk hik
     clear hst hr hb holo1 hdd hp hz hs hco1 hoo hdr hval hcx2 hik
     go_wp2_with fail
     go_region
     go_wp2
     go_roundw
     case rel =>
      have hP:=HP.out
      have hS:=HST.out
      rw [show W16 = 65536 from rfl,hP] at hS
      refine ⟨k + 1,s / 65536,o1.set ik p,by omega,by simp,by simp,by omega,by simp [hol1],HL1.out.set _ _ hpb,?_,hS,?_,(HB1.out.setCell (p:=⟨w2.heap.size,ik,none⟩) (Nat.le_refl _) _).drew⟩
      ·have:=HIK.out
       rw [← Nat.add_assoc,this,drop_set_succ];exact HDD.out
      ·have:=HR1.out.set ik (.int .u64 (p:Int))
       rw [← C_set] at this
       exact this
     case measure=>simp [intOf];omega
    ·obtain rfl:k = n2:=by omega
     have hrow:=mul_row (B:=W16) (xs:=es) (ys:=fs) (by decide) hn2 (by omega) (by omega) hdr HI1.out.2.1 HI2.out.2.1 HV.out (by rw [HXX.out];exact hval)
     obtain ⟨ik,hik⟩:∃ ik,i + k = ik:=⟨_,rfl⟩
     rw [hik] at hrow hin
     have hfo:=hr.frozen ik
     have hco:=(hr.cell ik).trans (C_get _ (by omega))
     generalize o1.getD ik 0 = o at hco
     have e4:(i:Int) + (k:Int) = (ik:Int):=by omega
     have HW:=Away.mk hrow;have HR1:=Away.mk hr;have HB1:=Away.mk hb;have HL1:=Away.mk holo1
     clear hrow hr hb holo1 hdr hval hik
     go_wp2
     go_roundw
     case rel =>
      refine ⟨i + 1,o1.set ik c,by omega,by simp,by simp [hol1],HL1.out.set _ _ hc,HW.out,?_,HB1.out.setCell (p:=⟨w2.heap.size,ik,none⟩) (Nat.le_refl _) _⟩
      have:=HR1.out.set ik (.int .u64 (c:Int))
      rw [← C_set] at this
      exact this
     case measure=>simp [intOf];omega
  ·obtain rfl:i = n1:=by omega
   rw [List.take_of_length_le (by omega),HI1.out.1,HI2.out.1] at hval
   have hsl:=hr.slAll (by rw [C_length];unfold maxLen;omega)
   rw [C_length,hol] at hsl
   have HT:=Away.mk (whole_any _ out wr hsl holo (by omega))
   rw [hval] at HT
   have HBr:=Away.mk (HB2.out.trans (hb.mono HB2.out.size))
   clear hval hr hb holo HR3 HB3 hsl
   go_wp2_with fail
   refine HT.out.mono ?_
   rintro _ w6 ⟨v',rfl,hans,hb6⟩
   go_wp2
   go_ret
   exact ⟨_,rfl,hans,HBr.out.trans (hb6.mono HBr.out.size)⟩
theorem next_ge {R D P top b:Nat} (hP:0 < P) (ht:R / P = top) (hb:D / P = b) (hb0:0 < b) (hD:0 < D):R / D ≤ top / b:=by
 rw [Nat.le_div_iff_mul_le hb0,← ht,Nat.le_div_iff_mul_le hP]
 have h1:b * P ≤ D:=by rw [← hb];exact Nat.div_mul_le_self _ _
 calc R / D * b * P = R / D * (b * P):=Nat.mul_assoc _ _ _
  _ ≤ R / D * D:=Nat.mul_le_mul_left _ h1
  _ ≤ R:=Nat.div_mul_le_self _ _
theorem next_top3 {rs:List Nat} {e:Nat} (hl:Lo W16 rs) (hR:val W16 rs < W16 ^ (e + 3)):val W16 rs / W16 ^ e = (rs.getD (e + 2) 0 * 65536 + rs.getD (e + 1) 0) * 65536 + rs.getD e 0:=by
 rw [getD_val (by decide) hl,getD_val (by decide) hl,getD_val (by decide) hl,Nat.pow_succ,Nat.pow_succ,← Nat.div_div_eq_div_mul,← Nat.div_div_eq_div_mul]
 have h:val W16 rs / W16 ^ e < W16 ^ 3:=Nat.div_lt_of_lt_mul (by rw [← Nat.pow_add];exact hR)
 generalize val W16 rs / W16 ^ e = t at *
 simp only [W16] at *
 omega
theorem next_top2 {rs:List Nat} {e:Nat} (hl:Lo W16 rs) (hR:val W16 rs < W16 ^ (e + 2)):val W16 rs / W16 ^ e = rs.getD (e + 1) 0 * 65536 + rs.getD e 0:=by
 rw [getD_val (by decide) hl,getD_val (by decide) hl,Nat.pow_succ,← Nat.div_div_eq_div_mul]
 have h:val W16 rs / W16 ^ e < W16 ^ 2:=Nat.div_lt_of_lt_mul (by rw [← Nat.pow_add];exact hR)
 generalize val W16 rs / W16 ^ e = t at *
 simp only [W16] at *
 omega
set_option maxHeartbeats 4000000 in
theorem next_any (vr vy:Value) (rs ys:List Nat) (D:Nat) (w:World) (hr:SlV w vr (C .u64 rs)) (hy:SlV w vy (C .u64 ys)) (hrl:Lo W16 rs) (hI:Is W16 D ys) (hD:0 < D) (hrm:rs.length ≤ 300000) (hym:ys.length ≤ 300000) (hlt:val W16 rs < D * 65536) :
  Calls Tryz.prog 138 #[vr,vy] w fun e w'=>e = .returned (.int .u64 (val W16 rs / D:Nat)) ∧ Below w.heap.size w w':=by
 obtain ⟨n,hn⟩:∃ n,ys.length = n:=⟨_,rfl⟩
 have hnp:n ≠ 0:=by
  rintro rfl
  obtain rfl:=List.eq_nil_of_length_eq_zero hn
  have:D = 0:=hI.1.symm
  omega
 obtain ⟨n1,hn1⟩:∃ n1,n = n1 + 1:=⟨n - 1,by omega⟩
 have hyl:=hI.2.1
 have hDv:=hI.1
 have hlast:=hI.last (by decide) (by omega)
 rw [hn,hn1,Nat.add_sub_cancel] at hlast
 have hDlt:D < W16 ^ n:=hI.val_lt (by decide) (by omega)
 have hRlt:val W16 rs < W16 ^ (n + 1):=Nat.lt_of_lt_of_le hlt (by rw [Nat.pow_succ];exact Nat.mul_le_mul_right _ (by omega))
 have HDig:=fun i hi x hx=>digit_any vr rs i x hx (by omega) hi
 have HT:=fun q hq x hx=>times_any vy ys q x hx hyl (by omega) hq
 rw [hDv] at HT
 obtain ⟨Q,hQ⟩:∃ Q,val W16 rs / D = Q:=⟨_,rfl⟩
 have hQ1:Q < 65536:=by rw [← hQ];exact Nat.div_lt_of_lt_mul hlt
 rw [hQ]
 have hQmax:∀ q,q * D ≤ val W16 rs → q ≤ Q:=fun q h=>by rw [← hQ];exact (Nat.le_div_iff_mul_le hD).2 h
 obtain ⟨a,cap,rfl,q1,r1⟩:=hy.shapeC hn
 obtain ⟨b,off,rfl,hbl,hcx⟩:=hy.cells (by rw [C_length];omega)
 have hc1:=hcx n1 _ (C_get _ (by omega))
 have hf:=hyl.getD (show 0 < W16 by decide) n1
 obtain ⟨f,hff⟩:∃ f,ys.getD n1 0 = f:=⟨_,rfl⟩
 obtain ⟨h,hhh⟩:∃ h,rs.getD n 0 = h:=⟨_,rfl⟩
 obtain ⟨g,hgg⟩:∃ g,rs.getD n1 0 = g:=⟨_,rfl⟩
 rw [hff] at hc1 hf hlast
 have hhb:h < 65536:=by rw [← hhh];exact hrl.getD (by decide) _
 have hgb:g < 65536:=by rw [← hgg];exact hrl.getD (by decide) _
 have hfb:f < 65536:=hf
 obtain ⟨h6,hh6⟩:∃ h6,h * 65536 = h6:=⟨_,rfl⟩
 obtain ⟨t1,ht1⟩:∃ t1,h6 + g = t1:=⟨_,rfl⟩
 have ht1b:t1 < 4294967296:=by omega
 have hd1:=HDig n (by omega) w.drew (hr.below ((Below.refl _ _).drew))
 have hd2:=HDig n1 (by omega) w.drew (hr.below ((Below.refl _ _).drew))
 rw [hhh] at hd1
 rw [hgg] at hd2
 have hn30:n ≤ 300000:=by omega
 have hn1n:n1 < n:=by omega
 have hcmp:=fun es (hes:Lo W16 es) (hem:es.length ≤ 1000000) v x (hv:SlV x v (C .u64 es)) (hx:SlV x vr (C .u64 rs))=>compare_any v vr es rs x hv hx hes hrl hem (by omega)
 have en1:(n:Int) - 1 = (n1:Int):=by omega
 have HD1:=Away.mk hd1;have HD2:=Away.mk hd2;have HCM:=Away.mk hcmp;have HTI:=Away.mk HT;have HQ:=Away.mk hQmax;have HQE:=Away.mk hQ
 have HR:=Away.mk hr;have HY:=Away.mk hy;have HHH:=Away.mk hhh;have HGG:=Away.mk hgg;have HFF:=Away.mk hff;have HH6:=Away.mk hh6;have HT1:=Away.mk ht1
 have HDL:=Away.mk hDlt;have HRL:=Away.mk hRlt;have HLa:=Away.mk hlast;have HN1:=Away.mk hn1;have HLo:=Away.mk hrl;have HLy:=Away.mk hyl;have HDv:=Away.mk hDv;have HCX:=Away.mk hcx;have HNN:=Away.mk hn
 have HDig':=Away.mk HDig;have HDP:=Away.mk hD
 clear hd1 hd2 hcmp HT hQmax hQ hr hy hhh hgg hff hDlt hRlt hlast hn1 hrl hyl hDv hcx hn HDig hI hf hlt hh6 ht1 hD
 by_cases hn2:n1 = 0
 ·have d1:decide (1 < (n:Int)) = false:=decide_eq_false (by have:=HN1.out;omega)
  have htop:val W16 rs / W16 ^ 0 = t1:=by
   have h:=next_top2 (e:=0) HLo.out (by have:=HRL.out;rw [HN1.out,hn2] at this;exact this)
   rw [h,← HT1.out,← HH6.out,← HHH.out,← HGG.out,HN1.out,hn2]
  have hby:D / W16 ^ 0 = f:=by
   have h:=getD_val (B:=W16) (by decide) HLy.out 0
   have h2:=HFF.out
   rw [hn2,h,HDv.out,Nat.pow_zero,Nat.div_one] at h2
   have h3:=HDL.out
   rw [HN1.out,hn2] at h3
   rw [Nat.pow_zero,Nat.div_one,← h2,Nat.mod_eq_of_lt (by simpa using h3)]
  have hge:=next_ge (by decide) htop hby (by have:=HLa.out;omega) HDP.out
  rw [HQE.out] at hge
  obtain ⟨tq,htq⟩:∃ tq,t1 / f = tq:=⟨_,rfl⟩
  have e6:(t1:Int) / (f:Int) = (tq:Int):=by rw [← htq];simp
  rw [htq] at hge
  obtain ⟨q0,hmin,hq0⟩:∃ q0:Nat,min (tq:Int) 65535 = (q0:Int) ∧ (Q ≤ q0 ∧ q0 < 65536):=⟨min tq 65535,by omega,by omega,by omega⟩
  have hf0:(f:Int) ≠ 0:=by have:=HLa.out;omega
  have hfn:f ≠ 0:=HLa.out
  have htqb:tq ≤ t1:=by rw [← htq];exact Nat.div_le_self _ _
  have HBC:Away (Below w.heap.size w w.drew):=⟨(Below.refl _ _).drew⟩
  have HN2:=Away.mk hn2
  clear htop hby hge htq hn2
  go_enter Tryz.func138,Tryz.ntmps138
  go_wp2_with fail
  refine wp_region_noPanic ?_
  refine wp_region_held_drew (S:=fun w'=>w'.cell? ⟨b,off + n1,none⟩ = some (.int .u64 (f:Int))) (by kernel_rfl) (hc1) (fun _=>?_)
  refine tkg 0 rfl ?_
  simp only [Act.put,stA,st0,st1]
  refine tkg 1 rfl ?_
  simp only [Act.put,stA,st0,st1]
  refine tkg 4 rfl ?_
  simp only [Act.put,stA,st0,st1]
  refine tkg 5 rfl ?_
  simp only [Act.put,stA,st0,st1]
  refine tkL 6 (.int .i64 (n1:Int)) rfl ?h6a ?_
  case h6a=>intro w hSw;go_simp;rw [IntKind.wrap_i64];omega
  simp only [Act.put,stA,st0,st1]
  refine tkg 9 rfl ?_
  simp only [Act.put,stA,st0,st1]
  refine tkg 10 rfl ?_
  simp only [Act.put,stA,st0,st1]
  refine tkL 11 (.int .i64 (n1:Int)) rfl ?h11a ?_
  case h11a=>intro w hSw;go_simp;rw [IntKind.wrap_i64];omega
  simp only [Act.put,stA,st0,st1]
  refine tkg 12 rfl ?_
  simp only [Act.put,stA,st0,st1]
  refine tkg 13 rfl ?_
  simp only [Act.put,stA,st0,st1]
  refine ar1 2 rfl (fun K hK=>?_)
  go_simp
  refine HD1.out.mono ?_
  rintro _ w' ⟨rfl,rfl⟩
  refine hK.out _ _ (hc1) (fun _=>?_)
  clear hK K
  refine tkL 3 (.int .u64 (h6:Int)) rfl ?h3a ?_
  case h3a=>intro w hSw;go_simp;rw [wrapU];have:=HH6.out;have:=HT1.out;omega
  simp only [Act.put,stA,st0,st1]
  refine ar1 7 rfl (fun K hK=>?_)
  go_simp
  refine HD2.out.mono ?_
  rintro _ w' ⟨rfl,rfl⟩
  refine hK.out _ _ (hc1) (fun _=>?_)
  clear hK K
  refine tkL 8 (.int .u64 (t1:Int)) rfl ?h8a ?_
  case h8a=>intro w hSw;go_simp;rw [wrapU];have:=HH6.out;have:=HT1.out;omega
  simp only [Act.put,stA,st0,st1]
  refine tkg 14 rfl ?_
  simp only [Act.put,stA,st0,st1]
  refine tkg 15 rfl ?_
  simp only [Act.put,stA,st0,st1]
  refine wpAnyH_done (by kernel_rfl) ?_ _
  refine NoPanic.normal ?_
  go_wp2
  go_loopw [8] (fun qv wr=>∃ q:Nat,Q ≤ q ∧ q < 65536 ∧ qv = .int .u64 (q:Int) ∧ Below w.heap.size w wr) (fun q _=>(intOf q).toNat)
  case atStart=>exact ⟨q0,hq0.1,hq0.2,rfl,HBC.out⟩
  case round =>
   obtain ⟨q,hq1,hq2,rfl,hb⟩:=hrel
   have HB:=Away.mk hb
   clear hb
   go_wp2_with fail
   refine (HTI.out q hq2 _ (HY.out.below HB.out)).mono ?_
   rintro _ x1 ⟨v48,es,rfl,hIe,hel,hse,hb⟩
   have hb2:Below w.heap.size w x1:=HB.out.trans (hb.mono HB.out.size)
   have HC2:=Away.mk (HCM.out es hIe.2.1 (by omega) v48 x1 hse (HR.out.below hb2))
   rw [hIe.1] at HC2
   replace HB:=Away.mk hb2
   clear hb hb2 hIe hse hel
   go_wp2_with fail
   refine HC2.out.mono ?_
   rintro _ x2 ⟨rfl,rfl⟩
   by_cases hgt:val W16 rs < D * q
   ·have hc:decide (0 < cmpI (D * q) (val W16 rs)) = true:=decide_eq_true (cmpI_pos.2 hgt)
    have hQq:Q < q:=by
     rw [← HQE.out];exact Nat.div_lt_of_lt_mul hgt
    obtain ⟨q',hq'⟩:∃ q',q = q' + 1:=⟨q - 1,by omega⟩
    have eq':(q:Int) - 1 = (q':Int):=by omega
    generalize cmpI (D * q) (val W16 rs) = cc at *
    clear hgt
    have HQ':=Away.mk hq'
    clear hq'
    go_wp2
    go_roundw
    case rel =>
     have:=HQ'.out
     exact ⟨q',by omega,by omega,rfl,HB.out⟩
    case measure=>have:=HQ'.out;simp [intOf];omega
   ·have hc:decide (0 < cmpI (D * q) (val W16 rs)) = false:=decide_eq_false (fun h=>hgt (cmpI_pos.1 h))
    have hqQ:q = Q:=Nat.le_antisymm (HQ.out q (by rw [Nat.mul_comm];omega)) hq1
    generalize cmpI (D * q) (val W16 rs) = cc at *
    clear hgt
    go_wp2
    go_ret
    exact ⟨rfl,HB.out⟩
 ·obtain ⟨n2,hn2'⟩:∃ n2,n1 = n2 + 1:=⟨n1 - 1,by omega⟩
  have d1:decide (1 < (n:Int)) = true:=decide_eq_true (by have:=HN1.out;omega)
  have en2:(n:Int) - 2 = (n2:Int):=by omega
  have hn2n:n2 < n:=by omega
  have hc2:=HCX.out n2 _ (C_get _ (by have:=HNN.out;omega))
  obtain ⟨s,hss⟩:∃ s,ys.getD n2 0 = s:=⟨_,rfl⟩
  obtain ⟨l,hll⟩:∃ l,rs.getD n2 0 = l:=⟨_,rfl⟩
  rw [hss] at hc2
  have hsb:s < 65536:=by rw [← hss];exact HLy.out.getD (by decide) _
  have hlb:l < 65536:=by rw [← hll];exact HLo.out.getD (by decide) _
  obtain ⟨t2,ht2⟩:∃ t2,t1 * 65536 = t2:=⟨_,rfl⟩
  obtain ⟨t3,ht3⟩:∃ t3,t2 + l = t3:=⟨_,rfl⟩
  obtain ⟨f2,hf2⟩:∃ f2,f * 65536 = f2:=⟨_,rfl⟩
  obtain ⟨f3,hf3⟩:∃ f3,f2 + s = f3:=⟨_,rfl⟩
  have et2:(t1:Int) * 65536 = (t2:Int):=by omega
  have et3:(t2:Int) + (l:Int) = (t3:Int):=by omega
  have ef2:(f:Int) * 65536 = (f2:Int):=by omega
  have ef3:(f2:Int) + (s:Int) = (f3:Int):=by omega
  have ht2b:t2 < 281474976710656:=by omega
  have ht3b:t3 < 281474976710656:=by omega
  have hf2b:f2 < 4294967296:=by omega
  have hf3b:f3 < 4294967296:=by omega
  have htop:val W16 rs / W16 ^ n2 = t3:=by
   have h:=next_top3 (e:=n2) HLo.out (by have:=HRL.out;rw [HN1.out,hn2'] at this;exact this)
   have e1:=HHH.out;have e2:=HGG.out
   rw [HN1.out,hn2'] at e1
   rw [hn2'] at e2
   rw [h,e1,e2,hll,← ht3,← ht2,← HT1.out,← HH6.out]
  have hby:D / W16 ^ n2 = f3:=by
   have h:=next_top2 (e:=n2) HLy.out (by have:=HDL.out;rw [HN1.out,hn2'] at this;rw [HDv.out];exact this)
   have e1:=HFF.out
   rw [hn2'] at e1
   rw [HDv.out] at h
   rw [h,e1,hss,← hf3,← hf2]
  have hge:=next_ge (Nat.pow_pos (by decide)) htop hby (by have:=HLa.out;omega) HDP.out
  rw [HQE.out] at hge
  obtain ⟨tq,htq⟩:∃ tq,t3 / f3 = tq:=⟨_,rfl⟩
  have e6:(t3:Int) / (f3:Int) = (tq:Int):=by rw [← htq];simp
  rw [htq] at hge
  obtain ⟨q0,hmin,hq0⟩:∃ q0:Nat,min (tq:Int) 65535 = (q0:Int) ∧ (Q ≤ q0 ∧ q0 < 65536):=⟨min tq 65535,by omega,by omega,by omega⟩
  have hfn:f3 ≠ 0:=by have:=HLa.out;omega
  have hf0:(f3:Int) ≠ 0:=by omega
  have htqb:tq ≤ t3:=by rw [← htq];exact Nat.div_le_self _ _
  have HBC:Away (Below w.heap.size w w.drew):=⟨(Below.refl _ _).drew⟩
  have hd3:=HDig'.out n2 (by omega) w.drew (HR.out.below ((Below.refl _ _).drew))
  rw [hll] at hd3
  have HD3:=Away.mk hd3
  clear htop hby hge htq hd3 ht2 ht3 hf2 hf3 hss hll hn2'
  go_enter Tryz.func138,Tryz.ntmps138
  go_wp2_with fail
  refine wp_region_noPanic ?_
  refine wp_region_held_drew (S:=fun w'=>w'.cell? ⟨b,off + n1,none⟩ = some (.int .u64 (f:Int))) (by kernel_rfl) (hc1) (fun _=>?_)
  refine tkg 0 rfl ?_
  simp only [Act.put,stA,st0,st1]
  refine tkg 1 rfl ?_
  simp only [Act.put,stA,st0,st1]
  refine tkg 4 rfl ?_
  simp only [Act.put,stA,st0,st1]
  refine tkg 5 rfl ?_
  simp only [Act.put,stA,st0,st1]
  refine tkL 6 (.int .i64 (n1:Int)) rfl ?h6b ?_
  case h6b=>intro w hSw;go_simp;rw [IntKind.wrap_i64];omega
  simp only [Act.put,stA,st0,st1]
  refine tkg 9 rfl ?_
  simp only [Act.put,stA,st0,st1]
  refine tkg 10 rfl ?_
  simp only [Act.put,stA,st0,st1]
  refine tkL 11 (.int .i64 (n1:Int)) rfl ?h11b ?_
  case h11b=>intro w hSw;go_simp;rw [IntKind.wrap_i64];omega
  simp only [Act.put,stA,st0,st1]
  refine tkg 12 rfl ?_
  simp only [Act.put,stA,st0,st1]
  refine tkg 13 rfl ?_
  simp only [Act.put,stA,st0,st1]
  refine ar1 2 rfl (fun K hK=>?_)
  go_simp
  refine HD1.out.mono ?_
  rintro _ w' ⟨rfl,rfl⟩
  refine hK.out _ _ (hc1) (fun _=>?_)
  clear hK K
  refine tkL 3 (.int .u64 (h6:Int)) rfl ?h3b ?_
  case h3b=>intro w hSw;go_simp;rw [wrapU];have:=HH6.out;have:=HT1.out;omega
  simp only [Act.put,stA,st0,st1]
  refine ar1 7 rfl (fun K hK=>?_)
  go_simp
  refine HD2.out.mono ?_
  rintro _ w' ⟨rfl,rfl⟩
  refine hK.out _ _ (hc1) (fun _=>?_)
  clear hK K
  refine tkL 8 (.int .u64 (t1:Int)) rfl ?h8b ?_
  case h8b=>intro w hSw;go_simp;rw [wrapU];have:=HH6.out;have:=HT1.out;omega
  simp only [Act.put,stA,st0,st1]
  refine tkg 14 rfl ?_
  simp only [Act.put,stA,st0,st1]
  refine tkg 15 rfl ?_
  simp only [Act.put,stA,st0,st1]
  refine wpAnyH_done (by kernel_rfl) ?_ _
  refine NoPanic.normal ?_
  go_wp2_with fail
  refine HD3.out.mono ?_
  rintro _ w' ⟨rfl,rfl⟩
  go_wp2
  go_loopw [8] (fun qv wr=>∃ q:Nat,Q ≤ q ∧ q < 65536 ∧ qv = .int .u64 (q:Int) ∧ Below w.heap.size w wr) (fun q _=>(intOf q).toNat)
  case atStart=>exact ⟨q0,hq0.1,hq0.2,rfl,HBC.out⟩
  case round =>
   obtain ⟨q,hq1,hq2,rfl,hb⟩:=hrel
   have HB:=Away.mk hb
   clear hb
   go_wp2_with fail
   refine (HTI.out q hq2 _ (HY.out.below HB.out)).mono ?_
   rintro _ x1 ⟨v48,es,rfl,hIe,hel,hse,hb⟩
   have hb2:Below w.heap.size w x1:=HB.out.trans (hb.mono HB.out.size)
   have HC2:=Away.mk (HCM.out es hIe.2.1 (by omega) v48 x1 hse (HR.out.below hb2))
   rw [hIe.1] at HC2
   replace HB:=Away.mk hb2
   clear hb hb2 hIe hse hel
   go_wp2_with fail
   refine HC2.out.mono ?_
   rintro _ x2 ⟨rfl,rfl⟩
   by_cases hgt:val W16 rs < D * q
   ·have hc:decide (0 < cmpI (D * q) (val W16 rs)) = true:=decide_eq_true (cmpI_pos.2 hgt)
    have hQq:Q < q:=by
     rw [← HQE.out];exact Nat.div_lt_of_lt_mul hgt
    obtain ⟨q',hq'⟩:∃ q',q = q' + 1:=⟨q - 1,by omega⟩
    have eq':(q:Int) - 1 = (q':Int):=by omega
    generalize cmpI (D * q) (val W16 rs) = cc at *
    clear hgt
    have HQ':=Away.mk hq'
    clear hq'
    go_wp2
    go_roundw
    case rel =>
     have:=HQ'.out
     exact ⟨q',by omega,by omega,rfl,HB.out⟩
    case measure=>have:=HQ'.out;simp [intOf];omega
   ·have hc:decide (0 < cmpI (D * q) (val W16 rs)) = false:=decide_eq_false (fun h=>hgt (cmpI_pos.1 h))
    have hqQ:q = Q:=Nat.le_antisymm (HQ.out q (by rw [Nat.mul_comm];omega)) hq1
    generalize cmpI (D * q) (val W16 rs) = cc at *
    clear hgt
    go_wp2
    go_ret
    exact ⟨rfl,HB.out⟩
theorem trim_own (v:Value) (ds:List Nat) (w:World) (hs:SlV w v (C .u64 ds)) (hl:Lo W16 ds) (hm:ds.length ≤ 1000000) :
  Calls Tryz.prog 136 #[v] w fun e w'=>∃ v' es,e = .returned v' ∧ Is W16 (val W16 ds) es ∧ es.length ≤ ds.length ∧ SlV w v' (C .u64 es) ∧ v'.ownBlock = v.ownBlock ∧ w = w':=by
 obtain ⟨n,hn⟩:∃ n,ds.length = n:=⟨_,rfl⟩
 obtain ⟨a,cap,rfl,q1,r1⟩:=hs.shapeC hn
 rw [hn] at hm
 go_enter Tryz.func136,Tryz.ntmps136
 go_wp2
 go_loop [3] (fun i=>∃ k:Nat,k ≤ n ∧ i = .int .i64 (k:Int) ∧ ∀ j,k ≤ j → ds.getD j 0 = 0) (fun i=>(intOf i).toNat)
 case atStart=>exact ⟨n,Nat.le_refl _,rfl,fun j hj=>getD_past (by omega)⟩
 case round =>
  obtain ⟨k,hk,rfl,hz⟩:=hrel
  have hend:ds.getD (k - 1) 0 ≠ 0 ∨ k = 0 → ∃ es,Is W16 (val W16 ds) es ∧ es.length ≤ n ∧ SlV w (.slice a k cap) (C .u64 es):=fun h=>by
   refine ⟨ds.take k,?_,by rw [List.length_take];omega,by rw [C_take];exact hs.upto k hk⟩
   have hlen:(ds.take k).length = k:=by rw [List.length_take];omega
   have h1:=Is.ofLast (B:=W16) (hl.take k) (fun hp=>by
    rw [hlen] at hp ⊢
    rw [getD_take _ _ _ (by omega)]
    rcases h with h | h
    ·exact h
    ·omega)
   have h2:val W16 (ds.take k) = val W16 ds:=by
    have:=val_take_drop (B:=W16) ds k (by omega)
    rw [val_drop_zero hz] at this
    omega
   rwa [h2] at h1
  have HE:=Away.mk hend;have HZ:=Away.mk hz
  clear hend hz
  by_cases h0:k = 0
  ·subst h0
   go_wp2
   go_ret
   obtain ⟨es,g1,g2,g3⟩:=HE.out (by simp)
   exact ⟨_,rfl,es,g1,g2,g3,(by show Value.ownBlock (.slice a 0 cap) = Value.ownBlock (.slice a n cap);cases a <;> rfl),rfl⟩
  ·obtain ⟨b,off,rfl,hb,hc⟩:=hs.cells (by rw [C_length];omega)
   have hck:=hc (k - 1) _ (C_get _ (by omega))
   have e1:(k:Int) - 1 = ((k - 1:Nat):Int):=by omega
   obtain ⟨p,hp⟩:∃ p,k - 1 = p:=⟨_,rfl⟩
   rw [hp] at hck e1 HE
   have hpk:p < n:=by omega
   have HP:=Away.mk hp
   obtain ⟨x,hx⟩:∃ x,ds.getD p 0 = x:=⟨_,rfl⟩
   rw [hx] at hck HE
   have HX:=Away.mk hx
   clear hc hp hx
   have HS:=Away.mk hs
   clear hs
   by_cases hx0:x = 0
   ·subst hx0
    go_wp2
    go_round
    case rel =>
     have hp:=HP.out
     refine ⟨p,by omega,rfl,fun j hj=>?_⟩
     by_cases h:j = p
     ·rw [h];exact HX.out
     ·exact HZ.out j (by omega)
    case measure=>have hp:=HP.out;simp [intOf];omega
   ·have d0:((x:Int) == 0) = false:=by simpa using hx0
    go_wp2
    go_ret
    obtain ⟨es,g1,g2,g3⟩:=HE.out (.inl hx0)
    first | exact ⟨_,es,rfl,g1,g2,g3,rfl,rfl⟩ | exact ⟨_,rfl,es,g1,g2,g3,rfl,rfl⟩
theorem div_round {B T D x:Nat} (hD:0 < D) (hx:x < B) :
  (x + B * T) / D = (x + B * (T % D)) / D + B * (T / D) ∧ (x + B * T) % D = (x + B * (T % D)) % D ∧ x + B * (T % D) < D * B:=by
 have h:=Nat.mod_add_div T D
 have hl:=Nat.mod_lt T hD
 have e:x + B * T = (x + B * (T % D)) + D * (B * (T / D)):=by
  generalize T % D = m at *
  generalize T / D = q at *
  subst h
  grind
 refine ⟨by rw [e,Nat.add_mul_div_left _ _ hD],by rw [e,Nat.add_mul_mod_self_left],?_⟩
 have:B * (T % D) ≤ B * (D - 1):=Nat.mul_le_mul_left _ (by omega)
 have h2:B * (D - 1) + B = D * B:=by
  obtain ⟨d,rfl⟩:∃ d,D = d + 1:=⟨D - 1,by omega⟩
  rw [Nat.add_sub_cancel]
  grind
 omega
theorem val_drop_step {B:Nat} {xs:List Nat} {j:Nat} (h:j < xs.length):val B (xs.drop j) = xs.getD j 0 + B * val B (xs.drop (j + 1)):=by
 rw [List.drop_eq_getElem_cons h]
 simp [val,List.getD,h]
set_option maxHeartbeats 4000000 in
theorem refdiv_any (va vb:Value) (xs ys:List Nat) (w:World) (ha:SlV w va (C .u32 xs)) (hb:SlV w vb (C .u32 ys)) (hx:Lo W32 xs) (hy:Lo W32 ys) (hxm:xs.length ≤ 100000) (hym:ys.length ≤ 100000) (h0:val W32 ys ≠ 0) :
  Calls Tryz.prog 103 #[va,vb] w fun e w'=>∃ vq vr,e = .returned (.tuple #[vq,vr,.int .i64 0]) ∧ RA w' vq (val W32 xs / val W32 ys) ∧ RA w' vr (val W32 xs % val W32 ys) ∧ Below w.heap.size w w':=by
 obtain ⟨i0,hi,hz0,hz1,hz2⟩:=info_parts Tryz.info30
 have HA:=Away.mk ha;have HB:=Away.mk hb
 obtain ⟨D,hD⟩:∃ D,val W32 ys = D:=⟨_,rfl⟩
 have hDig:=fun x hx'=>digits_any vb ys x hx' hy hym
 rw [hD] at h0 ⊢ hDig
 have hDp:0 < D:=by omega
 have HDG:=Away.mk hDig
 clear ha hb hDig h0 hD
 go_enter Tryz.func103,Tryz.ntmps103
 go_wp2_with fail
 refine (digits_any _ xs w HA.out hx hxm).mono ?_
 rintro _ w1 ⟨v1,es,rfl,hI1,hl1,hs1,hb1⟩
 go_wp2_with fail
 refine (HDG.out w1 (HB.out.below hb1)).mono ?_
 rintro _ w2 ⟨v2,fs,rfl,hI2,hl2,hs2,hb2⟩
 have hs1:=hs1.below hb2
 have hb02:Below w.heap.size w w2:=hb1.trans (hb2.mono hb1.size)
 obtain ⟨n1,hn1⟩:∃ n,es.length = n:=⟨_,rfl⟩
 obtain ⟨n2,hn2⟩:∃ n,fs.length = n:=⟨_,rfl⟩
 obtain ⟨a1,c1,rfl,q1,r1⟩:=hs1.shapeC hn1
 obtain ⟨a2,c2,rfl,q2,r2⟩:=hs2.shapeC hn2
 have hn2p:n2 ≠ 0:=by
  rintro rfl
  obtain rfl:=List.eq_nil_of_length_eq_zero hn2
  have:D = 0:=hI2.1.symm
  omega
 have hmm:n1 ≤ 200000 ∧ n2 ≤ 200000:=by omega
 have hn2z:((n2:Int) == 0) = false:=by simp;omega
 have HS1:=Away.mk hs1;have HS2:=Away.mk hs2;have HI1:=Away.mk hI1;have HI2:=Away.mk hI2;have HB2:=Away.mk hb02
 obtain ⟨g,hg⟩:∃ g,w2.heap.size = g:=⟨_,rfl⟩
 clear hs1 hs2 hI1 hI2 hb1 hb2 hb02 HA HB hl1 hl2 HDG
 go_wp2_with (at_make;refine wpList_make_full _ rfl _ _ 103 rfl w2.heap.size 30 i0 _ 1 Tryz.underlying103 hi hz0 hz1 _ _ _ _ n1 rfl rfl (by omega) (by omega) (by rw [hz2];omega) (by unfold maxLen;omega) (Nat.le_refl _) ?_)
 intro w3 hown hg3
 have hr3:=Row.ofOwn (own_made hown)
 rw [← C_zeros] at hr3
 have hB3:Below w2.heap.size w2 w3:=(Below.refl _ w2).grown hg3 (Nat.le_refl _) (by simp)
 have HR3:=Away.mk hr3;have HB3:=Away.mk hB3;have HG:=Away.mk hg
 have HSZ:=Away.mk hr3.lt
 clear hown hg3 hr3 hB3 hg
 go_wp2
 go_loopw [10,11] (fun rv iv wr=>∃ (k:Nat) (rs qs:List Nat),k ≤ n1 ∧ iv = .int .i64 ((k:Int) - 1) ∧ Is W16 (val W16 (es.drop k) % D) rs ∧ SlV wr rv (C .u64 rs) ∧ qs.length = n1 ∧ Lo W16 qs ∧ (∀ j,j < k → qs.getD j 0 = 0) ∧ val W16 (qs.drop k) = val W16 (es.drop k) / D ∧ Row wr g 30 (C .u64 qs) ∧ Below w2.heap.size w2 wr) (fun _ i _=>(intOf i + 1).toNat)
 case atStart =>
  refine ⟨n1,[],_,Nat.le_refl _,rfl,?_,?_,by simp,Lo.zeros (by decide) _,fun j hj=>by rw [List.getD,List.getElem?_replicate];split <;> rfl,?_,HR3.out.alloc _,HB3.out.alloc HB3.out.size _⟩
  ·rw [List.drop_of_length_le (by omega)];simp [val];exact Is.nil
  ·exact SlV.ofOwn (own_empty w3 w3.heap.size 30 (Nat.le_refl _))
  ·rw [List.drop_of_length_le (by omega:es.length ≤ n1),List.drop_of_length_le (by simp:(List.replicate n1 0).length ≤ n1)];simp [val]
 case round =>
  obtain ⟨k,rs,qs,hk,rfl,hIr,hsr,hql,hqlo,hqz,hqv,hr,hb⟩:=hrel
  rcases Nat.eq_zero_or_pos k with hk0 | hkp
  ·subst hk0
   rw [List.drop_zero,HI1.out.1] at hIr
   rw [List.drop_zero,List.drop_zero,HI1.out.1] at hqv
   have hsl:=hr.slAll (by rw [C_length];unfold maxLen;omega)
   rw [C_length,hql] at hsl
   have HT:=Away.mk (whole_any _ qs wr hsl hqlo (by omega))
   rw [hqv] at HT
   have hrm:rs.length ≤ n2:=(hIr.len (by decide) n2).2 (Nat.lt_trans (Nat.mod_lt _ hDp) (HI2.out.val_lt (by decide) (by omega)))
   have HSR:=Away.mk hsr;have HIR:=Away.mk hIr
   have HBr:=Away.mk (HB2.out.trans (hb.mono HB2.out.size))
   clear hqv hr hb hqlo hsl hqz hsr hIr
   go_wp2_with fail
   refine HT.out.mono ?_
   rintro _ w6 ⟨v60,rfl,hans,hb6⟩
   have HT2:=Away.mk (whole_any _ rs w6 (HSR.out.below hb6) HIR.out.2.1 (by omega))
   rw [HIR.out.1] at HT2
   have HAN:=Away.mk hans
   replace HBr:=Away.mk (HBr.out.trans (hb6.mono HBr.out.size))
   clear hans hb6
   go_wp2_with fail
   refine HT2.out.mono ?_
   rintro _ w7 ⟨v62,rfl,hans2,hb7⟩
   go_wp2
   go_ret3
   exact ⟨_,_,rfl,HAN.out.below hb7,hans2,HBr.out.trans (hb7.mono HBr.out.size)⟩
  ·obtain ⟨j,rfl⟩:∃ j,k = j + 1:=⟨k - 1,by omega⟩
   have hj:j < n1:=by omega
   obtain ⟨b,off,rfl,hbl,hcx⟩:=HS1.out.cells (by rw [C_length];omega)
   have hck:=(hb.cell (p:=⟨b,off + j,none⟩) hbl).trans (hcx j _ (C_get _ (by omega)))
   have hx1:es.getD j 0 < 65536:=HI1.out.2.1.getD (by decide) _
   have hst:=val_drop_step (B:=W16) (xs:=es) (j:=j) (by omega)
   have hqst:=val_drop_step (B:=W16) (xs:=qs) (j:=j) (by omega)
   have hqst2:=fun z=>val_drop_step (B:=W16) (xs:=qs.set j z) (j:=j) (by simp;omega)
   obtain ⟨x,hxx⟩:∃ x,es.getD j 0 = x:=⟨_,rfl⟩
   rw [hxx] at hck hx1 hst
   obtain ⟨T,hT⟩:∃ T,val W16 (es.drop (j + 1)) = T:=⟨_,rfl⟩
   rw [hT] at hst hIr hqv
   obtain ⟨hd1,hd2,hd3⟩:=div_round (B:=W16) (T:=T) (D:=D) (x:=x) hDp hx1
   rw [← hst] at hd1 hd2
   have hup:val W16 (x :: rs) = x + W16 * (T % D):=by show x + W16 * val W16 rs = _;rw [hIr.1]
   obtain ⟨R,hR⟩:∃ R,x + W16 * (T % D) = R:=⟨_,rfl⟩
   rw [hR] at hd1 hd2 hd3 hup
   have hrm:rs.length ≤ n2:=(hIr.len (by decide) n2).2 (Nat.lt_trans (Nat.mod_lt _ hDp) (HI2.out.val_lt (by decide) (by omega)))
   have hulo:Lo W16 (x :: rs):=by
    intro u hu
    rcases List.mem_cons.1 hu with h | h
    ·rw [h];exact hx1
    ·exact hIr.2.1 u h
   have hown1:=(Row.new wr 30 [.int .u64 (x:Int)]).owns (base:=g + 1) (n:=1) (cap:=1) (by have:=hr.lt;omega) (by simp) (by simp;unfold maxLen;omega)
   have hgs:=hr.lt
   have HO1:=Away.mk hown1;have HSR:=Away.mk (hsr.below ((Below.refl _ wr).alloc (Nat.le_refl _) (.cells #[.int .u64 (x:Int)] 30)))
   have HR:=Away.mk hr;have HB:=Away.mk hb;have HQV:=Away.mk hqv;have HQL:=Away.mk hqlo;have HQZ:=Away.mk hqz;have HD1:=Away.mk hd1;have HD2:=Away.mk hd2;have HD3:=Away.mk hd3;have HUP:=Away.mk hup;have HUL:=Away.mk hulo;have HQS:=Away.mk hqst;have HQS2:=Away.mk hqst2
   clear hown1 hsr hr hb hqv hqlo hqz hd1 hd2 hd3 hup hulo hqst hqst2 hst hR hT hxx hcx hIr
   rw [show (((j + 1:Nat):Int) - 1) = (j:Int) by omega]
   go_wp2_with (at_builtin;refine wpList_append_sl rfl (.tmp 36) (.tmp 37) 103 rfl (g + 1) 30 (.int .u64 0) 8 Tryz.underlying103 Tryz.info30 rfl _ 1 _ rfl HO1.out _ (C .u64 rs) rfl HSR.out (C_one _ _) (by rw [C_length];unfold maxLen;omega) (by rw [C_length];omega) (by simp;omega) ?_)
   intro v38 w5 hown5 hg5
   have hown5':w5.ownsRow (g + 1) 30 1 v38 (1 + (C .u64 rs).length) (C .u64 (x :: rs)):=hown5
   have hs5:=SlV.ofOwn hown5'
   have hlt5:∀ k,v38.ownBlock = some k → g + 1 ≤ k:=fun k e=>(hown5'.lt k e).1
   have hb5:Below w2.heap.size w2 w5:=(HB.out.alloc HB.out.size _).grown hg5 (by have:=HB.out.size;simp;omega) (fun k e=>by have:=HB.out.size;simp [Value.ownBlock] at e;omega)
   have hr5:Row w5 g 30 (C .u64 qs):=(HR.out.alloc _).grown hg5 (by simp [Value.ownBlock];omega)
   have HTR:=Away.mk (trim_own v38 (x :: rs) w5 hs5 HUL.out (by simp;omega))
   rw [HUP.out] at HTR
   have HR5:=Away.mk hr5;have HB5:=Away.mk hb5;have HLT:=Away.mk hlt5
   have hus:=hrm
   clear hown5 hown5' hg5 hs5 hlt5 hb5 hr5 HO1 HSR HR HB
   go_wp2_with fail
   refine HTR.out.mono ?_
   rintro _ w5' ⟨v40,us,rfl,hIu,hul,hsu,hbu,rfl⟩
   have hulen:us.length ≤ 200001:=by simp at hul;omega
   have hub:∀ k,v40.ownBlock = some k → some k ≠ some g:=fun k e h=>by
    rw [hbu] at e
    have:=HLT.out k e
    cases h
    omega
   have HCM:=Away.mk (compare_any v40 _ us fs w5 hsu (HS2.out.below HB5.out) hIu.2.1 HI2.out.2.1 (by omega) (by omega))
   rw [hIu.1,HI2.out.1] at HCM
   have HIU:=Away.mk hIu;have HSU:=Away.mk hsu;have HUB:=Away.mk hub
   clear hIu hul hsu hbu hub HTR
   go_wp2_with fail
   refine HCM.out.mono ?_
   rintro _ w5'' ⟨rfl,rfl⟩
   by_cases hge:D ≤ R
   ·have hc:decide (0 ≤ cmpI R D) = true:=decide_eq_true (by
     rcases Int.lt_or_le (cmpI R D) 0 with h | h
     ·have:=cmpI_neg.1 h;omega
     ·exact h)
    have HNX:=Away.mk (next_any v40 _ us fs D w5 HSU.out (HS2.out.below HB5.out) HIU.out.2.1 HI2.out hDp (by omega) (by omega) (by rw [HIU.out.1];exact HD3.out))
    rw [HIU.out.1] at HNX
    obtain ⟨qd,hqd⟩:∃ qd,R / D = qd:=⟨_,rfl⟩
    rw [hqd] at HNX
    have hqd1:qd < 65536:=by rw [← hqd];exact Nat.div_lt_of_lt_mul HD3.out
    have hmd:=Nat.mod_add_div R D
    rw [hqd] at hmd
    have HQD:=Away.mk hqd;have HMD:=Away.mk hmd
    generalize cmpI R D = cc at *
    clear HCM hqd hmd hge
    go_wp2_with fail
    refine HNX.out.mono ?_
    rintro _ w6 ⟨rfl,hb6⟩
    have hr6:=HR5.out.belowS hb6
    have hco:=(hr6.cell j).trans (C_get _ (by omega))
    generalize qs.getD j 0 = old at hco
    have hfo:=hr6.frozen j
    have hs6:=(HSU.out.below hb6).grown (grown_set w6 g j (.int .u64 (qd:Int))) HUB.out
    have hb62:Below w2.heap.size w2 w6:=HB5.out.trans (hb6.mono HB5.out.size)
    have hb7:Below w2.heap.size w2 (w6.setCell ⟨g,j,none⟩ (.int .u64 (qd:Int))):=hb62.setCell (p:=⟨g,j,none⟩) (by rw [HG.out];exact Nat.le_refl g) _
    have hr7:=hr6.set j (.int .u64 (qd:Int))
    rw [← C_set] at hr7
    have HR7:=Away.mk hr7;have HS6:=Away.mk hs6;have HB7:=Away.mk hb7
    clear hr6 hs6 hb62 hb7 hb6 hr7 HNX HSU HR5 HB5
    go_wp2_with fail
    refine (times_any _ fs qd _ (HS2.out.below HB7.out) HI2.out.2.1 (by omega) hqd1).mono ?_
    rintro _ w8 ⟨v57,ts,rfl,hIt,htl,hst,hb8⟩
    rw [HI2.out.1] at hIt
    have hle:val W16 ts ≤ val W16 us:=by rw [hIt.1,HIU.out.1];have:=HMD.out;omega
    have HLS:=Away.mk (less_any v40 v57 us ts w8 (HS6.out.below hb8) hst HIU.out.2.1 hIt.2.1 (by omega) (by omega) hle)
    rw [hIt.1,HIU.out.1,show R - D * qd = R % D by have:=HMD.out;omega] at HLS
    have HR8:=Away.mk (HR7.out.belowS hb8);have HB8:=Away.mk (HB7.out.trans (hb8.mono HB7.out.size))
    clear hIt htl hst hb8 hle HR7 HB7 HS6
    go_wp2_with fail
    refine HLS.out.mono ?_
    rintro _ w9 ⟨v58,rs',rfl,hI9,hl9,hs9,hb9⟩
    have HI9:=Away.mk hI9;have HS9:=Away.mk hs9;have HR9:=Away.mk (HR8.out.belowS hb9);have HB9:=Away.mk (HB8.out.trans (hb9.mono HB8.out.size))
    clear hI9 hl9 hs9 hb9 HLS HR8 HB8
    go_wp2
    go_roundw
    case rel =>
     refine ⟨j,rs',qs.set j qd,by omega,rfl,by rw [HD2.out];exact HI9.out,HS9.out,by simp [hql],HQL.out.set _ _ hqd1,fun i hi=>by rw [getD_set_other _ _ (by omega)];exact HQZ.out i (by omega),?_,HR9.out,HB9.out⟩
     rw [HQS2.out,drop_set_succ,HQV.out,HD1.out,HQD.out]
     congr 1
     rw [List.getD,List.getElem?_set_self (by omega)];rfl
    case measure=>simp [intOf]
   ·have hc:decide (0 ≤ cmpI R D) = false:=decide_eq_false (fun h=>by
     have:=cmpI_neg.2 (show R < D by omega)
     omega)
    have HGE:=Away.mk hge
    generalize cmpI R D = cc at *
    clear HCM hge
    go_wp2
    go_roundw
    case rel =>
     have hlt:R < D:=by have:=HGE.out;omega
     refine ⟨j,us,qs,by omega,rfl,by rw [HD2.out,Nat.mod_eq_of_lt hlt];exact HIU.out,HSU.out,hql,HQL.out,fun i hi=>HQZ.out i (by omega),?_,HR5.out,HB5.out⟩
     rw [HQS.out,HQZ.out j (by omega),HQV.out,HD1.out,Nat.div_eq_of_lt hlt]
    case measure=>simp [intOf]
end Go.Proofs.YtmjimilhomabfaaGreatDoor
