/-
 Numbers as words: from and to bytes, shifted up (package nat). Conditions: each as it says.
-/
import Derived.Test.YtmjimilhomabfaaGreatDoorN14a
namespace Go.Proofs.YtmjimilhomabfaaGreatDoor
set_option linter.unusedVariables false
set_option maxRecDepth 10000
section
variable {B:Nat}
theorem getD_set_other (xs:List Nat) {i j:Nat} (z:Nat) (h:i ≠ j):(xs.set i z).getD j 0 = xs.getD j 0:=by
 simp [List.getD,List.getElem?_set_ne h]
theorem shl_math {out:List Nat} {q R S k T T' x t:Nat} (hB:0 < B) (hR:0 < R) (hRS:R * S = B) (hl:q + k + 1 < out.length) (hlo:Lo B out) (hT:T < B ^ k) (hv:val B out = T * R * B ^ q)
  (ht:out.getD (q + k) 0 = t) (hx:x < B) (hs:T' = T + B ^ k * x) :
  t < R ∧ R ∣ x * R % B ∧ t + x * R % B < B ∧ x * R / B < B ∧ Lo B ((out.set (q + k) (t + x * R % B)).set (q + k + 1) (x * R / B)) ∧ val B ((out.set (q + k) (t + x * R % B)).set (q + k + 1) (x * R / B)) = T' * R * B ^ q:=by
 have hp:0 < B ^ q:=Nat.pow_pos hB
 have hpk:0 < B ^ k:=Nat.pow_pos hB
 have hS:0 < S:=by
  rcases Nat.eq_zero_or_pos S with h | h
  ·subst h;omega
  ·exact h
 have h1:T * R < B ^ k * R:=Nat.mul_lt_mul_of_pos_right hT hR
 have htR:t < R:=by
  rw [← ht,getD_val hB hlo,hv,Nat.pow_add,← Nat.div_div_eq_div_mul,Nat.mul_div_cancel _ hp]
  refine Nat.lt_of_le_of_lt (Nat.mod_le _ _) ?_
  rw [Nat.div_lt_iff_lt_mul hpk,Nat.mul_comm R]
  exact h1
 have ht0:out.getD (q + k + 1) 0 = 0:=by
  rw [getD_val hB hlo,hv,show q + k + 1 = q + (k + 1) by omega,Nat.pow_add,← Nat.div_div_eq_div_mul,Nat.mul_div_cancel _ hp]
  have h2:T * R < B ^ (k + 1):=by
   rw [Nat.pow_succ]
   refine Nat.lt_of_lt_of_le h1 (Nat.mul_le_mul_left _ ?_)
   rw [← hRS];exact Nat.le_mul_of_pos_right _ hS
  rw [Nat.div_eq_of_lt h2];simp
 have hd:x * R % B = R * (x % S):=by rw [← hRS,Nat.mul_comm x R,Nat.mul_mod_mul_left]
 have hlt:t + x * R % B < B:=by
  rw [hd]
  have h3:R * (x % S + 1) ≤ R * S:=Nat.mul_le_mul_left _ (Nat.mod_lt _ hS)
  rw [Nat.mul_add] at h3
  omega
 have hq:x * R / B < B:=by
  rw [Nat.div_lt_iff_lt_mul hB]
  refine Nat.lt_of_lt_of_le (Nat.mul_lt_mul_of_pos_right hx hR) (Nat.mul_le_mul_left _ ?_)
  rw [← hRS];exact Nat.le_mul_of_pos_right _ hS
 refine ⟨htR,⟨_,hd⟩,hlt,hq,(hlo.set _ _ hlt).set _ _ hq,?_⟩
 have e1:=val_set (B:=B) (xs:=out.set (q + k) (t + x * R % B)) (i:=q + k + 1) (by rw [List.length_set];exact hl) (x * R / B)
 rw [getD_set_other _ _ (by omega),ht0,Nat.zero_add] at e1
 have e2:=val_set (B:=B) (xs:=out) (i:=q + k) (by omega) (x * R % B)
 rw [ht] at e2
 rw [e1,e2,hv,hs,Nat.pow_succ,Nat.pow_add]
 have h4:=Nat.mod_add_div (x * R) B
 generalize x * R % B = u at *
 generalize x * R / B = y at *
 generalize B ^ q = Q at *
 generalize B ^ k = K at *
 clear e1 e2 hv hs
 grind
theorem shr_math {M R S:Nat} (hR:0 < R) (hB:0 < B) (hRS:R * S = B):(M % (B * B)) / R % B = M / R % B:=by
 have h1:B * B = R * (S * B):=by rw [← Nat.mul_assoc,hRS]
 rw [h1,Nat.mod_mul_right_div_self,Nat.mod_mul_left_mod]
theorem two_words (M:Nat) (i:Nat):M / B ^ i % B + B * (M / B ^ (i + 1) % B) = M / B ^ i % (B * B):=by
 rw [Nat.pow_succ,← Nat.div_div_eq_div_mul,Nat.mod_mul]
theorem val_div {xs:List Nat} (hB:0 < B) (h:Lo B xs) (i:Nat):val B (xs.drop i) = val B xs / B ^ i:=by
 by_cases hi:i ≤ xs.length
 ·have h1:=val_take_lt hB h i
  rw [val_take_drop xs i hi,Nat.add_mul_div_left _ _ (Nat.pow_pos hB),Nat.div_eq_of_lt h1,Nat.zero_add]
 ·have h2:=val_lt hB h
  rw [List.drop_eq_nil_of_le (by omega),Nat.div_eq_of_lt (Nat.lt_of_lt_of_le h2 (Nat.pow_le_pow_right hB (by omega)))]
  rfl
end
theorem or_low {t d R:Nat} {r:Nat} (hR:R = 2 ^ r) (ht:t < R) (hd:R ∣ d):t ||| d = t + d:=by
 obtain ⟨c,rfl⟩:=hd
 subst hR
 rw [Nat.or_comm,← Nat.two_pow_add_eq_or_of_lt ht,Nat.add_comm]
theorem pow_split {r:Nat} (hr:r ≤ 32):2 ^ r * 2 ^ (32 - r) = 4294967296:=by
 rw [← Nat.pow_add,show r + (32 - r) = 32 by omega]
open Go.RowKit
theorem from_any (n:Nat) (hn:n < 18446744073709551616) (w:World) :
  Calls Tryz.prog 146 #[.int .u64 (n:Int)] w fun e w'=>∃ v',e = .returned v' ∧ Ans w.heap.size w' v' n ∧ Below w.heap.size w w':=by
 have hr:=Row.new w 95 (C .u32 [n % 4294967296,n / 4294967296])
 have ht:=trimmed_new w.heap.size w.heap.size [n % 4294967296,n / 4294967296] _ hr (Nat.le_refl _) (by intro x hx;show x < 4294967296;simp at hx;rcases hx with rfl | rfl <;> omega) (by simp)
 have hv:val W32 [n % 4294967296,n / 4294967296] = n:=by simp only [val,W32];omega
 rw [hv] at ht
 simp only [C,List.map_cons,List.map_nil,List.length_cons,List.length_nil,Nat.zero_add,Nat.reduceAdd] at ht
 have HT:=Away.mk ht
 clear ht hr hv
 go_enter Tryz.func146,Tryz.ntmps146
 go_wp2_with fail
 rw [show (n:Int) % 4294967296 = ((n % 4294967296:Nat):Int) by simp,show (n:Int) / 4294967296 = ((n / 4294967296:Nat):Int) by simp]
 refine HT.out.mono ?_
 rintro _ w6 ⟨v',rfl,hans,hb6⟩
 go_wp2
 go_ret
 have hb:=(Below.refl w.heap.size w).alloc (Nat.le_refl _) (.cells #[.int .u32 ((n % 4294967296:Nat):Int),.int .u32 ((n / 4294967296:Nat):Int)] 95)
 exact ⟨_,rfl,hans,hb.trans (hb6.mono hb.size)⟩
open Go.Shelf
attribute [local go_sem] Oper.semAt_some
set_option maxHeartbeats 1000000 in
theorem shl_any (va:Value) (xs:List Nat) (n:Nat) (w:World) (ha:SlV w va (C .u32 xs)) (hx:Lo W32 xs) (hxm:xs.length ≤ 100000) (hn:n ≤ 16384) :
  Calls Tryz.prog 148 #[va,.int .i64 (n:Int)] w fun e w'=>∃ v',e = .returned (.tuple #[v',.int .i64 0]) ∧ Ans w.heap.size w' v' (val W32 xs * 2 ^ n) ∧ Below w.heap.size w w':=by
 obtain ⟨i0,hi,hz0,hz1,hz2⟩:=info_parts Tryz.info95
 obtain ⟨q,hq⟩:∃ q,n / 32 = q:=⟨_,rfl⟩
 obtain ⟨r,hr⟩:∃ r,n % 32 = r:=⟨_,rfl⟩
 have hnq:n = 32 * q + r:=by omega
 have hr32:r < 32:=by omega
 have e1:(n:Int) / 32 = (q:Int):=by omega
 have e2:(n:Int) % 32 = (r:Int):=by omega
 have HN:=Away.mk hnq
 clear hq hr hnq
 go_enter Tryz.func148,Tryz.ntmps148
 go_wp2_with fail
 refine (trimmed_read va xs w ha hx (by omega)).mono ?_
 rintro _ w2 ⟨v1,zs,rfl,hI1,hl1,hs1,hb02⟩
 obtain ⟨n1,hn1⟩:∃ n,zs.length = n:=⟨_,rfl⟩
 obtain ⟨a1,c1,rfl,q1,r1⟩:=hs1.shapeC hn1
 have HS1:=Away.mk hs1;have HI1:=Away.mk hI1;have HB:=Away.mk hb02
 clear ha hs1 hI1 hb02
 go_wp2_with (at_make;refine wpList_make_full _ rfl _ _ 68 rfl w.heap.size 95 i0 _ 1 Tryz.underlying68 hi hz0 hz1 _ _ _ _ (q + n1 + 1) rfl rfl (by omega) (by omega) (by rw [hz2];omega) (by unfold maxLen;omega) HB.out.size ?_)
 intro w3 hown hg3
 have hr3:=Row.ofOwn (own_made hown)
 rw [← C_zeros] at hr3
 have hB23:Below w2.heap.size w2 w3:=(Below.refl _ w2).grown hg3 (Nat.le_refl _) (by simp)
 clear hown hg3
 have HR3:=Away.mk hr3;have HB3:=Away.mk hB23
 clear hr3 hB23
 go_wp2
 go_loopw [32] (fun iv wr=>∃ (k:Nat) (out:List Nat),k ≤ n1 ∧ iv = .int .i64 (k:Int) ∧ out.length = q + n1 + 1 ∧ Lo W32 out ∧ val W32 out = val W32 (zs.take k) * 2 ^ r * W32 ^ q ∧ Row wr w2.heap.size 95 (C .u32 out) ∧ Below w2.heap.size w2 wr) (fun i _=>n1 - (intOf i).toNat)
 case atStart=>exact ⟨0,_,Nat.zero_le _,rfl,by simp,Lo.zeros (by decide) _,by simp [val,val_zeros],HR3.out,HB3.out⟩
 case round =>
  obtain ⟨k,out,hk,rfl,hol,holo,hval,hr,hb⟩:=hrel
  by_cases hlt:k < n1
  ·obtain ⟨b,off,rfl,hbl,hcx⟩:=(HS1.out.below hb).cells (by rw [C_length];omega)
   have hck:=hcx k _ (C_get _ (by omega))
   have hyb:zs.getD k 0 < 4294967296:=HI1.out.2.1.getD (by decide) k
   have hvs:=val_take_succ (B:=W32) zs k
   have hco:=(hr.cell (q + k)).trans (C_get _ (by omega))
   have hfo:=hr.frozen (q + k)
   have hco':=(hr.cell (q + k + 1)).trans (C_get _ (by omega))
   have hfo':=hr.frozen (q + k + 1)
   have htb:out.getD (q + k) 0 < 4294967296:=holo.getD (by decide) _
   generalize zs.getD k 0 = x at *
   generalize ht:out.getD (q + k) 0 = t at *
   have HT:=Away.mk ht;have H1:=Away.mk hval;have H2:=Away.mk hvs;have HR:=Away.mk hr;have HBr:=Away.mk hb;have HL:=Away.mk holo
   clear hcx hval hvs hr hb holo ht
   have hm:=shl_math (B:=W32) (R:=2 ^ r) (S:=2 ^ (32 - r)) (q:=q) (k:=k) (T:=val W32 (zs.take k)) (x:=x) (by decide) (Nat.pow_pos (by decide)) (pow_split (by omega)) (by omega) HL.out (val_take_lt (by decide) HI1.out.2.1 k) H1.out HT.out hyb H2.out
   obtain ⟨m1,m2,m3,m4,m5,m6⟩:=hm
   have hor:=or_low rfl m1 m2
   obtain ⟨y,hy⟩:∃ y,x * 2 ^ r = y:=⟨_,rfl⟩
   rw [hy] at m2 m3 m4 m5 m6 hor
   have hy64:y < 18446744073709551616:=by
    have:=Nat.mod_add_div y 4294967296
    have h5:y / 4294967296 < 4294967296:=m4
    omega
   have hyi:(x:Int) * 2 ^ r = (y:Int):=by rw [← hy];simp
   have ho:=u32_or_nat t (y % 4294967296) htb (Nat.mod_lt _ (by decide))
   rw [show t ||| y % 4294967296 = t + y % 4294967296 from hor] at ho
   have HM5:=Away.mk m5;have HM6:=Away.mk m6;have HO:=Away.mk ho;have HYI:=Away.mk hyi
   clear m1 m2 m3 m4 m5 m6 hor ho hyi hy
   go_wp2
   rw [HYI.out,show IntKind.u64.wrap (y:Int) = (y:Int) by rw [wrapU];omega,show (y:Int) % 4294967296 = ((y % 4294967296:Nat):Int) by simp,HO.out,show (y:Int) / 4294967296 % 4294967296 = ((y / 4294967296:Nat):Int) by omega]
   go_roundw
   case rel =>
    refine ⟨k + 1,(out.set (q + k) (t + y % 4294967296)).set (q + k + 1) (y / 4294967296),by omega,by go_num,by simp [hol],HM5.out,HM6.out,?_,?_⟩
    ·have:=(HR.out.set (q + k) (.int .u32 ((t + y % 4294967296:Nat):Int))).set (q + k + 1) (.int .u32 ((y / 4294967296:Nat):Int))
     rwa [← C_set,← C_set] at this
    ·exact (HBr.out.setCell (p:=⟨w2.heap.size,q + k,none⟩) (Nat.le_refl _) _).setCell (p:=⟨w2.heap.size,q + k + 1,none⟩) (Nat.le_refl _) _
   case measure=>simp [intOf];omega
  ·obtain rfl:k = n1:=by omega
   rw [List.take_of_length_le (by omega),HI1.out.1,Nat.mul_assoc,show 2 ^ r * W32 ^ q = 2 ^ n by rw [pow32,← Nat.pow_add,HN.out,Nat.add_comm]] at hval
   have HT:=Away.mk (trimmed_new w.heap.size w2.heap.size out wr hr HB.out.size holo (by omega))
   rw [hval,hol] at HT
   have HBr:=Away.mk (HB.out.trans (hb.mono HB.out.size))
   clear hval hr hb holo HR3 HB3
   go_wp2_with fail
   refine HT.out.mono ?_
   rintro _ w6 ⟨v',rfl,hans,hb6⟩
   go_wp2
   go_ret2
   exact ⟨_,rfl,hans,HBr.out.trans (hb6.mono HBr.out.size)⟩
end Go.Proofs.YtmjimilhomabfaaGreatDoor
namespace Go.Proofs.YtmjimilhomabfaaGreatDoor
set_option linter.unusedVariables false
set_option maxRecDepth 10000
theorem rev_succ {bs:List Nat} {k:Nat} (h:k < bs.length):val 256 (bs.take (k + 1)).reverse = bs.getD k 0 + 256 * val 256 (bs.take k).reverse:=by
 rw [List.take_succ_eq_append_getElem h,List.reverse_append]
 simp [val,List.getD,h]
theorem read_math {out:List Nat} {T p x t:Nat} (hl:p / 4 < out.length) (hlo:Lo W32 out) (hv:val W32 out = 256 ^ (p + 1) * T) (ht:out.getD (p / 4) 0 = t) (hx:x < 256) :
  t + x * 2 ^ (p % 4 * 8) < 4294967296 ∧ t ||| x * 2 ^ (p % 4 * 8) = t + x * 2 ^ (p % 4 * 8) ∧ x * 2 ^ (p % 4 * 8) < 4294967296 ∧ val W32 (out.set (p / 4) (t + x * 2 ^ (p % 4 * 8))) = 256 ^ p * (x + 256 * T):=by
 have hr:p % 4 < 4:=Nat.mod_lt _ (by decide)
 have h1:256 ^ (p + 1) = W32 ^ (p / 4) * 2 ^ (p % 4 * 8 + 8):=by
  rw [pow8,pow32,← Nat.pow_add];congr 1;omega
 have h0:256 ^ p = W32 ^ (p / 4) * 2 ^ (p % 4 * 8):=by
  rw [pow8,pow32,← Nat.pow_add];congr 1;omega
 have e2:=val_set (B:=W32) hl (x * 2 ^ (p % 4 * 8))
 have ht':=getD_val (B:=W32) (by decide) hlo (p / 4)
 rw [ht,hv,h1,Nat.mul_assoc,Nat.mul_div_cancel_left _ (Nat.pow_pos (by decide))] at ht'
 rw [ht,hv,Nat.pow_succ,h0] at e2
 generalize p % 4 = r at *
 have h3:W32 = 2 ^ (r * 8 + 8) * 2 ^ (24 - r * 8):=by rw [← Nat.pow_add,show r * 8 + 8 + (24 - r * 8) = 32 by omega]
 have h4:t = 2 ^ (r * 8 + 8) * (T % 2 ^ (24 - r * 8)):=by
  rw [ht']
  conv=>lhs;rw [h3]
  rw [Nat.mul_mod_mul_left]
 have h5:x * 2 ^ (r * 8) < 2 ^ (r * 8 + 8):=by
  rw [Nat.pow_add,Nat.mul_comm]
  exact Nat.mul_lt_mul_of_pos_left hx (Nat.pow_pos (by decide))
 have h6:t + 2 ^ (r * 8 + 8) ≤ 4294967296:=by
  rw [h4]
  have h7:2 ^ (r * 8 + 8) * (T % 2 ^ (24 - r * 8) + 1) ≤ 2 ^ (r * 8 + 8) * 2 ^ (24 - r * 8):=Nat.mul_le_mul_left _ (Nat.mod_lt _ (Nat.pow_pos (by decide)))
  rw [← h3,Nat.mul_add,Nat.mul_one] at h7
  exact h7
 refine ⟨by omega,?_,by omega,?_⟩
 ·rw [h4,← Nat.two_pow_add_eq_or_of_lt h5]
 ·rw [e2,h0]
  generalize W32 ^ (p / 4) = Q
  generalize 2 ^ (r * 8) = R
  grind
open Go.RowKit
set_option maxHeartbeats 2000000 in
theorem read_any (v:Value) (bs:List Nat) (w:World) (hs:SlV w v (C .u8 bs)) (hl:Lo 256 bs) (hm:bs.length ≤ 100000) :
  Calls Tryz.prog 53 #[v] w fun e w'=>∃ v',e = .returned v' ∧ Ans w.heap.size w' v' (val 256 bs.reverse) ∧ Below w.heap.size w w':=by
 obtain ⟨i0,hi,hz0,hz1,hz2⟩:=info_parts Tryz.info95
 obtain ⟨n,hn⟩:∃ n,bs.length = n:=⟨_,rfl⟩
 obtain ⟨a,cap,rfl,q1,r1⟩:=hs.shapeC hn
 rw [hn] at hm
 obtain ⟨m,hm'⟩:∃ m,(n + 3) / 4 = m:=⟨_,rfl⟩
 have e0:((n:Int) + 4 - 1) / 4 = (m:Int):=by omega
 have hmn:m ≤ 100000:=by omega
 have HM:=Away.mk hm'
 clear hm'
 go_enter Tryz.func53,Tryz.ntmps53
 go_wp2_with (at_make;refine wpList_make_full _ rfl _ _ 68 rfl w.heap.size 95 i0 _ 1 Tryz.underlying68 hi hz0 hz1 _ _ _ _ m rfl rfl (by omega) (by omega) (by rw [hz2];omega) (by unfold maxLen;omega) (Nat.le_refl _) ?_)
 intro w3 hown hg3
 have hr3:=Row.ofOwn (own_made hown)
 rw [← C_zeros] at hr3
 have hB3:Below w.heap.size w w3:=(Below.refl _ w).grown hg3 (Nat.le_refl _) (by simp)
 have HR3:=Away.mk hr3;have HB3:=Away.mk hB3;have HS:=Away.mk hs
 clear hown hg3 hr3 hB3 hs e0
 go_wp2
 go_loopw [15] (fun iv wr=>∃ (k:Nat) (out:List Nat),k ≤ n ∧ iv = .int .i64 (k:Int) ∧ out.length = m ∧ Lo W32 out ∧ val W32 out = 256 ^ (n - k) * val 256 (bs.take k).reverse ∧ Row wr w.heap.size 95 (C .u32 out) ∧ Below w.heap.size w wr) (fun i _=>n - (intOf i).toNat)
 case atStart=>exact ⟨0,_,Nat.zero_le _,rfl,by simp,Lo.zeros (by decide) _,by simp [val,val_zeros],HR3.out,HB3.out⟩
 case round =>
  obtain ⟨k,out,hk,rfl,hol,holo,hval,hr,hb⟩:=hrel
  have hm':=HM.out
  by_cases hlt:k < n
  ·obtain ⟨b,off,rfl,hbl,hcx⟩:=(HS.out.below hb).cells (by rw [C_length];omega)
   have hck:=hcx k _ (C_get _ (by omega))
   have hyb:bs.getD k 0 < 256:=hl.getD (by decide) k
   have hvs:=rev_succ (bs:=bs) (k:=k) (by omega)
   obtain ⟨p,hp⟩:∃ p,n - 1 - k = p:=⟨_,rfl⟩
   have hnk:n - k = p + 1:=by omega
   have hp4:p / 4 < m:=by omega
   rw [hnk] at hval
   have hco:=(hr.cell (p / 4)).trans (C_get _ (by omega))
   have hfo:=hr.frozen (p / 4)
   have htb:out.getD (p / 4) 0 < 4294967296:=holo.getD (by decide) _
   generalize bs.getD k 0 = x at *
   generalize ht:out.getD (p / 4) 0 = t at *
   obtain ⟨m1,m2,m3,m4⟩:=read_math (by omega) holo hval ht hyb
   have e2:(n:Int) - 1 - k = (p:Int):=by omega
   have hpn:p < n:=by omega
   have HT:=Away.mk ht;have HM1:=Away.mk m1;have HM2:=Away.mk m2;have HM3:=Away.mk m3;have HM4:=Away.mk m4;have H2:=Away.mk hvs;have HR:=Away.mk hr;have HBr:=Away.mk hb;have HL:=Away.mk holo;have HP:=Away.mk hp
   clear hcx hval hvs hr hb holo ht m1 m2 m3 m4 hnk hp hm' HS HR3 HB3
   go_wp2
   go_region
   obtain ⟨y,hy⟩:∃ y,x * 2 ^ (p % 4 * 8) = y:=⟨_,rfl⟩
   have hyi:(x:Int) * 2 ^ (p % 4 * 8) = (y:Int):=by rw [← hy];simp
   rw [hy] at HM1 HM2 HM3 HM4
   have ho:=u32_or_nat t y htb HM3.out
   rw [HM2.out] at ho
   have hm3:=HM3.out
   rw [hyi,show (y:Int) % 4294967296 = (y:Int) by omega,ho]
   clear ho hyi hy hm3
   go_wp2
   go_roundw
   case rel =>
    have hp:=HP.out
    refine ⟨k + 1,out.set (p / 4) (t + y),by omega,by go_num,by simp [hol],HL.out.set _ _ HM1.out,?_,?_,(HBr.out.setCell (p:=⟨w.heap.size,p / 4,none⟩) (Nat.le_refl _) _).drew⟩
    ·rw [HM4.out,H2.out,show n - (k + 1) = p by omega]
    ·have:=HR.out.set (p / 4) (.int .u32 ((t + y:Nat):Int))
     rw [← C_set] at this
     exact this
   case measure=>simp [intOf];omega
  ·obtain rfl:k = n:=by omega
   rw [List.take_of_length_le (by omega),Nat.sub_self,Nat.pow_zero,Nat.one_mul] at hval
   have HT:=Away.mk (trimmed_new w.heap.size w.heap.size out wr hr (Nat.le_refl _) holo (by omega))
   rw [hval,hol] at HT
   have HBr:=Away.mk hb
   clear hval hr hb holo HR3 HB3 hm'
   go_wp2_with fail
   refine HT.out.mono ?_
   rintro _ w6 ⟨v',rfl,hans,hb6⟩
   go_wp2
   go_ret
   exact ⟨_,rfl,hans,HBr.out.trans (hb6.mono HBr.out.size)⟩
end Go.Proofs.YtmjimilhomabfaaGreatDoor
