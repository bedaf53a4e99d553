/-
 Texts joined:  FldI FldJ
-/
import Derived.Test.YtmjimilhomabfaaGreatDoorF13a
import Derived.BigQuiet
import Derived.Test.YtmjimilhomabfaaGreatDoorK13
namespace Go.Proofs.YtmjimilhomabfaaGreatDoor.F
open Go.RowKit
set_option linter.unusedVariables false
set_option maxRecDepth 10000
theorem fmul_any (A B:Nat) (hA:A < 115792089237316195423570985008687907853269984665640564039457584007913129639936) (hB:B < 115792089237316195423570985008687907853269984665640564039457584007913129639936) (w:World) (hT:Tab w):Calls Tryz.prog 110 #[el A,el B] w fun e w'=>e = .returned (el (A * B % P)) ∧ Below w.heap.size w w':=by
 obtain ⟨w4,h4,h⟩:=H2.begin w (C .u64 (wds A)) (C .u64 (wds B)) (C .u64 (Z 4))
 obtain ⟨R,hR⟩:∃ R,A * B % P = R:=⟨_,rfl⟩
 rw [hR]
 have HR:=Away.mk hR
 clear hR
 unfold el
 go_enter Tryz.func110,Tryz.ntmps110
 go_upto_region 1 with (refine wpList_alloc_row rfl 32 rfl _ z4 ?_)
 try simp only [Act.put,stA,st0,st1,alloc_size,h4]
 clear h4
 go_wp2_with (first | refine wpList_load_row rfl 32 _ rfl _ rfl _ _ _ _ h.r1 Tryz.underlying32 rfl (ie4 _) ?_ | refine wpList_load_row rfl 32 _ rfl _ rfl _ _ _ _ h.r2 Tryz.underlying32 rfl (ie4 _) ?_)
 refine (product_any A B hA hB _).mono ?_
 rintro _ wn ⟨⟨p,rfl,lp,hp,hv⟩,hb⟩
 replace h:=h.below hb
 clear hb
 have HV:=Away.mk hv
 clear hv
 go_wp2_with fail
 refine (folded_any p lp hp _).mono ?_
 rintro _ wn2 ⟨⟨M,rfl,hM,hMv⟩,hb⟩
 replace h:=h.below hb
 rw [HV.out] at hMv
 clear hb
 go_wp2_with fail
 refine (reduce_any M hM _ (h.tab hT)).mono ?_
 rintro _ wn3 ⟨rfl,hb⟩
 replace h:=h.below hb
 rw [hMv,HR.out]
 clear hb hMv
 go_wp2_with (refine wpList_store_R rfl 32 _ _ rfl _ (C .u64 (wds R)) rfl rfl h.r3 (ie4 _) (ze4 _) (C_allL _ _) ?_;intro w7 q7 hg7 hz7)
 exact result_row Tryz.results110 rfl q7 Tryz.underlying32 rfl (ie4 _) rfl ⟨rfl,below_grown h.bel hg7 (by omega) h.r3.lt⟩
def pw (A N k:Nat):Nat:=A ^ (N / 2 ^ (256 - k)) % P
theorem pw_zero {A N:Nat} (h:N < 115792089237316195423570985008687907853269984665640564039457584007913129639936):pw A N 0 = 1:=by
 unfold pw
 rw [Nat.div_eq_of_lt (by rw [show (2:Nat) ^ (256 - 0) = 115792089237316195423570985008687907853269984665640564039457584007913129639936 by decide];exact h),Nat.pow_zero]
 exact Nat.mod_eq_of_lt (by have:=P_two;omega)
theorem pw_all (A N:Nat):pw A N 256 = A ^ N % P:=by
 unfold pw
 rw [show 256 - 256 = 0 from rfl,Nat.pow_zero,Nat.div_one]
theorem pw_step {A N k:Nat} (h:k < 256):pw A N (k + 1) = if N / 2 ^ (255 - k) % 2 = 1 then pw A N k * pw A N k % P * A % P else pw A N k * pw A N k % P:=by
 unfold pw
 have e1:N / 2 ^ (256 - k) = N / 2 ^ (255 - k) / 2:=by rw [Nat.div_div_eq_div_mul,← Nat.pow_succ,show (255 - k).succ = 256 - k by omega]
 rw [show 256 - (k + 1) = 255 - k by omega,e1]
 generalize N / 2 ^ (255 - k) = m
 have e2:A ^ (m / 2) % P * (A ^ (m / 2) % P) % P = A ^ (2 * (m / 2)) % P:=by rw [← Nat.mul_mod,← Nat.pow_add,Nat.two_mul]
 rw [e2]
 split
 ·rw [Nat.mod_mul_mod,← Nat.pow_succ]
  congr 2
  omega
 ·congr 2
  omega
theorem pw_lt (A N k:Nat):pw A N k < 115792089237316195423570985008687907853269984665640564039457584007913129639936:=mod_lt_T _
set_option maxHeartbeats 1000000 in
theorem fpow_any (A N:Nat) (hA:A < 115792089237316195423570985008687907853269984665640564039457584007913129639936) (hN:N < 115792089237316195423570985008687907853269984665640564039457584007913129639936) (w:World) (hT:Tab w):Calls Tryz.prog 109 #[el A,el N] w fun e w'=>e = .returned (el (A ^ N % P)) ∧ Below w.heap.size w w':=by
 obtain ⟨w4,h4,h⟩:=H2.begin w (C .u64 (wds A)) (C .u64 (wds N)) (C .u64 (Z 4))
 rw [← pw_all]
 unfold el
 go_enter Tryz.func109,Tryz.ntmps109
 go_upto_region 1 with (refine wpList_alloc_row rfl 32 rfl _ z4 ?_)
 try simp only [Act.put,stA,st0,st1,alloc_size,h4]
 clear h4
 go_wp2_with fail
 refine (from_any 1 (by decide) _).mono ?_
 rintro _ wn ⟨rfl,hb⟩
 replace h:=h.below hb
 clear hb
 obtain ⟨g3,hg3,q,hq⟩:=new_row h
 replace h:=h.alloc (.cells (C .u64 (Z 4)).toArray 32)
 go_wp2_with (first | refine wpList_alloc_row rfl 32 rfl _ z4 ?_ | (refine wpList_store_R rfl 32 _ _ rfl _ (C .u64 (wds 1)) (by rw [← hg3];rfl) rfl q (ie4 _) (ze4 _) (C_allL _ _) ?_;intro w5 r5 hg5 hz5))
 replace h:=h.grown hg5 hq.1
 have hq1:=hq.1
 rw [← pw_zero (A:=A) hN] at r5
 try rw [hg3]
 clear hg5 q hq hg3
 go_loopw [8] (fun i wr=>∃ k:Nat,k ≤ 256 ∧ i = .int .i64 k ∧ Row wr g3 32 (C .u64 (wds (pw A N k))) ∧ H2 w.heap.size w wr (C .u64 (wds A)) (C .u64 (wds N)) (C .u64 (Z 4))) (fun i _=>256 - (intOf i).toNat)
 case atStart=>exact ⟨0,Nat.zero_le _,rfl,r5,h⟩
 case round =>
  clear r5 h
  obtain ⟨k,hk,rfl,q,h⟩:=hrel
  by_cases hlt:k < 256
  ·have hki:(k:Int) < 256:=by omega
   obtain ⟨i,hi⟩:∃ i,255 - k = i:=⟨_,rfl⟩
   have di:IntKind.i64.wrap ((255:Int) - (k:Int)) = (i:Int):=by rw [IntWalk.i64_in _ ⟨by omega,by omega⟩];omega
   have hil:i < 256:=by omega
   have HN:Away (pw A N (k + 1) = if N / 2 ^ i % 2 = 1 then pw A N k * pw A N k % P * A % P else pw A N k * pw A N k % P):=⟨by rw [pw_step hlt,hi]⟩
   have hX:=pw_lt A N k
   generalize pw A N k = X at *
   clear hi
   go_wp2_with (refine wpList_load_row rfl 32 _ rfl _ rfl _ _ _ _ q Tryz.underlying32 rfl (ie4 _) ?_)
   refine (fmul_any X X hX hX _ (h.tab hT)).mono ?_
   rintro _ wn2 ⟨rfl,hb⟩
   replace h:=h.below hb
   replace q:=q.belowS hb
   clear hb
   have hYl:=mod_lt_T (X * X)
   generalize X * X % P = Y at *
   have hbt:=fbit_any N i hN hil
   obtain ⟨b,hbv⟩:∃ b,decide (N / 2 ^ i % 2 = 1) = b:=⟨_,rfl⟩
   rw [hbv] at hbt
   go_upto_region 6 with (refine wpList_store_R rfl 32 _ _ rfl _ (C .u64 (wds Y)) rfl rfl q (ie4 _) (ee4 _ _) (C_allL _ _) ?_;intro w6 q6 hg6 hz6)
   replace h:=h.grown hg6 hq1
   clear q hg6
   go_wp2_with (refine wpList_load_row rfl 32 _ rfl _ rfl _ _ _ _ h.r2 Tryz.underlying32 rfl (ie4 _) ?_)
   refine (hbt _).mono ?_
   rintro _ wn3 ⟨rfl,hb⟩
   replace h:=h.below hb
   replace q6:=q6.belowS hb
   clear hb hbt
   cases b
   ·have HN':Away (pw A N (k + 1) = Y):=⟨by rw [HN.out,if_neg (of_decide_eq_false hbv)]⟩
    clear HN hbv
    go_wp2
    go_roundw
    case rel=>exact ⟨k + 1,by omega,by go_num,by rw [HN'.out];exact q6,h⟩
    case measure=>simp [intOf];omega
   ·have HN':Away (pw A N (k + 1) = Y * A % P):=⟨by rw [HN.out,if_pos (of_decide_eq_true hbv)]⟩
    clear HN hbv
    go_wp2_with (first | refine wpList_load_row rfl 32 _ rfl _ rfl _ _ _ _ q6 Tryz.underlying32 rfl (ie4 _) ?_ | refine wpList_load_row rfl 32 _ rfl _ rfl _ _ _ _ h.r1 Tryz.underlying32 rfl (ie4 _) ?_)
    refine (fmul_any Y A hYl hA _ (h.tab hT)).mono ?_
    rintro _ wn4 ⟨rfl,hb⟩
    replace h:=h.below hb
    replace q6:=q6.belowS hb
    clear hb
    generalize Y * A % P = V at *
    go_wp2_with (refine wpList_store_R rfl 32 _ _ rfl _ (C .u64 (wds V)) rfl rfl q6 (ie4 _) (ee4 _ _) (C_allL _ _) ?_;intro w7 q7 hg7 hz7)
    replace h:=h.grown hg7 hq1
    clear q6 hg7
    go_roundw
    case rel=>exact ⟨k + 1,by omega,by go_num,by rw [HN'.out];exact q7,h⟩
    case measure=>simp [intOf];omega
  ·have HK:Away (k = 256):=⟨by omega⟩
   have dk:decide ((k:Int) < 256) = false:=decide_eq_false (by omega)
   obtain ⟨V,hV⟩:∃ V,pw A N 256 = V:=⟨_,rfl⟩
   rw [HK.out,hV] at q
   have HV:=Away.mk hV
   clear hV hlt hk
   go_wp2_with (first | refine wpList_load_row rfl 32 _ rfl _ rfl _ _ _ _ q Tryz.underlying32 rfl (ie4 _) ?_ | (refine wpList_store_R rfl 32 _ _ rfl _ (C .u64 (wds V)) rfl rfl h.r3 (ie4 _) (ze4 _) (C_allL _ _) ?_;intro w7 q7 hg7 hz7))
   exact result_row Tryz.results109 rfl q7 Tryz.underlying32 rfl (ie4 _) rfl ⟨by rw [HV.out],below_grown h.bel hg7 (by omega) h.r3.lt⟩
theorem eq4 (w:World) (X Y:Nat) (hX:X < 115792089237316195423570985008687907853269984665640564039457584007913129639936) (hY:Y < 115792089237316195423570985008687907853269984665640564039457584007913129639936):(Op.equalIn 10000 32 (.agg (C .u64 (wds X)).toArray) (.agg (C .u64 (wds Y)).toArray)).run Tryz.prog w = .ok (decide (X = Y)) w:=by
 have hi:∃ i,Tryz.prog.info? 30 = some i:=by
  have:=i1w
  cases hq:Tryz.prog.info? 30 with
  | none=>rw [hq] at this;cases this
  | some i=>exact ⟨i,rfl⟩
 rw [run_equal_C w 9998 Tryz.underlying32 (by kernel_rfl) Tryz.underlying30 hi (by kernel_rfl) _ _ (wds_length X) (wds_length Y)]
 congr 1
 rw [decide_eq_decide]
 exact ⟨wds_inj hX hY,fun h=>by rw [h]⟩
theorem neq4 (w:World) (X Y:Nat) (hX:X < 115792089237316195423570985008687907853269984665640564039457584007913129639936) (hY:Y < 115792089237316195423570985008687907853269984665640564039457584007913129639936):(Op.equalIn 10000 32 (.agg (C .u64 (wds X)).toArray) (.agg (C .u64 (wds Y)).toArray)).run Tryz.prog w = .ok (decide (X = Y)) w:=eq4 w X Y hX hY
theorem b4z:Tryz.prog.built 32 [] = some (C .u64 (wds 0)).toArray:=by kernel_rfl
theorem im_lt:im < 115792089237316195423570985008687907853269984665640564039457584007913129639936:=by decide +kernel
theorem Q8_lt:Q8 < 115792089237316195423570985008687907853269984665640564039457584007913129639936:=by decide +kernel
theorem P2_lt:P - 2 < 115792089237316195423570985008687907853269984665640564039457584007913129639936:=by decide +kernel
theorem fmul_el (A B:Nat) (hA:A < 115792089237316195423570985008687907853269984665640564039457584007913129639936) (hB:B < 115792089237316195423570985008687907853269984665640564039457584007913129639936) (w:World) (hT:Tab w):Calls Tryz.prog 110 #[.agg (C .u64 (wds A)).toArray,.agg (C .u64 (wds B)).toArray] w fun e w'=>e = .returned (.agg (C .u64 (wds (A * B % P))).toArray) ∧ Below w.heap.size w w':=fmul_any A B hA hB w hT
theorem fsub_el (A B:Nat) (hA:A < 115792089237316195423570985008687907853269984665640564039457584007913129639936) (hB:B < 115792089237316195423570985008687907853269984665640564039457584007913129639936) (w:World) (hT:Tab w):Calls Tryz.prog 112 #[.agg (C .u64 (wds A)).toArray,.agg (C .u64 (wds B)).toArray] w fun e w'=>e = .returned (.agg (C .u64 (wds ((A % P + (P - B % P)) % P))).toArray) ∧ Below w.heap.size w w':=fsub_any A B hA hB w hT
theorem fpow_el (A B:Nat) (hA:A < 115792089237316195423570985008687907853269984665640564039457584007913129639936) (hB:B < 115792089237316195423570985008687907853269984665640564039457584007913129639936) (w:World) (hT:Tab w):Calls Tryz.prog 109 #[.agg (C .u64 (wds A)).toArray,.agg (C .u64 (wds B)).toArray] w fun e w'=>e = .returned (.agg (C .u64 (wds (A ^ B % P))).toArray) ∧ Below w.heap.size w w':=fpow_any A B hA hB w hT
theorem reduce_el (A:Nat) (hA:A < 115792089237316195423570985008687907853269984665640564039457584007913129639936) (w:World) (hT:Tab w):Calls Tryz.prog 107 #[.agg (C .u64 (wds A)).toArray] w fun e w'=>e = .returned (.agg (C .u64 (wds (A % P))).toArray) ∧ Below w.heap.size w w':=reduce_any A hA w hT
theorem evn_sub {r:Nat} (h:r < P) (ho:r % 2 = 1):(0 % P + (P - r % P)) % P = evn r:=by
 unfold evn
 rw [if_pos ho,Nat.zero_mod,Nat.zero_add,Nat.mod_eq_of_lt h,Nat.mod_eq_of_lt (by omega)]
theorem rt_prog (A:Nat):((A % P) ^ Q8 % P * ((A % P) ^ Q8 % P) % P = A % P → rt A = (evn ((A % P) ^ Q8 % P),true)) ∧
  (¬ (A % P) ^ Q8 % P * ((A % P) ^ Q8 % P) % P = A % P → (A % P) ^ Q8 % P * im % P * ((A % P) ^ Q8 % P * im % P) % P = A % P → rt A = (evn ((A % P) ^ Q8 % P * im % P),true)) ∧
  (¬ (A % P) ^ Q8 % P * ((A % P) ^ Q8 % P) % P = A % P → ¬ (A % P) ^ Q8 % P * im % P * ((A % P) ^ Q8 % P * im % P) % P = A % P → rt A = (0,false)):=by
 have e:(A % P) ^ Q8 % P = A ^ Q8 % P:=(Nat.pow_mod A Q8 P).symm
 rw [e]
 unfold rt
 refine ⟨fun h=>by rw [if_pos h],fun h k=>by rw [if_neg h,if_pos k],fun h k=>by rw [if_neg h,if_neg k]⟩
theorem finv_any (A:Nat) (hA:A < 115792089237316195423570985008687907853269984665640564039457584007913129639936) (w:World) (hT:Tab w) (hI:Glob w 6 (P - 2)):Calls Tryz.prog 114 #[el A] w fun e w'=>e = .returned (el (A ^ (P - 2) % P)) ∧ Below w.heap.size w w':=by
 obtain ⟨w4,h4,h⟩:=H1.begin w (C .u64 (wds A)) (C .u64 (Z 4))
 have hp:=fpow_el A (P - 2) hA P2_lt
 obtain ⟨R,hR⟩:∃ R,A ^ (P - 2) % P = R:=⟨_,rfl⟩
 rw [hR] at hp ⊢
 clear hR
 have hiI:=ie4 (P - 2)
 obtain ⟨tg,fg,hTg⟩:=h.tab hI
 generalize P - 2 = E at *
 unfold el
 go_enter Tryz.func114,Tryz.ntmps114
 go_upto_region 1 with (refine wpList_alloc_row rfl 32 rfl _ z4 ?_)
 try simp only [Act.put,stA,st0,st1,alloc_size,h4]
 clear h4
 go_wp2_with (first | refine wpList_load_row rfl 32 _ rfl _ rfl _ _ _ _ h.r1 Tryz.underlying32 rfl (ie4 _) ?_ | refine wpList_load_row rfl 32 _ rfl _ rfl _ _ _ _ hTg Tryz.underlying32 rfl hiI ?_)
 refine (hp _ (h.tab hT)).mono ?_
 rintro _ wn ⟨rfl,hb⟩
 replace h:=h.below hb
 clear hb hTg hp
 go_wp2_with (refine wpList_store_R rfl 32 _ _ rfl _ (C .u64 (wds R)) rfl rfl h.r3 (ie4 _) (ze4 _) (C_allL _ _) ?_;intro w7 q7 hg7 hz7)
 exact result_row Tryz.results114 rfl q7 Tryz.underlying32 rfl (ie4 _) rfl ⟨rfl,below_grown h.bel hg7 (by omega) h.r3.lt⟩
theorem new_row1 {g:Nat} {w0 w:World} {us xs:List Value} (h:H1 g w0 w us xs):∃ g3:Nat,w.heap.size = g3 ∧ Row (w.alloc (.cells (C .u64 (Z 4)).toArray 32)) g3 32 (C .u64 (Z 4)) ∧ (g + 1 < g3 ∧ g3 < (w.alloc (.cells (C .u64 (Z 4)).toArray 32)).heap.size) :=
 ⟨_,rfl,Row.new w _ _,h.lt,by rw [alloc_size];omega⟩
theorem H1.set1 {g:Nat} {w0 w w':World} {us vs xs:List Value} (h:H1 g w0 w us xs) (hr:Row w' g 32 vs) (hg:w.grownBy w' (some g)) (hz:w'.heap.size = w.heap.size):H1 g w0 w' vs xs :=
 ⟨hr,h.r3.grown hg (by simp),below_grown h.bel hg (Nat.le_refl _) h.r1.lt,by rw [hz];exact h.lt⟩
set_option maxHeartbeats 4000000 in
theorem froot_any (A:Nat) (hA:A < 115792089237316195423570985008687907853269984665640564039457584007913129639936) (w:World) (hT:Tab w) (hR:Glob w 2 Q8) (hI:Glob w 3 im):Calls Tryz.prog 69 #[el A] w fun e w'=>e = .returned (.tuple #[el (rt A).1,.bool (rt A).2]) ∧ Below w.heap.size w w':=by
 obtain ⟨w4,h4,h⟩:=H1.begin w (C .u64 (wds A)) (C .u64 (Z 4))
 obtain ⟨H1,H2,H3⟩:=rt_prog A
 have hap:=mod_lt_P A
 have hal:=mod_lt_T A
 have hre:=reduce_el A hA
 obtain ⟨a,ha⟩:∃ a,A % P = a:=⟨_,rfl⟩
 rw [ha] at H1 H2 H3 hap hal hre
 clear ha
 have hpw:=fpow_el a Q8 hal Q8_lt
 have hrp:=mod_lt_P (a ^ Q8)
 have hrl:=mod_lt_T (a ^ Q8)
 obtain ⟨r,hr⟩:∃ r,a ^ Q8 % P = r:=⟨_,rfl⟩
 rw [hr] at H1 H2 H3 hpw hrp hrl
 clear hr
 have hsp:=mod_lt_P (r * im)
 have hsl:=mod_lt_T (r * im)
 obtain ⟨s,hs⟩:∃ s,r * im % P = s:=⟨_,rfl⟩
 rw [hs] at H2 H3 hsp hsl
 replace H1:=Away.mk H1
 replace H2:=Away.mk H2
 replace H3:=Away.mk H3
 unfold el
 go_enter Tryz.func69,Tryz.ntmps69
 go_upto_region 1 with (refine wpList_alloc_row rfl 32 rfl _ z4 ?_)
 try simp only [Act.put,stA,st0,st1,alloc_size,h4]
 clear h4
 go_wp2_with (refine wpList_load_row rfl 32 _ rfl _ rfl _ _ _ _ h.r1 Tryz.underlying32 rfl (ie4 _) ?_)
 refine (hre _ (h.tab hT)).mono ?_
 rintro _ wn ⟨rfl,hb⟩
 replace h:=h.below hb
 clear hb hre
 go_upto_region 2 with (refine wpList_store_R rfl 32 _ _ rfl _ (C .u64 (wds a)) rfl rfl h.r1 (ie4 _) (ee4 _ _) (C_allL _ _) ?_;intro w5 q5 hg5 hz5)
 replace h:=h.set1 q5 hg5 hz5
 clear q5 hg5 hz5
 obtain ⟨tg,fg,hTg⟩:=h.tab hR
 go_wp2_with (first | refine wpList_load_row rfl 32 _ rfl _ rfl _ _ _ _ h.r1 Tryz.underlying32 rfl (ie4 _) ?_ | refine wpList_load_row rfl 32 _ rfl _ rfl _ _ _ _ hTg Tryz.underlying32 rfl (ie4 Q8) ?_)
 refine (hpw _ (h.tab hT)).mono ?_
 rintro _ wn ⟨rfl,hb⟩
 replace h:=h.below hb
 clear hb hTg hpw
 obtain ⟨g3,hg3,q0,hq⟩:=new_row1 h
 replace h:=h.alloc (.cells (C .u64 (Z 4)).toArray 32)
 go_upto_region 3 with (first | refine wpList_alloc_row rfl 32 rfl _ z4 ?_ | (refine wpList_store_R rfl 32 _ _ rfl _ (C .u64 (wds r)) (by rw [← hg3];rfl) rfl q0 (ie4 _) (ze4 _) (C_allL _ _) ?_;intro w5 q hg5 hz5))
 replace h:=h.grown hg5 hq.1
 have hq1:=hq.1
 try rw [hg3]
 clear q0 hg5 hq hg3 hz5
 by_cases er:r * r % P = a
 ·replace h:=h.drew
  replace q:=q.drew
  refine wp_region_noPanic ?_
  refine wp_region_held_drew (S:=fun w'=>Row w' g3 32 (C .u64 (wds r)) ∧ Row w' w.heap.size 32 (C .u64 (wds a))) (by kernel_rfl) ⟨q,h.r1⟩ (fun _=>?_)
  refine tkL 0 (.agg (C .u64 (wds r)).toArray) rfl (fun w hSw=>exec_load_R 32 _ rfl rfl hSw.1 Tryz.underlying32 (ie4 r)) ?_
  simp only [Act.put,stA,st0,st1]
  refine tkL 1 (.agg (C .u64 (wds r)).toArray) rfl (fun w hSw=>exec_load_R 32 _ rfl rfl hSw.1 Tryz.underlying32 (ie4 r)) ?_
  simp only [Act.put,stA,st0,st1]
  refine tkL 3 (.agg (C .u64 (wds a)).toArray) rfl (fun w hSw=>exec_load_R 32 _ rfl rfl hSw.2 Tryz.underlying32 (ie4 a)) ?_
  simp only [Act.put,stA,st0,st1]
  refine ar1 2 rfl (fun K hK=>?_)
  go_simp
  refine (fmul_el r r hrl hrl _ (h.tab hT)).mono ?_
  rintro _ wnu ⟨rfl,hb⟩
  replace h:=h.below hb
  replace q:=q.belowS hb
  clear hb
  refine hK.out _ _ ⟨q,h.r1⟩ (fun _=>?_)
  clear hK K
  have hqu:=fun w=>neq4 w (a) a (hal) hal
  simp only [decide_true] at hqu
  refine tkL 4 (.bool false) rfl ?h4u ?_
  case h4u=>intro w hSw;go_simp <;> first | rfl | (simp only [hqu];rfl)
  simp only [Act.put,stA,st0,st1]
  clear hqu
  refine wpAnyH_done (by kernel_rfl) ?_ _
  refine NoPanic.normal ?_
  go_upto_region 5 with fail
  replace h:=h.drew
  replace q:=q.drew
  refine wp_region_noPanic ?_
  refine wp_region_held_drew (S:=fun w'=>Row w' g3 32 (C .u64 (wds r)) ∧ Row w' w.heap.size 32 (C .u64 (wds a))) (by kernel_rfl) ⟨q,h.r1⟩ (fun _=>?_)
  refine tkL 0 (.agg (C .u64 (wds r)).toArray) rfl (fun w hSw=>exec_load_R 32 _ rfl rfl hSw.1 Tryz.underlying32 (ie4 r)) ?_
  simp only [Act.put,stA,st0,st1]
  refine tkL 1 (.agg (C .u64 (wds r)).toArray) rfl (fun w hSw=>exec_load_R 32 _ rfl rfl hSw.1 Tryz.underlying32 (ie4 r)) ?_
  simp only [Act.put,stA,st0,st1]
  refine tkL 3 (.agg (C .u64 (wds a)).toArray) rfl (fun w hSw=>exec_load_R 32 _ rfl rfl hSw.2 Tryz.underlying32 (ie4 a)) ?_
  simp only [Act.put,stA,st0,st1]
  refine ar1 2 rfl (fun K hK=>?_)
  go_simp
  refine (fmul_el r r hrl hrl _ (h.tab hT)).mono ?_
  rintro _ wnv ⟨rfl,hb⟩
  replace h:=h.below hb
  replace q:=q.belowS hb
  clear hb
  refine hK.out _ _ ⟨q,h.r1⟩ (fun _=>?_)
  clear hK K
  have hqv:=fun w=>neq4 w (a) a (hal) hal
  simp only [decide_true] at hqv
  refine tkL 4 (.bool false) rfl ?h4v ?_
  case h4v=>intro w hSw;go_simp <;> first | rfl | (simp only [hqv];rfl)
  simp only [Act.put,stA,st0,st1]
  clear hqv
  refine wpAnyH_done (by kernel_rfl) ?_ _
  refine NoPanic.normal ?_
  go_wp2_with (refine wpList_load_row rfl 32 _ rfl _ rfl _ _ _ _ q Tryz.underlying32 rfl (ie4 r) ?_)
  refine (fbit_any r 0 hrl (by decide) _).mono ?_
  rintro _ wb ⟨rfl,hb⟩
  replace h:=h.below hb
  replace q:=q.belowS hb
  clear hb
  rw [show r / 2 ^ 0 = r by rw [Nat.pow_zero,Nat.div_one]]
  by_cases ho:r % 2 = 1
  ·rw [decide_eq_true ho]
   have HZ:=Away.mk (evn_sub hrp ho)
   have hE:evn r < 115792089237316195423570985008687907853269984665640564039457584007913129639936:=Nat.lt_trans (evn_ok hrp).1 P_lt
   go_wp2_with (first | refine wpList_build_Z rfl 32 rfl _ b4z ?_ | refine wpList_load_row rfl 32 _ rfl _ rfl _ _ _ _ q Tryz.underlying32 rfl (ie4 r) ?_)
   refine (fsub_el 0 r (by decide) hrl _ (h.tab hT)).mono ?_
   rintro _ ws ⟨rfl,hb⟩
   rw [HZ.out]
   replace h:=h.below hb
   replace q:=q.belowS hb
   clear hb HZ
   generalize hev:evn r = E at *
   go_wp2_with (first | (refine wpList_store_R rfl 32 _ _ rfl _ (C .u64 (wds E)) rfl rfl q (ie4 _) (ee4 _ _) (C_allL _ _) ?_;intro w6 q6 hg6 hz6;have h6:=h.grown hg6 hq1) | refine wpList_load_row rfl 32 _ rfl _ rfl _ _ _ _ q6 Tryz.underlying32 rfl (ie4 _) ?_ | (refine wpList_store_R rfl 32 _ _ rfl _ (C .u64 (wds E)) rfl rfl h6.r3 (ie4 _) (ze4 _) (C_allL _ _) ?_;intro w7 q7 hg7 hz7))
   exact result_row2 Tryz.results69 (v:=.bool true) rfl rfl q7 Tryz.underlying32 rfl (ie4 _) rfl ⟨by rw [H1.out er],below_grown h6.bel hg7 (by omega) h6.r3.lt⟩
  ·rw [decide_eq_false ho]
   have hev:evn r = r:=by unfold evn;rw [if_neg ho]
   go_wp2_with (first | refine wpList_load_row rfl 32 _ rfl _ rfl _ _ _ _ q Tryz.underlying32 rfl (ie4 r) ?_ | (refine wpList_store_R rfl 32 _ _ rfl _ (C .u64 (wds r)) rfl rfl h.r3 (ie4 _) (ze4 _) (C_allL _ _) ?_;intro w7 q7 hg7 hz7))
   exact result_row2 Tryz.results69 (v:=.bool true) rfl rfl q7 Tryz.underlying32 rfl (ie4 _) rfl ⟨by rw [H1.out er,hev],below_grown h.bel hg7 (by omega) h.r3.lt⟩
 ·replace h:=h.drew
  replace q:=q.drew
  refine wp_region_noPanic ?_
  refine wp_region_held_drew (S:=fun w'=>Row w' g3 32 (C .u64 (wds r)) ∧ Row w' w.heap.size 32 (C .u64 (wds a))) (by kernel_rfl) ⟨q,h.r1⟩ (fun _=>?_)
  refine tkL 0 (.agg (C .u64 (wds r)).toArray) rfl (fun w hSw=>exec_load_R 32 _ rfl rfl hSw.1 Tryz.underlying32 (ie4 r)) ?_
  simp only [Act.put,stA,st0,st1]
  refine tkL 1 (.agg (C .u64 (wds r)).toArray) rfl (fun w hSw=>exec_load_R 32 _ rfl rfl hSw.1 Tryz.underlying32 (ie4 r)) ?_
  simp only [Act.put,stA,st0,st1]
  refine tkL 3 (.agg (C .u64 (wds a)).toArray) rfl (fun w hSw=>exec_load_R 32 _ rfl rfl hSw.2 Tryz.underlying32 (ie4 a)) ?_
  simp only [Act.put,stA,st0,st1]
  refine ar1 2 rfl (fun K hK=>?_)
  go_simp
  refine (fmul_el r r hrl hrl _ (h.tab hT)).mono ?_
  rintro _ wnx ⟨rfl,hb⟩
  replace h:=h.below hb
  replace q:=q.belowS hb
  clear hb
  refine hK.out _ _ ⟨q,h.r1⟩ (fun _=>?_)
  clear hK K
  have hqx:=fun w=>neq4 w (r * r % P) a (mod_lt_T _) hal
  simp only [decide_eq_false er] at hqx
  refine tkL 4 (.bool true) rfl ?h4x ?_
  case h4x=>intro w hSw;go_simp <;> first | rfl | (simp only [hqx];rfl)
  simp only [Act.put,stA,st0,st1]
  clear hqx
  refine wpAnyH_done (by kernel_rfl) ?_ _
  refine NoPanic.normal ?_
  obtain ⟨tg,fg,hTg⟩:=h.tab hI
  go_wp2_with (first | refine wpList_load_row rfl 32 _ rfl _ rfl _ _ _ _ q Tryz.underlying32 rfl (ie4 r) ?_ | refine wpList_load_row rfl 32 _ rfl _ rfl _ _ _ _ hTg Tryz.underlying32 rfl (ie4 im) ?_)
  refine (fmul_el r im hrl im_lt _ (h.tab hT)).mono ?_
  rintro _ wm ⟨rfl,hb⟩
  replace h:=h.below hb
  replace q:=q.belowS hb
  clear hb hTg
  rw [hs]
  go_upto_region 5 with ((refine wpList_store_R rfl 32 _ _ rfl _ (C .u64 (wds s)) rfl rfl q (ie4 _) (ee4 _ _) (C_allL _ _) ?_;intro w6 q6 hg6 hz6))
  replace h:=h.grown hg6 hq1
  clear q hg6
  have q:=q6
  clear q6
  by_cases es:s * s % P = a
  ·replace h:=h.drew
   replace q:=q.drew
   refine wp_region_noPanic ?_
   refine wp_region_held_drew (S:=fun w'=>Row w' g3 32 (C .u64 (wds s)) ∧ Row w' w.heap.size 32 (C .u64 (wds a))) (by kernel_rfl) ⟨q,h.r1⟩ (fun _=>?_)
   refine tkL 0 (.agg (C .u64 (wds s)).toArray) rfl (fun w hSw=>exec_load_R 32 _ rfl rfl hSw.1 Tryz.underlying32 (ie4 s)) ?_
   simp only [Act.put,stA,st0,st1]
   refine tkL 1 (.agg (C .u64 (wds s)).toArray) rfl (fun w hSw=>exec_load_R 32 _ rfl rfl hSw.1 Tryz.underlying32 (ie4 s)) ?_
   simp only [Act.put,stA,st0,st1]
   refine tkL 3 (.agg (C .u64 (wds a)).toArray) rfl (fun w hSw=>exec_load_R 32 _ rfl rfl hSw.2 Tryz.underlying32 (ie4 a)) ?_
   simp only [Act.put,stA,st0,st1]
   refine ar1 2 rfl (fun K hK=>?_)
   go_simp
   refine (fmul_el s s hsl hsl _ (h.tab hT)).mono ?_
   rintro _ wny ⟨rfl,hb⟩
   replace h:=h.below hb
   replace q:=q.belowS hb
   clear hb
   refine hK.out _ _ ⟨q,h.r1⟩ (fun _=>?_)
   clear hK K
   have hqy:=fun w=>neq4 w (a) a (hal) hal
   simp only [decide_true] at hqy
   refine tkL 4 (.bool false) rfl ?h4y ?_
   case h4y=>intro w hSw;go_simp <;> first | rfl | (simp only [hqy];rfl)
   simp only [Act.put,stA,st0,st1]
   clear hqy
   refine wpAnyH_done (by kernel_rfl) ?_ _
   refine NoPanic.normal ?_
   go_wp2_with (refine wpList_load_row rfl 32 _ rfl _ rfl _ _ _ _ q Tryz.underlying32 rfl (ie4 s) ?_)
   refine (fbit_any s 0 hsl (by decide) _).mono ?_
   rintro _ wb ⟨rfl,hb⟩
   replace h:=h.below hb
   replace q:=q.belowS hb
   clear hb
   rw [show s / 2 ^ 0 = s by rw [Nat.pow_zero,Nat.div_one]]
   by_cases ho:s % 2 = 1
   ·rw [decide_eq_true ho]
    have HZ:=Away.mk (evn_sub hsp ho)
    have hE:evn s < 115792089237316195423570985008687907853269984665640564039457584007913129639936:=Nat.lt_trans (evn_ok hsp).1 P_lt
    go_wp2_with (first | refine wpList_build_Z rfl 32 rfl _ b4z ?_ | refine wpList_load_row rfl 32 _ rfl _ rfl _ _ _ _ q Tryz.underlying32 rfl (ie4 s) ?_)
    refine (fsub_el 0 s (by decide) hsl _ (h.tab hT)).mono ?_
    rintro _ ws ⟨rfl,hb⟩
    rw [HZ.out]
    replace h:=h.below hb
    replace q:=q.belowS hb
    clear hb HZ
    generalize hev:evn s = E at *
    go_wp2_with (first | (refine wpList_store_R rfl 32 _ _ rfl _ (C .u64 (wds E)) rfl rfl q (ie4 _) (ee4 _ _) (C_allL _ _) ?_;intro w6 q6 hg6 hz6;have h6:=h.grown hg6 hq1) | refine wpList_load_row rfl 32 _ rfl _ rfl _ _ _ _ q6 Tryz.underlying32 rfl (ie4 _) ?_ | (refine wpList_store_R rfl 32 _ _ rfl _ (C .u64 (wds E)) rfl rfl h6.r3 (ie4 _) (ze4 _) (C_allL _ _) ?_;intro w7 q7 hg7 hz7))
    exact result_row2 Tryz.results69 (v:=.bool true) rfl rfl q7 Tryz.underlying32 rfl (ie4 _) rfl ⟨by rw [H2.out er es],below_grown h6.bel hg7 (by omega) h6.r3.lt⟩
   ·rw [decide_eq_false ho]
    have hev:evn s = s:=by unfold evn;rw [if_neg ho]
    go_wp2_with (first | refine wpList_load_row rfl 32 _ rfl _ rfl _ _ _ _ q Tryz.underlying32 rfl (ie4 s) ?_ | (refine wpList_store_R rfl 32 _ _ rfl _ (C .u64 (wds s)) rfl rfl h.r3 (ie4 _) (ze4 _) (C_allL _ _) ?_;intro w7 q7 hg7 hz7))
    exact result_row2 Tryz.results69 (v:=.bool true) rfl rfl q7 Tryz.underlying32 rfl (ie4 _) rfl ⟨by rw [H2.out er es,hev],below_grown h.bel hg7 (by omega) h.r3.lt⟩
  ·replace h:=h.drew
   replace q:=q.drew
   refine wp_region_noPanic ?_
   refine wp_region_held_drew (S:=fun w'=>Row w' g3 32 (C .u64 (wds s)) ∧ Row w' w.heap.size 32 (C .u64 (wds a))) (by kernel_rfl) ⟨q,h.r1⟩ (fun _=>?_)
   refine tkL 0 (.agg (C .u64 (wds s)).toArray) rfl (fun w hSw=>exec_load_R 32 _ rfl rfl hSw.1 Tryz.underlying32 (ie4 s)) ?_
   simp only [Act.put,stA,st0,st1]
   refine tkL 1 (.agg (C .u64 (wds s)).toArray) rfl (fun w hSw=>exec_load_R 32 _ rfl rfl hSw.1 Tryz.underlying32 (ie4 s)) ?_
   simp only [Act.put,stA,st0,st1]
   refine tkL 3 (.agg (C .u64 (wds a)).toArray) rfl (fun w hSw=>exec_load_R 32 _ rfl rfl hSw.2 Tryz.underlying32 (ie4 a)) ?_
   simp only [Act.put,stA,st0,st1]
   refine ar1 2 rfl (fun K hK=>?_)
   go_simp
   refine (fmul_el s s hsl hsl _ (h.tab hT)).mono ?_
   rintro _ wnz ⟨rfl,hb⟩
   replace h:=h.below hb
   replace q:=q.belowS hb
   clear hb
   refine hK.out _ _ ⟨q,h.r1⟩ (fun _=>?_)
   clear hK K
   have hqz:=fun w=>neq4 w (s * s % P) a (mod_lt_T _) hal
   simp only [decide_eq_false es] at hqz
   refine tkL 4 (.bool true) rfl ?h4z ?_
   case h4z=>intro w hSw;go_simp <;> first | rfl | (simp only [hqz];rfl)
   simp only [Act.put,stA,st0,st1]
   clear hqz
   refine wpAnyH_done (by kernel_rfl) ?_ _
   refine NoPanic.normal ?_
   go_wp2_with (first | refine wpList_build_Z rfl 32 rfl _ b4z ?_ | (refine wpList_store_R rfl 32 _ _ rfl _ (C .u64 (wds 0)) rfl rfl h.r3 (ie4 _) (ze4 _) (C_allL _ _) ?_;intro w7 q7 hg7 hz7))
   exact result_row2 Tryz.results69 (v:=.bool false) rfl rfl q7 Tryz.underlying32 rfl (ie4 _) rfl ⟨by rw [H3.out er es],below_grown h.bel hg7 (by omega) h.r3.lt⟩
end Go.Proofs.YtmjimilhomabfaaGreatDoor.F
