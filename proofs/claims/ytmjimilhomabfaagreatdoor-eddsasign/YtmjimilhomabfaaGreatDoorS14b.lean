/-
 Numbers modulo the order: bytes, wide numbers, secret numbers. Conditions: each as it says.
-/
import Derived.Test.YtmjimilhomabfaaGreatDoorS14a
import Derived.Test.YtmjimilhomabfaaGreatDoorN14b
namespace Go.Proofs.YtmjimilhomabfaaGreatDoor.F
open Go.RowKit
set_option linter.unusedVariables false
set_option maxRecDepth 10000
set_option maxHeartbeats 4000000 in
theorem r12read_any (b:List Nat) (hb:Lo 256 b) (hl:b.length = 32) (w:World):Calls Tryz.prog 38 #[.agg (C .u8 b).toArray] w fun e w'=>e = .returned (.tuple #[.agg (C .u64 (wds (if val 256 b < Lq then val 256 b else 0))).toArray,.bool (decide (val 256 b < Lq))]) ∧ Below w.heap.size w w':=by
 obtain ⟨w2,h2,r1,h3,hL,hS⟩:=rows2 w 22 32 (C .u8 b) (C .u64 (Z 4))
 have hsl:=r1.slAll (by rw [C_length,hl];unfold maxLen;omega)
 rw [C_length,hl] at hsl
 have hwh:=fwhole_any _ b hb hl _ hsl
 have hNl:=val_bytes_lt hb hl
 obtain ⟨N,hN⟩:∃ N,val 256 b = N:=⟨_,rfl⟩
 rw [hN] at hNl hwh ⊢
 have HN:=Away.mk hN
 clear hN
 obtain ⟨D,hD⟩:∃ D,(if N < Lq then N else 0) = D:=⟨_,rfl⟩
 rw [hD]
 have HD:=Away.mk hD
 clear hD
 obtain ⟨ov,hov⟩:∃ ov,decide (N < Lq) = ov:=⟨_,rfl⟩
 rw [hov]
 have HO:=Away.mk hov
 clear hov
 have hlp:=refless_el N Lq hNl Lq_lt
 rw [show decide (N < Lq) = ov from HO.out] at hlp
 generalize (N + 115792089237316195423570985008687907853269984665640564039457584007913129639936 - Lq) % 115792089237316195423570985008687907853269984665640564039457584007913129639936 = D2 at *
 go_enter Tryz.func38,Tryz.ntmps38
 go_upto_region 1 with (refine wpList_alloc_row rfl 32 rfl _ z4 ?_)
 try simp only [Act.put,stA,st0,st1,alloc_size,h2]
 clear h2
 go_wp2_with fail
 refine hwh.mono ?_
 rintro _ wn ⟨rfl,hb2⟩
 replace h3:=h3.belowS hb2
 replace hL:=hL.trans (hb2.mono hL.size)
 have hgs:=hb2.size
 clear hb2 r1 hsl
 have q0:=Row.new wn 32 (C .u64 (Z 4))
 have hn3:=h3.lt
 replace h3:=h3.alloc (.cells (C .u64 (Z 4)).toArray 32)
 replace hL:=hL.alloc hL.size (.cells (C .u64 (Z 4)).toArray 32)
 generalize hg4:wn.heap.size = g4 at *
 go_upto_region 2 with (first | refine wpList_alloc_row rfl 32 rfl _ z4 ?_ | (refine wpList_store_R rfl 32 _ _ rfl _ (C .u64 (wds N)) (by rw [← hg4];rfl) rfl q0 (ie4 _) (ze4 _) (C_allL _ _) ?_;intro w5 q4 hg5 hz5))
 replace h3:=h3.grown hg5 (by simp;omega)
 replace hL:=below_grown hL hg5 (by omega) q0.lt
 try rw [hg4]
 clear q0 hg5 hz5 hg4
 replace q4:=q4.drew
 replace h3:=h3.drew
 replace hL:=below_drawn hL
 have hsz:=q4.lt
 try simp only [Act.put,stA,st0,st1]
 go_cut [6] (fun v6 wc=>v6 = .bool ov ∧ Row wc g4 32 (C .u64 (wds N)) ∧ Row wc (w.heap.size + 1) 32 (C .u64 (Z 4)) ∧ Below w.heap.size w wc)
 case first =>
  refine wp_region_noPanic ?_
  refine wp_region_held_drew (S:=fun w'=>Row w' g4 32 (C .u64 (wds N))) (by kernel_rfl) q4 (fun _=>?_)
  refine tkL 0 (.agg (C .u64 (wds N)).toArray) rfl (fun w hSw=>exec_load_R 32 _ rfl rfl hSw Tryz.underlying32 (ie4 N)) ?_
  simp only [Act.put,stA,st0,st1]
  refine ar2 1 6 rfl rfl (fun K hK=>?_) (fun K hK=>?_)
  ·go_simp
   refine (reforder_any _).mono ?_
   rintro _ wn ⟨rfl,hb⟩
   replace q4:=q4.belowS hb
   replace h3:=h3.belowS hb
   replace hL:=hL.trans (hb.mono hL.size)
   replace hsz:=Nat.lt_of_lt_of_le hsz hb.size
   clear hb
   refine hK.out _ _ q4 (fun _=>?_)
   clear hK K
   refine ar2 2 6 rfl rfl (fun K hK=>?_) (fun K hK=>?_)
   ·go_simp
    refine (hlp _).mono ?_
    rintro _ wn ⟨rfl,hb⟩
    replace q4:=q4.belowS hb
    replace h3:=h3.belowS hb
    replace hL:=hL.trans (hb.mono hL.size)
    replace hsz:=Nat.lt_of_lt_of_le hsz hb.size
    clear hb
    refine hK.out _ _ q4 (fun _=>?_)
    clear hK K
    refine tkg 3 rfl ?_
    simp only [Act.put,stA,st0,st1]
    refine tkg 4 rfl ?_
    simp only [Act.put,stA,st0,st1]
    refine tkg 5 rfl ?_
    simp only [Act.put,stA,st0,st1]
    refine ar1 6 rfl (fun K hK=>?_)
    refine wp_alloc_R 32 rfl (C .u64 (Z 4)) z4 ?_
    obtain ⟨g5,hg5,q5,n5,n6,q4',h3',hL',hsz'⟩:=new_read q4 h3 hL hsz
    replace q4:=q4'
    replace h3:=h3'
    replace hL:=hL'
    replace hsz:=hsz'
    clear q4' h3' hL' hsz'
    rw [hg5]
    clear hg5
    refine hK.out _ _ q4 (fun _=>?_)
    clear hK K
    refine ar1 7 rfl (fun K hK=>?_)
    refine wp_store_R 32 _ _ rfl _ (C .u64 (wds D2)) rfl rfl q5 (ie4 _) (ze4 _) (C_allL _ _) ?_
    intro wz q5' hg hz
    replace q4:=q4.grown hg (by simp;omega)
    replace h3:=h3.grown hg (by simp;omega)
    replace hL:=below_grown hL hg (by omega) q5.lt
    clear q5 q5' hg
    refine hK.out _ _ q4 (fun _=>?_)
    clear hK K
    refine tkg 8 rfl ?_
    simp only [Act.put,stA,st0,st1]
    refine wpAnyH_done (by kernel_rfl) ?_ _
    refine NoPanic.normal ?_
    go_wp2
    go_meet
    case rel=>exact ⟨rfl,q4,h3,hL⟩
   ·refine wp_alloc_R 32 rfl (C .u64 (Z 4)) z4 ?_
    obtain ⟨g5,hg5,q5,n5,n6,q4',h3',hL',hsz'⟩:=new_read q4 h3 hL hsz
    replace q4:=q4'
    replace h3:=h3'
    replace hL:=hL'
    replace hsz:=hsz'
    clear q4' h3' hL' hsz'
    rw [hg5]
    clear hg5
    refine hK.out _ _ q4 (fun _=>?_)
    clear hK K
    refine ar1 2 rfl (fun K hK=>?_)
    go_simp
    refine (hlp _).mono ?_
    rintro _ wn ⟨rfl,hb⟩
    replace q4:=q4.belowS hb
    replace h3:=h3.belowS hb
    replace hL:=hL.trans (hb.mono hL.size)
    replace hsz:=Nat.lt_of_lt_of_le hsz hb.size
    replace q5:=q5.belowS hb
    clear hb
    refine hK.out _ _ q4 (fun _=>?_)
    clear hK K
    refine tkg 3 rfl ?_
    simp only [Act.put,stA,st0,st1]
    refine tkg 4 rfl ?_
    simp only [Act.put,stA,st0,st1]
    refine tkg 5 rfl ?_
    simp only [Act.put,stA,st0,st1]
    refine ar1 7 rfl (fun K hK=>?_)
    refine wp_store_R 32 _ _ rfl _ (C .u64 (wds D2)) rfl rfl q5 (ie4 _) (ze4 _) (C_allL _ _) ?_
    intro wz q5' hg hz
    replace q4:=q4.grown hg (by simp;omega)
    replace h3:=h3.grown hg (by simp;omega)
    replace hL:=below_grown hL hg (by omega) q5.lt
    clear q5 q5' hg
    refine hK.out _ _ q4 (fun _=>?_)
    clear hK K
    refine tkg 8 rfl ?_
    simp only [Act.put,stA,st0,st1]
    refine wpAnyH_done (by kernel_rfl) ?_ _
    refine NoPanic.normal ?_
    go_wp2
    go_meet
    case rel=>exact ⟨rfl,q4,h3,hL⟩
  ·refine wp_alloc_R 32 rfl (C .u64 (Z 4)) z4 ?_
   obtain ⟨g5,hg5,q5,n5,n6,q4',h3',hL',hsz'⟩:=new_read q4 h3 hL hsz
   replace q4:=q4'
   replace h3:=h3'
   replace hL:=hL'
   replace hsz:=hsz'
   clear q4' h3' hL' hsz'
   rw [hg5]
   clear hg5
   refine hK.out _ _ q4 (fun _=>?_)
   clear hK K
   refine ar1 1 rfl (fun K hK=>?_)
   go_simp
   refine (reforder_any _).mono ?_
   rintro _ wn ⟨rfl,hb⟩
   replace q4:=q4.belowS hb
   replace h3:=h3.belowS hb
   replace hL:=hL.trans (hb.mono hL.size)
   replace hsz:=Nat.lt_of_lt_of_le hsz hb.size
   replace q5:=q5.belowS hb
   clear hb
   refine hK.out _ _ q4 (fun _=>?_)
   clear hK K
   refine ar1 2 rfl (fun K hK=>?_)
   go_simp
   refine (hlp _).mono ?_
   rintro _ wn ⟨rfl,hb⟩
   replace q4:=q4.belowS hb
   replace h3:=h3.belowS hb
   replace hL:=hL.trans (hb.mono hL.size)
   replace hsz:=Nat.lt_of_lt_of_le hsz hb.size
   replace q5:=q5.belowS hb
   clear hb
   refine hK.out _ _ q4 (fun _=>?_)
   clear hK K
   refine tkg 3 rfl ?_
   simp only [Act.put,stA,st0,st1]
   refine tkg 4 rfl ?_
   simp only [Act.put,stA,st0,st1]
   refine tkg 5 rfl ?_
   simp only [Act.put,stA,st0,st1]
   refine ar1 7 rfl (fun K hK=>?_)
   refine wp_store_R 32 _ _ rfl _ (C .u64 (wds D2)) rfl rfl q5 (ie4 _) (ze4 _) (C_allL _ _) ?_
   intro wz q5' hg hz
   replace q4:=q4.grown hg (by simp;omega)
   replace h3:=h3.grown hg (by simp;omega)
   replace hL:=below_grown hL hg (by omega) q5.lt
   clear q5 q5' hg
   refine hK.out _ _ q4 (fun _=>?_)
   clear hK K
   refine tkg 8 rfl ?_
   simp only [Act.put,stA,st0,st1]
   refine wpAnyH_done (by kernel_rfl) ?_ _
   refine NoPanic.normal ?_
   go_wp2
   go_meet
   case rel=>exact ⟨rfl,q4,h3,hL⟩
 case rest =>
  clear q4 h3 hL hsz
  obtain ⟨rfl,q4,h3,hL⟩:=hcut
  cases ov
  ·have hlt:¬ N < Lq:=of_decide_eq_false HO.out
   have hE:D = 0:=by rw [← HD.out,if_neg hlt]
   go_wp2_with (first | refine wpList_build_Z rfl 32 rfl _ b4z ?_ | (refine wpList_store_R rfl 32 _ _ rfl _ (C .u64 (wds 0)) rfl rfl h3 (ie4 _) (ze4 _) (C_allL _ _) ?_;intro w7 q7 hg7 hz7))
   exact result_row2 Tryz.results38 (v:=.bool false) rfl rfl q7 Tryz.underlying32 rfl (ie4 _) rfl ⟨by rw [hE],below_grown hL hg7 (by omega) h3.lt⟩
  ·have hlt:N < Lq:=of_decide_eq_true HO.out
   have hE:D = N:=by rw [← HD.out,if_pos hlt]
   go_wp2_with (first | refine wpList_load_row rfl 32 _ rfl _ rfl _ _ _ _ q4 Tryz.underlying32 rfl (ie4 _) ?_ | (refine wpList_store_R rfl 32 _ _ rfl _ (C .u64 (wds N)) rfl rfl h3 (ie4 _) (ze4 _) (C_allL _ _) ?_;intro w7 q7 hg7 hz7))
   exact result_row2 Tryz.results38 (v:=.bool true) rfl rfl q7 Tryz.underlying32 rfl (ie4 _) rfl ⟨by rw [hE],below_grown hL hg7 (by omega) h3.lt⟩
set_option maxHeartbeats 1000000 in
theorem sbytes_any (A:Nat) (hA:A < 115792089237316195423570985008687907853269984665640564039457584007913129639936) (w:World) (hT:Glob w 1 Lq):Calls Tryz.prog 15 #[.agg (C .u64 (wds A)).toArray] w fun e w'=>e = .returned (.agg (C .u8 (dig 256 32 (A % Lq))).toArray) ∧ Below w.heap.size w w':=by
 obtain ⟨w2,h2,r1,r2,r5,hL,hS⟩:=rows3 w 32 22 22 (C .u64 (wds A)) (C .u8 (Z 32)) (C .u8 (Z 32))
 have hre:=sreduce_any A hA
 have hN:=mod_Lq_T A
 generalize A % Lq = N at *
 have hdl:=dig_length 256 32 N
 have hx:=wds_lo N
 go_enter Tryz.func15,Tryz.ntmps15
 go_upto_region 2 with (refine wpList_alloc_row rfl 22 rfl _ z32 ?_)
 try simp only [Act.put,stA,st0,st1,alloc_size,h2]
 clear h2
 go_wp2_with (refine wpList_load_row rfl 32 _ rfl _ rfl _ _ _ _ r1 Tryz.underlying32 rfl (ie4 _) ?_)
 refine (hre _ (hT.below hL)).mono ?_
 rintro _ wn ⟨rfl,hb⟩
 replace r1:=r1.belowS hb
 replace r2:=r2.belowS hb
 replace r5:=r5.belowS hb
 replace hL:=hL.trans (hb.mono hL.size)
 clear hb hre
 go_upto_region 3 with (refine wpList_store_R rfl 32 _ _ rfl _ (C .u64 (wds N)) rfl rfl r1 (ie4 _) (ee4 _ _) (C_allL _ _) ?_;intro w5 q1 hg5 hz5)
 replace r2:=r2.grown hg5 (by simp)
 replace r5:=r5.grown hg5 (by simp;omega)
 replace hL:=below_grown hL hg5 (Nat.le_refl _) r1.lt
 clear r1 hg5 hz5
 have r1:=q1
 clear q1
 rw [← upto_zero (dig 256 32 N) 32] at r5
 go_wp2
 go_loopw [7] (fun i wr=>∃ k:Nat,k ≤ 32 ∧ i = .int .i64 k ∧ Row wr w.heap.size 32 (C .u64 (wds N)) ∧ Row wr (w.heap.size + 1) 22 (C .u8 (Z 32)) ∧ Row wr (w.heap.size + 1 + 1) 22 (C .u8 (upto (dig 256 32 N) 32 k)) ∧ Below w.heap.size w wr) (fun i _=>32 - (intOf i).toNat)
 case atStart=>exact ⟨0,Nat.zero_le _,rfl,r1,r2,r5,hL⟩
 case round =>
  clear r1 r2 r5 hL
  obtain ⟨k,hk,rfl,r1,r2,r5,hL⟩:=hrel
  by_cases hlt:k < 32
  ·have c1:=r1.cell (k / 8)
   rw [C_get .u64 (by rw [wds_length];omega)] at c1
   have bx:=hx.getD (by decide) (k / 8)
   have he:=byte_of N k
   rw [← dig_getD hlt,← wds_getD hN] at he
   have c5:=r5.cell k
   rw [C_get .u8 (by rw [upto_length hdl (by omega)];omega)] at c5
   have hf:=r5.frozen k
   generalize (upto (dig 256 32 N) 32 k).getD k 0 = u at *
   generalize (wds N).getD (k / 8) 0 = x at *
   obtain ⟨q,hq⟩:∃ q,k / 8 = q:=⟨_,rfl⟩
   obtain ⟨r,hr⟩:∃ r,k % 8 = r:=⟨_,rfl⟩
   rw [hq] at c1
   rw [hr] at he
   obtain ⟨s,hs⟩:∃ s,8 * r = s:=⟨_,rfl⟩
   rw [hs] at he
   obtain ⟨y,hy⟩:∃ y,x / 2 ^ s = y:=⟨_,rfl⟩
   rw [hy] at he
   have ey:(x:Int) / 2 ^ s = (y:Int):=by rw [← hy];simp
   obtain ⟨z,hz⟩:∃ z,y % 256 = z:=⟨_,rfl⟩
   have ez:IntKind.u8.wrap (y:Int) = (z:Int):=by rw [IntKind.wrap_u8];omega
   have ez':(y:Int) % 256 = (z:Int):=by omega
   rw [hz] at he
   have q5:=upto_row (z:=(z:Int)) r5 hdl hlt (by rw [he])
   have q1:=r1.other (i:=k) (.int .u8 (z:Int)) (show w.heap.size ≠ w.heap.size + 1 + 1 by omega)
   have q2:=r2.other (i:=k) (.int .u8 (z:Int)) (show w.heap.size + 1 ≠ w.heap.size + 1 + 1 by omega)
   have qL:=hL.setCell (p:=⟨w.heap.size + 1 + 1,k,none⟩) (by simp;omega) (.int .u8 (z:Int))
   have dq:(k:Int).tdiv 8 = (q:Int):=by rw [Int.tdiv_eq_ediv_of_nonneg (by omega)];omega
   have dq':(k:Int) / 8 = (q:Int):=by omega
   have bq:(q:Int) < 4:=by omega
   have dr:(k:Int).tmod 8 = (r:Int):=by rw [Int.tmod_eq_emod_of_nonneg (by omega)];omega
   have dr':(k:Int) % 8 = (r:Int):=by omega
   have ds:IntKind.i64.wrap ((r:Int) * 8) = (s:Int):=by rw [IntWalk.i64_in _ ⟨by omega,by omega⟩];omega
   have ds':(r:Int) * 8 = (s:Int):=by omega
   have du:IntKind.u64.wrap (s:Int) = (s:Int):=by rw [IntKind.wrap_u64];omega
   have bs:(s:Int) < 64:=by omega
   have bk:(k:Int) < 32:=by omega
   clear hq hr hs hy bx hz he r1 r2 r5 hL
   go_wp2
   go_roundw
   case rel=>exact ⟨k + 1,by omega,by go_num,q1,q2,q5,qL⟩
   case measure=>simp [intOf];omega
  ·have HK:Away (k = 32):=⟨by omega⟩
   have dk:decide ((k:Int) < 32) = false:=decide_eq_false (by omega)
   rw [HK.out,upto_all hdl] at r5
   have hi:(C .u8 (dig 256 32 N)).length = 32:=by rw [C_length,hdl]
   have hi8:(Tryz.prog.info? 22).map (·.size) = some (C .u8 (dig 256 32 N)).length:=by rw [hi];exact i32
   clear hlt hk
   go_wp2_with (first | refine wpList_load_row rfl 22 _ rfl _ rfl _ _ _ _ r5 Tryz.underlying22 rfl hi8 ?_ | (refine wpList_store_R rfl 22 _ _ rfl _ (C .u8 (dig 256 32 N)) rfl rfl r2 hi8 (by rw [hi];rfl) (C_allL _ _) ?_;intro w7 q7 hg7 hz7))
   exact result_row Tryz.results15 rfl q7 Tryz.underlying22 rfl hi8 rfl ⟨rfl,below_grown hL hg7 (by omega) r2.lt⟩
theorem r12bytes_any (A:Nat) (hA:A < 115792089237316195423570985008687907853269984665640564039457584007913129639936) (w:World):Calls Tryz.prog 28 #[.agg (C .u64 (wds A)).toArray] w fun e w'=>e = .returned (.agg (C .u8 (dig 256 32 (A % Lq))).toArray) ∧ Below w.heap.size w w':=by
 obtain ⟨w2,h2,r1,r2,hL,hS⟩:=rows2 w 32 22 (C .u64 (wds A)) (C .u8 (Z 32))
 have hre:=r12reduce_any A hA
 have hN:=mod_Lq_T A
 generalize A % Lq = N at *
 have hi:(C .u8 (dig 256 32 N)).length = 32:=by rw [C_length,dig_length]
 have hi8:(Tryz.prog.info? 22).map (·.size) = some (C .u8 (dig 256 32 N)).length:=by rw [hi];exact i32
 go_enter Tryz.func28,Tryz.ntmps28
 go_upto_region 1 with (refine wpList_alloc_row rfl 22 rfl _ z32 ?_)
 try simp only [Act.put,stA,st0,st1,alloc_size,h2]
 clear h2
 go_wp2_with (refine wpList_load_row rfl 32 _ rfl _ rfl _ _ _ _ r1 Tryz.underlying32 rfl (ie4 _) ?_)
 refine (hre _).mono ?_
 rintro _ wn ⟨rfl,hb⟩
 replace r2:=r2.belowS hb
 replace hL:=hL.trans (hb.mono hL.size)
 clear hb hre r1
 go_wp2_with fail
 refine (lay_el N hN _).mono ?_
 rintro _ wn ⟨rfl,hb⟩
 replace r2:=r2.belowS hb
 replace hL:=hL.trans (hb.mono hL.size)
 clear hb
 go_wp2_with (refine wpList_store_R rfl 22 _ _ rfl _ (C .u8 (dig 256 32 N)) rfl rfl r2 hi8 (by rw [hi];rfl) (C_allL _ _) ?_;intro w7 q7 hg7 hz7)
 exact result_row Tryz.results28 rfl q7 Tryz.underlying22 rfl hi8 rfl ⟨rfl,below_grown hL hg7 (by omega) r2.lt⟩
def Rv (b xs:List Nat) (k:Nat):Prop:=xs.length = 64 ∧ ∀ p,p < 64 → xs.getD p 0 = if p < k ∨ 64 - k ≤ p then b.getD (63 - p) 0 else b.getD p 0
theorem Rv.begin {b:List Nat} (h:b.length = 64):Rv b b 0:=⟨h,fun p hp=>by rw [if_neg (by omega)]⟩
theorem getD_set_eq (l:List Nat) {i z:Nat} (h:i < l.length):(l.set i z).getD i 0 = z:=by simp [List.getD,h]
theorem Rv.step {b xs:List Nat} {k:Nat} (h:Rv b xs k) (hk:k < 32):Rv b ((xs.set k (xs.getD (63 - k) 0)).set (63 - k) (xs.getD k 0)) (k + 1):=by
 obtain ⟨hl,h⟩:=h
 refine ⟨by simp [hl],fun p hp=>?_⟩
 by_cases h1:p = 63 - k
 ·subst h1
  rw [getD_set_eq _ (by simp;omega),h k (by omega),if_neg (by omega),if_pos (by omega)]
  congr 1;omega
 ·rw [getD_set _ _ _ _ (by omega)]
  by_cases h2:p = k
  ·subst h2
   rw [getD_set_eq _ (by omega),h _ (by omega),if_neg (by omega),if_pos (by omega)]
  ·rw [getD_set _ _ _ _ (by omega),h p hp]
   by_cases h3:p < k ∨ 64 - k ≤ p
   ·rw [if_pos h3,if_pos (by omega)]
   ·rw [if_neg h3,if_neg (by omega)]
theorem Rv.all {b xs:List Nat} (h:Rv b xs 32) (hb:b.length = 64):xs = b.reverse:=by
 obtain ⟨hl,h⟩:=h
 apply List.ext_getElem (by simp [hl,hb])
 intro i h1 h2
 have e:=h i (by omega)
 rw [if_pos (by omega)] at e
 rw [List.getElem_reverse]
 simp only [List.getD,List.getElem?_eq_getElem h1,List.getElem?_eq_getElem (show 63 - i < b.length by omega),Option.getD_some] at e
 rw [e]
 congr 1;omega
set_option maxHeartbeats 2000000 in
theorem reverse_any (b:List Nat) (hl:b.length = 64) (g:Nat) (t:TypeId) (w:World) (r:Row w g t (C .u8 b)):Calls Tryz.prog 51 #[.slice (some ⟨g,0,none⟩) 64 64] w fun e w'=>(∃ u,e = .returned u) ∧ Row w' g t (C .u8 b.reverse) ∧ w.grownBy w' (some g) ∧ w'.heap.size = w.heap.size:=by
 go_enter Tryz.func51,Tryz.ntmps51
 go_wp2
 go_loopw [2,3] (fun i j wr=>∃ (k:Nat) (xs:List Nat),k ≤ 32 ∧ i = .int .i64 k ∧ j = .int .i64 ((63 - k:Nat):Int) ∧ Away (Rv b xs k) ∧ Row wr g t (C .u8 xs) ∧ w.grownBy wr (some g) ∧ wr.heap.size = w.heap.size) (fun i _ _=>32 - (intOf i).toNat)
 case atStart=>exact ⟨0,b,by omega,rfl,rfl,⟨Rv.begin hl⟩,r,grown_refl _ _,rfl⟩
 case round =>
  clear r
  obtain ⟨k,xs,hk,rfl,rfl,HR,r,hg,hz⟩:=hrel
  obtain ⟨j,hj⟩:∃ j,63 - k = j:=⟨_,rfl⟩
  rw [hj]
  have lx:xs.length = 64:=HR.out.1
  by_cases hlt:k < 32
  ·have hkj:k < j:=by omega
   have bj:(j:Int) < 64:=by omega
   have bk:(k:Int) < 64:=by omega
   have HS:=Away.mk (HR.out.step hlt)
   rw [hj] at HS
   have ci:=r.cell k
   rw [C_get .u8 (by omega)] at ci
   have cj:=r.cell j
   rw [C_get .u8 (by omega)] at cj
   generalize xs.getD k 0 = x at *
   generalize xs.getD j 0 = y at *
   have cid:wr.drew.cell? ⟨g,k,none⟩ = some (.int .u8 (x:Int)):=ci
   have cjd:wr.drew.cell? ⟨g,j,none⟩ = some (.int .u8 (y:Int)):=cj
   have fi:wr.drew.frozen? ⟨g,k,none⟩ = false:=r.frozen k
   have fj:(wr.drew.setCell ⟨g,k,none⟩ (.int .u8 (y:Int))).frozen? ⟨g,j,none⟩ = false:=(row_set r.drew k y).frozen j
   have fjw:wr.frozen? ⟨g,j,none⟩ = false:=r.frozen j
   have cj2:(wr.drew.setCell ⟨g,k,none⟩ (.int .u8 (y:Int))).cell? ⟨g,j,none⟩ = some (.int .u8 (y:Int)):=cell_set_ne cjd (by omega)
   have m2:=row_set (row_set r.drew k y) j x
   have mg:w.grownBy ((wr.drew.setCell ⟨g,k,none⟩ (.int .u8 (y:Int))).setCell ⟨g,j,none⟩ (.int .u8 (x:Int))) (some g):=grown_tr (grown_tr (⟨hg.os,hg.tape,hg.output,hg.size,hg.block⟩:w.grownBy wr.drew (some g)) (grown_set _ _ _ _)) (grown_set _ _ _ _)
   have mz:((wr.drew.setCell ⟨g,k,none⟩ (.int .u8 (y:Int))).setCell ⟨g,j,none⟩ (.int .u8 (x:Int))).heap.size = w.heap.size:=by simpa [World.setCell] using hz
   have dlt:decide ((k:Int) < (j:Int)) = true:=decide_eq_true (by omega)
   go_wp2
   refine wp_region_noPanic ?_
   refine wp_region_held_drew (S:=fun w'=>True) (by kernel_rfl) trivial (fun _=>?_)
   refine tkg 0 rfl ?_
   simp only [Act.put,stA,st0,st1]
   refine tkg 1 rfl ?_
   simp only [Act.put,stA,st0,st1]
   refine tkg 2 rfl ?_
   simp only [Act.put,stA,st0,st1]
   refine tkg 3 rfl ?_
   simp only [Act.put,stA,st0,st1]
   refine tkg 4 rfl ?_
   simp only [Act.put,stA,st0,st1]
   refine tkg 5 rfl ?_
   simp only [Act.put,stA,st0,st1]
   refine tkg 6 rfl ?_
   simp only [Act.put,stA,st0,st1]
   refine tkg 8 rfl ?_
   simp only [Act.put,stA,st0,st1]
   refine tkg 9 rfl ?_
   simp only [Act.put,stA,st0,st1]
   refine tkg 10 rfl ?_
   simp only [Act.put,stA,st0,st1]
   refine ar2 7 11 rfl rfl (fun K hK=>?_) (fun K hK=>?_)
   ·go_simp
    refine hK.out _ _ trivial (fun _=>?_)
    clear hK K
    refine ar1 11 rfl (fun K hK=>?_)
    go_simp
    refine hK.out _ _ trivial (fun _=>?_)
    clear hK K
    refine ar1 12 rfl (fun K hK=>?_)
    go_simp
    refine hK.out _ _ trivial (fun _=>?_)
    clear hK K
    refine ar1 13 rfl (fun K hK=>?_)
    go_simp
    refine hK.out _ _ trivial (fun _=>?_)
    clear hK K
    refine ar1 14 rfl (fun K hK=>?_)
    go_simp
    refine hK.out _ _ trivial (fun _=>?_)
    clear hK K
    refine ar1 15 rfl (fun K hK=>?_)
    go_simp
    refine hK.out _ _ trivial (fun _=>?_)
    clear hK K
    refine wpAnyH_done (by kernel_rfl) ?_ _
    refine NoPanic.normal ?_
    clear ci cj cid cjd fi fj
    go_wp2
    go_roundw
    case rel=>exact ⟨k + 1,_,by omega,by go_num,by rw [show 63 - (k + 1) = j - 1 by omega];go_num,HS,m2,mg,mz⟩
    case measure=>simp [intOf];omega
   ·go_simp
    refine hK.out _ _ trivial (fun _=>?_)
    clear hK K
    refine ar1 7 rfl (fun K hK=>?_)
    go_simp
    refine hK.out _ _ trivial (fun _=>?_)
    clear hK K
    refine ar1 12 rfl (fun K hK=>?_)
    go_simp
    refine hK.out _ _ trivial (fun _=>?_)
    clear hK K
    refine ar1 13 rfl (fun K hK=>?_)
    go_simp
    refine hK.out _ _ trivial (fun _=>?_)
    clear hK K
    refine ar1 14 rfl (fun K hK=>?_)
    go_simp
    refine hK.out _ _ trivial (fun _=>?_)
    clear hK K
    refine ar1 15 rfl (fun K hK=>?_)
    go_simp
    refine hK.out _ _ trivial (fun _=>?_)
    clear hK K
    refine wpAnyH_done (by kernel_rfl) ?_ _
    refine NoPanic.normal ?_
    clear ci cj cid cjd fi fj
    go_wp2
    go_roundw
    case rel=>exact ⟨k + 1,_,by omega,by go_num,by rw [show 63 - (k + 1) = j - 1 by omega];go_num,HS,m2,mg,mz⟩
    case measure=>simp [intOf];omega
  ·have hk32:k = 32:=by omega
   have dk:decide (k < j) = false:=decide_eq_false (by omega)
   have HK:=Away.mk hk32
   rw [hk32] at HR
   have e:=HR.out.all hl
   rw [e] at r
   clear e HR hk32 hlt hk hj lx
   go_wp2
   go_end0
   exact ⟨⟨_,rfl⟩,r,hg,hz⟩
theorem wide_fits {b:List Nat} (hb:Lo 256 b) (hl:b.length = 64):val 256 b < W32 ^ 16:=by
 have:=val_lt (B:=256) (by decide) hb
 rw [hl] at this
 exact Nat.lt_of_lt_of_le this (by decide)
theorem Lo.rev {B:Nat} {b:List Nat} (h:Lo B b):Lo B b.reverse:=fun x hx=>h x (List.mem_reverse.1 hx)
set_option maxHeartbeats 1000000 in
theorem swide_any (b:List Nat) (hb:Lo 256 b) (hl:b.length = 64) (w:World) (hT:Glob w 1 Lq):Calls Tryz.prog 23 #[.agg (C .u8 b).toArray] w fun e w'=>e = .returned (.agg (C .u64 (wds (val 256 b % Lq))).toArray) ∧ Below w.heap.size w w':=by
 obtain ⟨w2,h2,r1,r2,hL,hS⟩:=rows2 w 26 32 (C .u8 b) (C .u64 (Z 4))
 have hrv:=reverse_any b hl w.heap.size 26 w2 r1
 have hlr:b.reverse.length = 64:=by rw [List.length_reverse];exact hl
 go_enter Tryz.func23,Tryz.ntmps23
 go_upto_region 1 with (refine wpList_alloc_row rfl 32 rfl _ z4 ?_)
 try simp only [Act.put,stA,st0,st1,alloc_size,h2]
 clear h2
 go_wp2_with fail
 refine hrv.mono ?_
 rintro _ wn ⟨⟨u,rfl⟩,q1,hg,hz⟩
 replace r2:=r2.grown hg (by simp)
 replace hL:=below_grown hL hg (Nat.le_refl _) r1.lt
 have hsl:=q1.slAll (by rw [C_length,hlr];unfold maxLen;omega)
 rw [C_length,hlr] at hsl
 have hrd:=read_any _ b.reverse wn hsl (Lo.rev hb) (by omega)
 rw [List.reverse_reverse] at hrd
 clear hrv hg r1 q1 hsl
 go_wp2_with fail
 refine hrd.mono ?_
 rintro _ wn2 ⟨v',rfl,hA,hb2⟩
 replace r2:=r2.belowS hb2
 replace hL:=hL.trans (hb2.mono hL.size)
 clear hb2 hrd
 go_wp2_with fail
 refine (sleft_any v' (val 256 b) 16 (by decide) _ (hA.ra.num (wide_fits hb hl)) (hT.below hL)).mono ?_
 rintro _ wn3 ⟨rfl,hb2⟩
 replace r2:=r2.belowS hb2
 replace hL:=hL.trans (hb2.mono hL.size)
 clear hb2 hA
 go_wp2_with (refine wpList_store_R rfl 32 _ _ rfl _ (C .u64 (wds (val 256 b % Lq))) rfl rfl r2 (ie4 _) (ze4 _) (C_allL _ _) ?_;intro w7 q7 hg7 hz7)
 exact result_row Tryz.results23 rfl q7 Tryz.underlying32 rfl (ie4 _) rfl ⟨rfl,below_grown hL hg7 (by omega) r2.lt⟩
theorem infb:(Tryz.prog.info? 5).map (fun i=>(i.zero,i.size,i.bytes)) = some (some (.int .u8 0),1,1):=by kernel_rfl
theorem rev_take {b:List Nat} (hl:b.length = 64) {k:Nat} (hk:k < 64):b.reverse.take (k + 1) = b.reverse.take k ++ [b.getD (63 - k) 0]:=by
 have h:k < b.reverse.length:=by rw [List.length_reverse];omega
 rw [List.take_succ_eq_append_getElem h,List.getElem_reverse]
 simp only [List.getD,List.getElem?_eq_getElem (show 63 - k < b.length by omega),Option.getD_some]
 simp only [hl,show 64 - 1 - k = 63 - k by omega]
set_option maxHeartbeats 1000000 in
theorem r12wide_any (v:Value) (b:List Nat) (hb:Lo 256 b) (hl:b.length = 64) (w:World) (hv:SlV w v (C .u8 b)):Calls Tryz.prog 60 #[v] w fun e w'=>e = .returned (.agg (C .u64 (wds (val 256 b % Lq))).toArray) ∧ Below w.heap.size w w':=by
 obtain ⟨sa,sc,rfl,hcap1,hcap2⟩:=hv.shp hl
 obtain ⟨gb,off,rfl,hgb⟩:=hv.old (by rw [C_length,hl];decide)
 have r2:=Row.new w 32 (C .u64 (Z 4))
 have hL:=(Below.more (Below.refl w.heap.size w) (Nat.le_refl _) (.cells (C .u64 (Z 4)).toArray 32)).1
 have hs1:=alloc_size w (.cells (C .u64 (Z 4)).toArray 32)
 generalize h2:w.alloc (.cells (C .u64 (Z 4)).toArray 32) = w2 at *
 have ho:=own_empty_at w2 (w.heap.size + 1) (w.heap.size + 1) 5 hs1.symm (by omega)
 replace r2:=r2.alloc (.cells #[] 5)
 have hL2:=hL.alloc hL.size (.cells #[] 5)
 have hs2:=alloc_size w2 (.cells #[] 5)
 go_enter Tryz.func60,Tryz.ntmps60
 go_upto_region 1 with (refine wpList_alloc_row rfl 32 rfl _ z4 ?_)
 try rw [h2]
 clear h2 hL
 go_wp2
 go_loopw [3,4] (fun v1 i wr=>∃ (k:Nat) (v:Value) (z:Int),k ≤ 64 ∧ i = .int .i64 z ∧ Away (z = 63 - (k:Int)) ∧ v = v1 ∧ wr.ownsRow (w.heap.size + 1) 5 1 v k (C .u8 (b.reverse.take k)) ∧ Row wr w.heap.size 32 (C .u64 (Z 4)) ∧ Below w.heap.size w wr ∧ w.heap.size + 1 ≤ wr.heap.size) (fun _ i _=>(intOf i + 1).toNat)
 case atStart=>exact ⟨0,_,63,by omega,rfl,⟨rfl⟩,rfl,ho,r2,hL2,by omega⟩
 case round =>
  clear ho r2 hL2
  obtain ⟨k,v,z,hk,rfl,HZ,rfl,ho,r2,hL,hsz⟩:=hrel
  by_cases hlt:k < 64
  ·obtain ⟨j,hj⟩:∃ j,63 - k = j:=⟨_,rfl⟩
   obtain rfl:z = (j:Int):=by rw [HZ.out];omega
   have HJ:=Away.mk hj
   have cb:=(hv.below hL).cellAt (C_get .u8 (i:=j) (by omega))
   have HT:=Away.mk (rev_take hl hlt)
   rw [hj] at HT
   have bx:=hb.getD (by decide) j
   generalize b.getD j 0 = x at *
   have bj:(j:Int) < 64:=by omega
   have bj0:(0:Int) ≤ (j:Int):=by omega
   have oa:=own_below ho ((Below.refl wr.heap.size wr).alloc (Nat.le_refl _) (.cells #[.int .u8 (x:Int)] 5))
   have hLa:=hL.alloc hL.size (.cells #[.int .u8 (x:Int)] 5)
   have ra:=r2.alloc (.cells #[.int .u8 (x:Int)] 5)
   have HNE:Away (∀ b,v.ownBlock = some b → w.heap.size + 1 ≤ b):=⟨fun b e=>(ho.lt b e).1⟩
   clear hj
   go_wp2_with (at_builtin;refine wpList_append_sl rfl (.tmp 13) (.tmp 18) 23 rfl (w.heap.size + 1) 5 (.int .u8 0) 1 Tryz.underlying23 infb rfl v k _ rfl oa _ [.int .u8 (x:Int)] rfl (SlV_one _ _ _) (by simp [Value.oneCell']) (by simp;unfold maxLen;omega) (by simp;omega) (by simp;omega) ?_)
   intro v2 w3 o2 hg3
   have hL3:=hLa.grown hg3 (by have:=hL.size;simp <;> omega) (fun b e=>by have:=HNE.out b e;omega)
   have r3:=ra.grown hg3 (fun e=>by have:=HNE.out _ e.symm;omega)
   have hs3:(wr.alloc (.cells #[.int .u8 (x:Int)] 5)).heap.size ≤ w3.heap.size:=hg3.size
   rw [alloc_size] at hs3
   clear oa hLa ra cb ho r2 hL
   go_wp2
   go_roundw
   case rel=>exact ⟨k + 1,_,(j:Int) - 1,by omega,by go_num,⟨by have:=HJ.out;omega⟩,rfl,by rw [HT.out];simpa [C] using o2,r3,hL3,by omega⟩
   case measure=>simp [intOf]
  ·have HK:Away (k = 64):=⟨by omega⟩
   obtain rfl:z = -1:=by rw [HZ.out];omega
   rw [HK.out,List.take_of_length_le (by rw [List.length_reverse];omega)] at ho
   have hrd:=refread_any _ b.reverse wr (SlV.ofOwn ho) (Lo.rev hb) (by rw [List.length_reverse];omega)
   rw [List.reverse_reverse] at hrd
   clear hlt hk hv ho HZ
   go_wp2_with fail
   refine hrd.mono ?_
   rintro _ wn ⟨v',rfl,hR,hb2⟩
   replace r2:=r2.belowS hb2
   replace hL:=hL.trans (hb2.mono hL.size)
   clear hb2 hrd
   go_wp2_with fail
   refine (refleft_any v' (val 256 b) 16 (by decide) _ (hR.num (wide_fits hb hl))).mono ?_
   rintro _ wn2 ⟨rfl,hb2⟩
   replace r2:=r2.belowS hb2
   replace hL:=hL.trans (hb2.mono hL.size)
   clear hb2 hR
   go_wp2_with (refine wpList_store_R rfl 32 _ _ rfl _ (C .u64 (wds (val 256 b % Lq))) rfl rfl r2 (ie4 _) (ze4 _) (C_allL _ _) ?_;intro w7 q7 hg7 hz7)
   exact result_row Tryz.results60 rfl q7 Tryz.underlying32 rfl (ie4 _) rfl ⟨rfl,below_grown hL hg7 (by omega) r2.lt⟩
def cl (b:List Nat):List Nat:=(b.set 0 (b.getD 0 0 / 8 * 8)).set 31 (b.getD 31 0 % 64 + 64)
theorem cl_length (b:List Nat):(cl b).length = b.length:=by simp [cl]
theorem cl_lo {b:List Nat} (h:Lo 256 b):Lo 256 (cl b):=by
 have h0:=h.getD (by decide) 0
 exact (h.set _ _ (by omega)).set _ _ (by omega)
theorem getD_set31 (b:List Nat) (z:Nat):(b.set 0 z).getD 31 0 = b.getD 31 0:=getD_set b 0 31 z (by decide)
theorem low_bits:∀ x < 256,bits .andNot .u8 ((x:Nat):Int) 7 = ((x / 8 * 8:Nat):Int):=by decide +kernel
theorem top_mid:∀ x < 256,bits .andNot .u8 ((x:Nat):Int) 128 = ((x % 128:Nat):Int):=by decide +kernel
theorem top_or:∀ x < 128,bits .or .u8 ((x:Nat):Int) 64 = ((x % 64 + 64:Nat):Int):=by decide +kernel
theorem mod128 (x:Nat):x % 128 % 64 = x % 64:=Nat.mod_mod_of_dvd _ (by decide)
theorem set_twice (l:List Nat) (i x y:Nat):(l.set i x).set i y = l.set i y:=List.set_set x
set_option maxHeartbeats 1000000 in
theorem sclamp_any (b:List Nat) (hb:Lo 256 b) (hl:b.length = 32) (w:World):Calls Tryz.prog 42 #[.agg (C .u8 b).toArray] w fun e w'=>e = .returned (.agg (C .u64 (wds (val 256 (cl b)))).toArray) ∧ Below w.heap.size w w':=by
 obtain ⟨w2,h2,r1,r2,hL,hS⟩:=rows2 w 22 32 (C .u8 b) (C .u64 (Z 4))
 have hga:=gathered_any (cl b) (cl_lo hb) ((cl_length b).trans hl)
 have hib:(Tryz.prog.info? 22).map (·.size) = some (C .u8 (cl b)).length:=by rw [C_length,cl_length,hl];exact i32
 have HC:=Away.mk (show cl b = (b.set 0 (b.getD 0 0 / 8 * 8)).set 31 (b.getD 31 0 % 64 + 64) from rfl)
 generalize cl b = c at *
 have b0:=hb.getD (by decide) 0
 have b31:=hb.getD (by decide) 31
 have hg0:=getD_set31 b (b.getD 0 0 / 8 * 8)
 have c0:=r1.cell 0
 rw [C_get .u8 (by omega)] at c0
 have f0:=r1.frozen 0
 have e0:=low_bits _ b0
 have e1:=top_mid _ b31
 have e2:=top_or (b.getD 31 0 % 128) (Nat.mod_lt _ (by decide))
 rw [mod128] at e2
 generalize b.getD 0 0 = x at *
 obtain ⟨x',hx'⟩:∃ x',x / 8 * 8 = x':=⟨_,rfl⟩
 rw [hx'] at e0 hg0 HC
 have q1:=row_set r1 0 x'
 have q2:=r2.other (i:=0) (.int .u8 (x':Int)) (show w.heap.size + 1 ≠ w.heap.size by omega)
 have qL:=hL.setCell (p:=⟨w.heap.size,0,none⟩) (by simp) (.int .u8 (x':Int))
 go_enter Tryz.func42,Tryz.ntmps42
 go_upto_region 1 with (refine wpList_alloc_row rfl 32 rfl _ z4 ?_)
 try simp only [Act.put,stA,st0,st1,alloc_size,h2]
 clear h2 hx'
 go_upto_region 2 with fail
 clear c0 f0 e0 r1 r2 hL
 generalize w2.setCell ⟨w.heap.size,0,none⟩ (.int .u8 (x':Int)) = w3 at *
 have c1:=q1.cell 31
 rw [C_get .u8 (by rw [List.length_set];omega),hg0] at c1
 have f1:=q1.frozen 31
 generalize b.getD 31 0 = y at *
 obtain ⟨y',hy'⟩:∃ y',y % 128 = y':=⟨_,rfl⟩
 rw [hy'] at e1 e2
 have q1':=row_set q1 31 y'
 have q2':=q2.other (i:=31) (.int .u8 (y':Int)) (show w.heap.size + 1 ≠ w.heap.size by omega)
 have qL':=qL.setCell (p:=⟨w.heap.size,31,none⟩) (by simp) (.int .u8 (y':Int))
 go_upto_region 3 with fail
 clear c1 f1 e1 q1 q2 qL hy' hg0
 generalize w3.setCell ⟨w.heap.size,31,none⟩ (.int .u8 (y':Int)) = w4 at *
 have c1:=q1'.cell 31
 rw [C_get .u8 (by simp;omega),show ((b.set 0 x').set 31 y').getD 31 0 = y' by simp [List.getD,hl]] at c1
 have f1:=q1'.frozen 31
 obtain ⟨z,hz⟩:∃ z,y % 64 + 64 = z:=⟨_,rfl⟩
 rw [hz] at e2 HC
 have q1:=row_set q1' 31 z
 rw [set_twice,← HC.out] at q1
 have q2:=q2'.other (i:=31) (.int .u8 (z:Int)) (show w.heap.size + 1 ≠ w.heap.size by omega)
 have qL:=qL'.setCell (p:=⟨w.heap.size,31,none⟩) (by simp) (.int .u8 (z:Int))
 go_upto_region 4 with fail
 clear c1 f1 e2 q1' q2' qL' hz
 generalize w4.setCell ⟨w.heap.size,31,none⟩ (.int .u8 (z:Int)) = w5 at *
 go_wp2_with (refine wpList_load_row rfl 22 _ rfl _ rfl _ _ _ _ q1 Tryz.underlying22 rfl hib ?_)
 refine (hga _).mono ?_
 rintro _ wn ⟨rfl,hb2⟩
 replace q2:=q2.belowS hb2
 replace qL:=qL.trans (hb2.mono qL.size)
 clear hb2 hga q1
 go_wp2_with (refine wpList_store_R rfl 32 _ _ rfl _ (C .u64 (wds (val 256 c))) rfl rfl q2 (ie4 _) (ze4 _) (C_allL _ _) ?_;intro w7 q7 hg7 hz7)
 exact result_row Tryz.results42 rfl q7 Tryz.underlying32 rfl (ie4 _) rfl ⟨rfl,below_grown qL hg7 (by omega) q2.lt⟩
set_option maxHeartbeats 1000000 in
theorem r12clamp_any (b:List Nat) (hb:Lo 256 b) (hl:b.length = 32) (w:World):Calls Tryz.prog 45 #[.agg (C .u8 b).toArray] w fun e w'=>e = .returned (.agg (C .u64 (wds (val 256 (cl b)))).toArray) ∧ Below w.heap.size w w':=by
 obtain ⟨w2,h2,r1,r2,hL,hS⟩:=rows2 w 22 32 (C .u8 b) (C .u64 (Z 4))
 have hcl:=cl_length b
 rw [hl] at hcl
 have hwh:=fun (v:Value) (w':World)=>fwhole_any v (cl b) (cl_lo hb) hcl w'
 have HC:=Away.mk (show cl b = (b.set 0 (b.getD 0 0 / 8 * 8)).set 31 (b.getD 31 0 % 64 + 64) from rfl)
 generalize cl b = c at *
 have b0:=hb.getD (by decide) 0
 have b31:=hb.getD (by decide) 31
 have hg0:=getD_set31 b (b.getD 0 0 / 8 * 8)
 have c0:=r1.cell 0
 rw [C_get .u8 (by omega)] at c0
 have f0:=r1.frozen 0
 generalize b.getD 0 0 = x at *
 obtain ⟨u,hu⟩:∃ u,x / 8 = u:=⟨_,rfl⟩
 obtain ⟨x',hx'⟩:∃ x',u * 8 = x':=⟨_,rfl⟩
 rw [hu,hx'] at hg0 HC
 have e0:(x:Int).tdiv 8 = (u:Int):=by rw [Int.tdiv_eq_ediv_of_nonneg (by omega)];omega
 have e0':(x:Int) / 8 = (u:Int):=by omega
 have e1:IntKind.u8.wrap ((u:Int) * 8) = (x':Int):=by rw [IntKind.wrap_u8];omega
 have e1':(u:Int) * 8 % 256 = (x':Int):=by omega
 have e1'':(u:Int) * 8 = (x':Int):=by omega
 have e2:(x':Int) % 256 = (x':Int):=by omega
 have e3:IntKind.u8.wrap (u:Int) = (u:Int):=by rw [IntKind.wrap_u8];omega
 have e4:(u:Int) % 256 = (u:Int):=by omega
 have q1:=row_set r1 0 x'
 have q2:=r2.other (i:=0) (.int .u8 (x':Int)) (show w.heap.size + 1 ≠ w.heap.size by omega)
 have qL:=hL.setCell (p:=⟨w.heap.size,0,none⟩) (by simp) (.int .u8 (x':Int))
 clear hu hx' b0
 go_enter Tryz.func45,Tryz.ntmps45
 go_upto_region 1 with (refine wpList_alloc_row rfl 32 rfl _ z4 ?_)
 try simp only [Act.put,stA,st0,st1,alloc_size,h2]
 clear h2
 go_upto_region 2 with fail
 clear c0 f0 e0 e0' e1 e1' e1'' e2 e3 e4 r1 r2 hL
 generalize w2.setCell ⟨w.heap.size,0,none⟩ (.int .u8 (x':Int)) = w3 at *
 have c1:=q1.cell 31
 rw [C_get .u8 (by rw [List.length_set];omega),hg0] at c1
 have f1:=q1.frozen 31
 generalize b.getD 31 0 = y at *
 obtain ⟨u,hu⟩:∃ u,y % 64 = u:=⟨_,rfl⟩
 obtain ⟨y',hy'⟩:∃ y',u + 64 = y':=⟨_,rfl⟩
 rw [hu,hy'] at HC
 have e0:(y:Int).tmod 64 = (u:Int):=by rw [Int.tmod_eq_emod_of_nonneg (by omega)];omega
 have e0':(y:Int) % 64 = (u:Int):=by omega
 have e1:IntKind.u8.wrap ((u:Int) + 64) = (y':Int):=by rw [IntKind.wrap_u8];omega
 have e1':((u:Int) + 64) % 256 = (y':Int):=by omega
 have e1'':(u:Int) + 64 = (y':Int):=by omega
 have e2:(y':Int) % 256 = (y':Int):=by omega
 have e3:IntKind.u8.wrap (u:Int) = (u:Int):=by rw [IntKind.wrap_u8];omega
 have e4:(u:Int) % 256 = (u:Int):=by omega
 have q1':=row_set q1 31 y'
 rw [← HC.out] at q1'
 have q2':=q2.other (i:=31) (.int .u8 (y':Int)) (show w.heap.size + 1 ≠ w.heap.size by omega)
 have qL':=qL.setCell (p:=⟨w.heap.size,31,none⟩) (by simp) (.int .u8 (y':Int))
 clear hu hy' b31
 go_upto_region 3 with fail
 clear c1 f1 e0 e0' e1 e1' e1'' e2 e3 e4 q1 q2 qL hg0
 generalize w3.setCell ⟨w.heap.size,31,none⟩ (.int .u8 (y':Int)) = w4 at *
 have hsl:=q1'.slAll (by rw [C_length,hcl];unfold maxLen;omega)
 rw [C_length,hcl] at hsl
 go_wp2_with fail
 refine (hwh _ _ hsl).mono ?_
 rintro _ wn ⟨rfl,hb2⟩
 replace q2':=q2'.belowS hb2
 replace qL':=qL'.trans (hb2.mono qL'.size)
 clear hb2 hwh hsl q1'
 go_wp2_with (refine wpList_store_R rfl 32 _ _ rfl _ (C .u64 (wds (val 256 c))) rfl rfl q2' (ie4 _) (ze4 _) (C_allL _ _) ?_;intro w7 q7 hg7 hz7)
 exact result_row Tryz.results45 rfl q7 Tryz.underlying32 rfl (ie4 _) rfl ⟨rfl,below_grown qL' hg7 (by omega) q2'.lt⟩
end Go.Proofs.YtmjimilhomabfaaGreatDoor.F
