/-
 The document's SHA-512 (affiantref08.Sum), its answer in new memory, over this seat. Conditions: as it says.
-/
import Derived.Test.YtmjimilhomabfaaGreatDoorH14b
namespace Go.Proofs.YtmjimilhomabfaaGreatDoor.S3
open Go.RowKit
set_option linter.unusedVariables false
set_option maxRecDepth 10000
set_option maxHeartbeats 1600000 in
theorem refsum_own (bb:Bool) (hbb:Away (bb = true)) (v:Value) (xs:List Nat) (w:World) (hv:SlV w v (C .u8 xs)) (hx:Lo 256 xs) (hm:xs.length ≤ 1000000000000) :
  Calls Tryz.prog 44 #[v,.bool bb] w fun e w'=>∃ v',e = .returned v' ∧ w'.ownsRow w.heap.size 5 1 v' 64 (C .u8 (hash3 bb xs)) ∧ Below w.heap.size w w':=by
 go_enter Tryz.func44,Tryz.ntmps44
 go_wp2_with fail
 refine (refstart_any bb _).mono ?_
 rintro _ w1 ⟨rfl,hL1⟩
 have hSo0:=start3_ok bb
 have i5s:(Tryz.prog.info? 86).map (·.size) = some (C .u64 (start3 bb).list).length:=i8
 have h55:(C .u64 (Z 8)).length = (C .u64 (start3 bb).list).length:=rfl
 have hB1:=Row.new w1 86 (C .u64 (Z 8))
 have hL1':=Below.more hL1 hL1.size (.cells (C .u64 (Z 8)).toArray 86)
 have hlt1:w.heap.size ≤ w1.heap.size:=hL1.size
 go_upto_region 2 with (first | refine wpList_alloc_row rfl 86 rfl _ z8 ?_ | (refine wpList_store_R rfl 86 _ _ rfl _ (C .u64 (start3 bb).list) rfl rfl hB1 i5s h55 (C_allL _ _) ?_;intro w2 hB2 hg2 hz2))
 have hL2:=below_grown hL1'.1 hg2 (by omega) hB1.lt
 clear hB1 hL1' hg2 hz2 hL1
 obtain ⟨g1,hg1⟩:∃ g1,w1.heap.size = g1:=⟨_,rfl⟩
 simp only [Act.put,stA,st0,st1]
 rw [hg1] at hB2 hlt1 ⊢
 clear hg1
 go_wp2_with fail
 refine (padded_any v xs w2 (hv.below hL2) hx hm).mono ?_
 rintro _ w3 ⟨v3,n3,rfl,hO3,hb3⟩
 have hB3:=hB2.belowS hb3
 have hL3:=hL2.trans (hb3.mono hL2.size)
 obtain ⟨N,hN⟩:∃ N,(pad3 xs).length = N:=⟨_,rfl⟩
 have hN64:∃ q,N = 128 * q ∧ 0 < q ∧ q ≤ 1000000000000:=by
  rw [← hN,pad3_length]
  refine ⟨_,rfl,?_⟩
  split <;> omega
 obtain ⟨q,hq,hq0,hqm⟩:=hN64
 have HE:Away (sum3 bb xs = out3 (blks3 (start3 bb) (pad3 xs) q)):=⟨by rw [sum3,hN,hq,Nat.mul_div_cancel_left _ (by decide)]⟩
 have HH:Away (hash3 bb xs = if bb then sum3 bb xs else (sum3 bb xs).take 48):=⟨by cases bb <;> rfl⟩
 have hPl:=pad3_lo hx
 generalize pad3 xs = P at *
 generalize start3 bb = s0 at *
 have hn3:n3 = N:=by have:=hO3.1;rw [C_length,hN,Nat.mul_one] at this;omega
 subst hn3
 have HQ:=Away.mk hq
 have hNm:n3 ≤ 128 * 1000000000000:=by omega
 have hN0:0 < n3:=by omega
 clear hq
 obtain ⟨g,cap,rfl,hbg,hgl,hnc,hcm⟩:=own_shape hO3 hN0
 have hP3:=SlV.ofOwn hO3
 have hlt2:=hB2.lt
 clear hO3 hB2 hL2 hb3
 have hNi:(n3:Int) ≤ 9223372036854775807:=by omega
 go_wp2
 go_loopw [7] (fun i wr=>∃ k:Nat,k ≤ q ∧ i = .int .i64 ((128 * k:Nat):Int) ∧ SlV wr (.slice (some ⟨g,0,none⟩) n3 cap) (C .u8 P) ∧ Row wr g1 86 (C .u64 (blks3 s0 P k).list) ∧ Below w.heap.size w wr) (fun i _=>n3 - (intOf i).toNat)
 case atStart=>exact ⟨0,Nat.zero_le _,rfl,hP3,hB3,hL3⟩
 case round =>
  clear hP3 hB3 hL3
  obtain ⟨k,hk,rfl,hP,hB,hL⟩:=hrel
  have HK:Away (blks3 s0 P (k + 1) = blk3 (blks3 s0 P k) ((P.drop (128 * k)).take 128)):=⟨rfl⟩
  have hSo:=blks3_ok hSo0 P k
  obtain ⟨S,hS⟩:∃ S,blks3 s0 P k = S:=⟨_,rfl⟩
  rw [hS] at hB HK hSo
  have HS:=Away.mk hS
  clear hS
  have i5S:(Tryz.prog.info? 86).map (·.size) = some (C .u64 S.list).length:=i8
  by_cases hkq:k < q
  ·have hq:=HQ.out
   obtain ⟨m,hm64⟩:∃ m,128 * k = m:=⟨_,rfl⟩
   obtain ⟨m2,hm2⟩:∃ m2,m + 128 = m2:=⟨_,rfl⟩
   have hBn:((P.drop (128 * k)).take 128).length = 128:=by simp;omega
   have hBl:Lo 256 ((P.drop (128 * k)).take 128):=(hPl.drop _).take _
   have hcut:=hP.cutIf m 128 (by omega)
   rw [← C_drop,← C_take,← hm64] at hcut
   obtain ⟨T,hT⟩:∃ T,blk3 S ((P.drop (128 * k)).take 128) = T:=⟨_,rfl⟩
   rw [hT] at HK
   generalize (P.drop (128 * k)).take 128 = B at *
   rw [hm64] at hcut ⊢
   have HT:=Away.mk hT
   have i5T:(Tryz.prog.info? 86).map (·.size) = some (C .u64 T.list).length:=i8
   have h5T:(C .u64 S.list).length = (C .u64 T.list).length:=rfl
   have dw:IntKind.i64.wrap ((m:Int) + 128) = (m2:Int):=by rw [IntWalk.i64_in _ ⟨by omega,by omega⟩];omega
   have b1:(m:Int) < (n3:Int):=by omega
   have b2:(m2:Int) ≤ (cap:Int):=by omega
   have b3:(m:Int) ≤ (m2:Int):=by omega
   have b4:m2 - m = 128:=by omega
   have b5:(m2:Int) ≤ (n3:Int):=by omega
   clear hT hq
   have HM:=Away.mk hm64
   have HM2:=Away.mk hm2
   clear hm64 hm2
   simp only [Option.map_some,Addr.add_lit,Nat.zero_add] at hcut
   have hcd:SlV wr.drew _ _:=hcut.keep fun _ _ _=>rfl
   have hPd:SlV wr.drew _ _:=hP.keep fun _ _ _=>rfl
   go_upto_region 6 with fail
   refine wp_region_noPanic ?_
   refine wp_region_U (S:=fun w'=>Row w' g1 86 (C .u64 S.list)) 7 (by kernel_rfl) (hB.drew) (fun _=>?_)
   refine tkU 0 (.agg (C .u64 S.list).toArray) rfl ?h0 ?_
   case h0=>intro w hSw;exact exec_load_R 86 _ rfl rfl hSw Tryz.underlying86 i5S
   simp only [Act.put,stA,st0,st1]
   refine tkU 1 ?v1 rfl ?h1 ?_
   case h1=>intro w hSw;go_simp <;> with_reducible rfl
   simp only [Act.put,stA,st0,st1]
   refine tkU 2 ?v2 rfl ?h2 ?_
   case h2=>intro w hSw;go_simp <;> with_reducible rfl
   simp only [Act.put,stA,st0,st1]
   refine tkU 3 ?v3 rfl ?h3 ?_
   case h3=>intro w hSw;go_simp <;> with_reducible rfl
   simp only [Act.put,stA,st0,st1]
   refine tkU 4 ?v4 rfl ?h4 ?_
   case h4=>intro w hSw;go_simp <;> with_reducible rfl
   simp only [Act.put,stA,st0,st1]
   refine tkU 5 ?v5 rfl ?h5 ?_
   case h5=>intro w hSw;go_simp <;> with_reducible rfl
   simp only [Act.put,stA,st0,st1]
   refine wpAnyU_oneL (i:=6) (by kernel_rfl) rfl (by rfl) (fun K hK=>?_)
   go_simp
   refine (refblock_any S hSo _ B _ hcd hBl hBn).mono ?_
   rintro _ w6 ⟨rfl,hb6⟩
   rw [HT.out]
   have hB6:=hB.drew.belowS hb6
   have hL6:=hL.drew.trans (hb6.mono hL.size)
   have hP6:=hPd.below hb6
   clear hb6
   refine hK.out _ _ (fun _=>hB6) (fun _=>?_)
   clear hK K
   refine wpAnyU_oneL (i:=7) (by kernel_rfl) rfl (by rfl) (fun K hK=>?_)
   refine wp_store_R 86 _ _ rfl g1 (C .u64 T.list) rfl rfl hB6 i5T h5T (C_allL _ _) ?_
   intro w7 hB7 hg7 hz7
   refine hK.out _ _ (fun h=>absurd rfl h) (fun _=>?_)
   clear hK K
   refine wpAnyU_done (by kernel_rfl) ?_ _
   refine NoPanic.normal ?_
   have hL7:=below_grown hL6 hg7 (by omega) hB6.lt
   have hP7:=hP6.grown hg7 (fun b hb=>by simp [Value.ownBlock] at hb;subst hb;simp;omega)
   rw [← HK.out] at hB7
   have G1:=Away.mk hP7
   have G3:=Away.mk hB7
   have G4:=Away.mk hL7
   clear hB hL hP hB6 hL6 hP6 hB7 hL7 hP7 hcut hcd hPd hg7 hz7 b4
   go_wp2
   go_roundw
   case rel=>exact ⟨k + 1,by omega,by rw [show ((128 * (k + 1):Nat):Int) = (m2:Int) by have:=HM.out;have:=HM2.out;omega],G1.out,G3.out,G4.out⟩
   case measure =>
    have:=HM.out;have:=HM2.out
    simp [intOf];omega
  ·have HKq:Away (k = q):=⟨by omega⟩
   rw [HKq.out] at HS
   rw [HS.out] at HE
   obtain ⟨m,hm64⟩:∃ m,128 * k = m:=⟨_,rfl⟩
   rw [hm64]
   have b1:¬ (m:Int) < (n3:Int):=by have:=HKq.out;have:=HQ.out;omega
   clear hm64
   have hBlt:=hB.lt
   have hO:=own_empty_at wr wr.heap.size wr.heap.size 5 rfl (Nat.le_refl _)
   have hB1:=hB.alloc (.cells #[] 5)
   have hL1:=(Below.more hL hL.size (.cells #[] 5)).1
   obtain ⟨G,hG⟩:∃ G,wr.heap.size = G:=⟨_,rfl⟩
   have hGw:w.heap.size ≤ G:=by rw [← hG];exact hL.size
   rw [hG] at hO hBlt
   go_upto_region 8 with fail
   have hG1:G ≤ (wr.alloc (.cells #[] 5)).heap.size:=by simp;omega
   generalize wr.alloc (.cells #[] 5) = wo at *
   clear hB hL hP hG
   go_wp2
   go_loopw [8,9] (fun v i wr=>∃ j:Nat,j ≤ 8 ∧ i = .int .i64 j ∧ wr.ownsRow G 5 1 v (8 * j) (C .u8 ((out3 S).take (8 * j))) ∧ Row wr g1 86 (C .u64 S.list) ∧ Below w.heap.size w wr ∧ G ≤ wr.heap.size) (fun _ i _=>8 - (intOf i).toNat)
   case atStart=>exact ⟨0,Nat.zero_le _,rfl,by simpa [C] using hO,hB1,hL1,hG1⟩
   case round =>
    clear hO hB1 hL1 hG1
    obtain ⟨j,hj,rfl,hO,hB,hL,hG1⟩:=hrel
    by_cases hj8:j < 8
    ·have hji:(j:Int) < 8:=by omega
     go_wp2
     go_loopw [8,10] (fun v i wr=>∃ r:Nat,r ≤ 8 ∧ i = .int .i64 (7 - (r:Int)) ∧ wr.ownsRow G 5 1 v (8 * j + r) (C .u8 ((out3 S).take (8 * j + r))) ∧ Row wr g1 86 (C .u64 S.list) ∧ Below w.heap.size w wr ∧ G ≤ wr.heap.size) (fun _ i _=>((intOf i) + 1).toNat)
     case atStart=>exact ⟨0,Nat.zero_le _,rfl,hO,hB,hL,hG1⟩
     case round =>
      clear hO hB hL hG1
      obtain ⟨r,hr,rfl,hO,hB,hL,hG1⟩:=hrel
      by_cases hr4:r < 8
      ·obtain ⟨e,he,he3⟩:∃ e:Nat,(7:Int) - (r:Int) = (e:Int) ∧ e = 7 - r:=⟨7 - r,by omega,rfl⟩
       rw [he]
       have hc:=hB.cell j
       rw [C_get .u64 (show j < S.list.length by simp [S8.list];omega)] at hc
       have HN:=Away.mk (out3_next S j r hj8 hr4)
       have hx:=list_ltr hSo j
       generalize S.list.getD j 0 = x at *
       rw [← he3] at HN
       obtain ⟨y,hy⟩:∃ y,x / 2 ^ (8 * e) % 256 = y:=⟨_,rfl⟩
       rw [hy] at HN
       have HV:Away ((x:Int) / 2 ^ (8 * e) % 256 = (y:Int)):=⟨by rw [← hy];simp⟩
       have HO:=Away.mk hO
       have HB:=Away.mk hB
       have HL:=Away.mk hL
       obtain ⟨M,hM⟩:∃ M,8 * j + r = M:=⟨_,rfl⟩
       rw [hM] at HO HN
       have hMm:M ≤ 64:=by omega
       have hei:(e:Int) ≤ 7:=by omega
       have HR:Away (7 - ((r + 1:Nat):Int) = (e:Int) - 1):=⟨by omega⟩
       have HM:=Away.mk hM
       clear hy he he3 hM hO hB hL
       go_wp2_with (at_builtin;refine wpList_append_sl rfl (.tmp 37) (.tmp 46) 23 rfl G 5 _ 1 Tryz.underlying23 inf8 rfl _ M _ rfl (HO.out.alloc _) _ [.int .u8 ((x:Int) / 2 ^ (8 * e) % 256)] rfl (SlV_one _ _ _) (by simp [Value.oneCell']) (by simp;unfold maxLen;omega) (by simp;omega) (by simp;omega) ?_)
       intro v3 w3 ho3 hg3
       have hb3:Below w.heap.size w w3:=(HL.out.alloc HL.out.size _).grown hg3 (by have:=HL.out.size;simp;omega) (fun k hk=>by have:=(HO.out.lt k hk).1;omega)
       have hB3:=(HB.out.alloc (.cells #[.int .u8 ((x:Int) / 2 ^ (8 * e) % 256)] 5)).grown hg3 (fun he=>by have:=(HO.out.lt g1 he.symm).1;omega)
       have hG3:G ≤ w3.heap.size:=by have:=hg3.size;simp at this;omega
       have ho3:w3.ownsRow G 5 1 v3 (M + 1) (C .u8 ((out3 S).take (M + 1))):=by
        have:=ho3
        rw [HV.out,C_snoc,HN.out] at this
        exact this
       have G1:=Away.mk ho3
       have G2:=Away.mk hB3
       have G3:=Away.mk hb3
       clear HO HB HL hg3 ho3 hB3 hb3 hc HN HV
       have hew:IntKind.i64.wrap ((e:Int) - 1) = (e:Int) - 1:=IntWalk.i64_in _ ⟨by omega,by omega⟩
       go_wp2
       go_roundw
       case rel =>
        have h1:=HM.out
        refine ⟨r + 1,by omega,by rw [HR.out],?_,G2.out,G3.out,hG3⟩
        rw [show 8 * j + (r + 1) = M + 1 by omega]
        exact G1.out
       case measure=>simp [intOf]
      ·have HR4:Away (r = 8):=⟨by omega⟩
       obtain ⟨e,he⟩:∃ e:Int,(7:Int) - (r:Int) = e:=⟨_,rfl⟩
       rw [he]
       have hen:¬ 0 ≤ e:=by omega
       have HO:=Away.mk hO
       have HB:=Away.mk hB
       have HL:=Away.mk hL
       clear he hO hB hL
       go_wp2
       go_roundw
       case rel =>
        have:=HR4.out
        subst this
        exact ⟨j + 1,by omega,by go_num,by rw [show 8 * (j + 1) = 8 * j + 8 by omega];exact HO.out,HB.out,HL.out,hG1⟩
       case measure=>simp [intOf];omega
    ·have HJ:Away (j = 8):=⟨by omega⟩
     have hO2:wr.ownsRow G 5 1 u8 64 (C .u8 (out3 S)):=by
      have:=hO
      rw [HJ.out,List.take_of_length_le (by rw [out3_length];decide)] at this
      exact this
     have hOn:=out3_length S
     rw [HE.out] at HH
     generalize out3 S = O at *
     obtain ⟨g8,cap8,rfl,hbg8,hgl8,hnc8,hcm8⟩:=own_shape hO2 (by decide)
     have hj8i:¬ (j:Int) < 8:=by omega
     have h48:(48:Int) ≤ (cap8:Int):=by omega
     have HS1:=Away.mk (own_base hO2 hGw)
     have HLL:=Away.mk hL
     clear hO hO2 hL hB
     cases bb with
     | true =>
      go_wp2
      go_ret
      exact ⟨_,rfl,by rw [HH.out];exact HS1.out,HLL.out⟩
     | false=>exact absurd hbb.out (by decide)
end Go.Proofs.YtmjimilhomabfaaGreatDoor.S3
