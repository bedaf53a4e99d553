/-
 32 bytes as an array, the number of the hash of some parts: the document's (affiantref14), over this seat. Conditions: each as it says.
-/
import Derived.Test.YtmjimilhomabfaaGreatDoorEsL
import Derived.Test.YtmjimilhomabfaaGreatDoorKit17
import Derived.Test.YtmjimilhomabfaaGreatDoorH14e
namespace Go.Proofs.YtmjimilhomabfaaGreatDoor.F
open Go.RowKit
set_option linter.unusedVariables false
set_option maxRecDepth 10000
open E (z z_val z_same z_add z_mul z_sub z_inv z_mod z_of dd Pt padd pneg pmul iv ax ay Sc)
set_option maxHeartbeats 1600000 in
theorem thirty_any (v:Value) (b:List Nat) (ob:Lo 256 b) (hl:32 ≤ b.length) (hm:b.length ≤ 100000) (w:World) (hv:SlV w v (C .u8 b)) :
  Calls Tryz.prog 14 #[v] w fun e w'=>e = .returned (.agg (C .u8 (b.take 32)).toArray) ∧ Below w.heap.size w w':=by
 obtain ⟨n,hn⟩:∃ n,b.length = n:=⟨_,rfl⟩
 obtain ⟨a,c,rfl,h1,h2⟩:=hv.shp hn
 obtain ⟨blk,off,rfl,_⟩:=hv.old (by rw [C_length];omega)
 have h:=Fr.one w 22 (C .u8 (Z 32))
 obtain ⟨B,hB⟩:∃ B,b.take 32 = B:=⟨_,rfl⟩
 have lB:B.length = 32:=by rw [← hB,List.length_take];omega
 have hget:∀ k,k < 32 → b.getD k 0 = B.getD k 0:=fun k hk=>by
  rw [← hB,List.getD_eq_getElem?_getD,List.getD_eq_getElem?_getD,List.getElem?_take_of_lt hk]
 have HG:=Away.mk hget
 have HV:=Away.mk hv
 have HE:=Away.mk hB
 clear hB hget hv
 go_enter Tryz.func14,Tryz.ntmps14
 go_upto_region 1 with (refine wpList_alloc_row rfl 22 rfl _ z32 ?_)
 obtain ⟨g3,hgq0,hq0⟩:=h.more 1 22 (C .u8 (Z 32))
 replace hq0:Fr w _ [(w.heap.size,22,C .u8 (Z 32)),(g3,22,C .u8 (Z 32))]:=hq0
 go_upto_region 2 with (first | refine wpList_build_C rfl 22 _ rfl (C .u8 (Z 32)) (by kernel_rfl) ?_ | refine wpList_alloc_row rfl 22 rfl _ z32 ?_ | (refine wpList_store_R rfl 22 _ _ rfl _ (C .u8 (Z 32)) (congrArg (fun g=>Value.pointer (some ⟨g,0,none⟩)) hgq0) rfl (hq0.row (i:=1) rfl) (iB (by first | assumption | rfl | (apply lLo;assumption) | (apply lHi;assumption) | (rw [List.length_append];omega))) (zB (n:=32) rfl (by first | assumption | rfl | (apply lLo;assumption) | (apply lHi;assumption) | (rw [List.length_append];omega)))  (C_allL _ _) ?_;intro wz0 q0 hg0 hz0))
 replace h:Fr w wz0 [(w.heap.size,22,C .u8 (Z 32)),(g3,22,C .u8 (Z 32))]:=(hq0.put (i:=1) rfl q0 hg0)
 try rw [hgq0]
 clear q0 hg0 hz0 hq0 hgq0
 have hD:∀ k:Nat,k ≤ 32 → k < n ∨ k = 32:=fun k hk=>by omega
 rw [← upto_zero B 32] at h
 go_wp2
 go_loopw [4] (fun i wr=>∃ k:Nat,k ≤ 32 ∧ i = .int .i64 k ∧ Fr w wr [(w.heap.size,22,C .u8 (upto B 32 0)),(g3,22,C .u8 (upto B 32 k))]) (fun i _=>32 - (intOf i).toNat)
 case atStart=>exact ⟨0,by decide,rfl,h⟩
 case round =>
  clear h
  obtain ⟨k,hk,rfl,h⟩:=hrel
  by_cases hlt:k < 32
  ·have d1:decide ((k:Int) < 32) = true:=decide_eq_true (by omega)
   have d2:decide ((k:Int) < (n:Int)) = true:=decide_eq_true (by omega)
   have hkn:k < n:=by omega
   have hc:wr.cell? ⟨blk,off + k,none⟩ = some (.int .u8 ((B.getD k 0:Nat):Int)):=by
    have:=(HV.out.below h.bel).cellAt (C_get .u8 (show k < b.length by omega))
    rw [HG.out k hlt] at this
    exact this
   obtain ⟨x,hx⟩:∃ x,B.getD k 0 = x:=⟨_,rfl⟩
   rw [hx] at hc
   have hf:=(h.row (i:=1) rfl).frozen k
   have hcu:=(h.row (i:=1) rfl).cell k
   rw [C_get .u8 (by rw [upto_length lB hk];omega)] at hcu
   have hst:=fun (z:Int) (hz:z = (x:Int))=>upto_row (z:=z) (h.row (i:=1) rfl) lB hlt (hz.trans (by rw [hx]))
   have hgr:=fun u=>grown_set wr g3 k u
   go_wp2
   go_roundw
   case rel=>exact ⟨k + 1,by omega,by go_num,h.put (i:=1) rfl (hst _ rfl) (hgr _)⟩
   case measure=>simp [intOf];omega
  ·obtain rfl:k = 32:=by omega
   rw [upto_all lB,upto_zero] at h
   have iB2:=iB lB
   go_wp2_with (first | refine wpList_load_row rfl 22 _ rfl _ rfl _ _ _ _ (h.row (i:=1) rfl) Tryz.underlying22 rfl iB2 ?_ | (refine wpList_store_R rfl 22 _ _ rfl _ (C .u8 B) rfl rfl (h.row (i:=0) rfl) iB2 (zB (n:=32) rfl lB) (C_allL _ _) ?_;intro wz q hg hz))
   replace h:=h.put (i:=0) rfl q hg
   exact result_row Tryz.results14 rfl (h.row (i:=0) rfl) Tryz.underlying22 rfl iB2 rfl ⟨by rw [HE.out],h.bel⟩
set_option maxHeartbeats 1600000 in
theorem number_any (g n:Nat) (vs:List Value) (yss:List (List Nat)) (w:World) (hp:Parts w g vs yss) (hn:yss.length = n) (hn3:n ≤ 100) (hm:yss.flatten.length ≤ 1000000) :
  Calls Tryz.prog 27 #[.slice (some ⟨g,0,none⟩) n n] w fun e w'=>e = .returned (.agg (ec (wid yss.flatten)).toArray) ∧ Below w.heap.size w w':=by
 have h:=Fr.one w 32 (ec 0)
 have hP:=Away.mk hp
 clear hp
 have hO:=Ow.empty h 5
 rw [alloc_size] at hO
 go_enter Tryz.func27,Tryz.ntmps27
 go_upto_region 1 with (refine wpList_alloc_row rfl 32 rfl _ z4w ?_)
 go_upto_region 2 with fail
 go_wp2
 go_loopw [3,4] (fun a i wr=>∃ (k:Nat) (v:Value),k ≤ n ∧ i = .int .i64 k ∧ a = v ∧ Ow w wr [(w.heap.size,32,ec 0)] 5 v (yss.take k).flatten.length (C .u8 (yss.take k).flatten)) (fun _ i _=>n - (intOf i).toNat)
 case atStart=>exact ⟨0,_,Nat.zero_le _,rfl,rfl,hO⟩
 case round =>
  clear h hO
  obtain ⟨k,v,hk,rfl,rfl,hO⟩:=hrel
  have hPr:=hP.out.below hO.h.bel
  have hlo:=flat_lo hPr.lo k (by omega)
  have hfl:=flat_le yss k
  by_cases hlt:k < n
  ·obtain ⟨a,m,c,hc,hs⟩:=hPr.sl k (by omega)
   have hc2:wr.cell? ⟨g,k,none⟩ = some (.slice a m c):=by rw [hPr.row.cell,hc]
   have hfk:=flat_take yss (show k < yss.length by omega)
   have hfl2:=flat_le yss (k + 1)
   have hyl:(yss.take k).flatten.length + (yss.getD k []).length ≤ 1000000:=by
    rw [hfk,List.length_append] at hfl2;omega
   have HF:=Away.mk hfk
   clear hc hPr hfk hfl hfl2
   go_wp2_with (at_builtin;refine wpList_append_at rfl (.tmp 12) (.tmp 16) 23 rfl w.heap.size 5 _ 1 Tryz.underlying23 S3.inf8 rfl _ _ _ rfl hO.o _ _ rfl hs (C_one _ _) (by rw [C_length];unfold maxLen;omega) (by rw [C_length];omega) hO.h.bel.size ?_;intro v1 w1 ho1 hg1 hw1)
   have hO1:=hO.app ho1 hg1 hw1
   rw [C_length,← List.length_append,← C_append,← HF.out] at hO1
   clear ho1 hg1 hw1 hO hs
   go_wp2
   go_roundw
   case rel=>exact ⟨k + 1,_,by omega,by go_num,rfl,hO1⟩
   case measure=>simp [intOf];omega
  ·obtain rfl:k = n:=by omega
   rw [List.take_of_length_le (by omega)] at hO hlo
   clear hPr hfl
   have hs:=SlV.ofOwn hO.o
   have h:=hO.h
   go_wp2_with fail
   refine (S3.refsum_own true ⟨rfl⟩ _ yss.flatten _ hs hlo (by omega)).mono ?_
   rintro _ w2 ⟨v2,rfl,ho2,hb2⟩
   rw [S3.hash3_true] at ho2
   have hs2:=SlV.ofOwn ho2
   clear ho2
   replace h:=h.below hb2
   clear hb2 hO hs
   have lN:wid yss.flatten < 115792089237316195423570985008687907853269984665640564039457584007913129639936:=Nat.lt_trans (wid_lt _) Lq_lt
   obtain ⟨N,hN⟩:∃ N,wid yss.flatten = N:=⟨_,rfl⟩
   have cW:=r12wide_any v2 (h5 yss.flatten) (h5_lo _) (h5_length _) w2 hs2
   rw [show val 256 (h5 yss.flatten) % Lq = N from hN] at cW
   have HN:=Away.mk hN
   clear hN hs2
   go_wp2_with fail
   refine callOK cW h ?_
   clear h
   rintro _ wn rfl h
   go_wp2_with (refine wpList_store_R rfl 32 _ _ rfl _ (ec N) rfl rfl (h.row (i:=0) rfl) (ie4 _) rfl (ec_all _) ?_;intro wz q hg hz)
   replace h:=h.put (i:=0) rfl q hg
   exact result_row Tryz.results27 rfl (h.row (i:=0) rfl) Tryz.underlying32 rfl (ie4 _) rfl ⟨by rw [HN.out],h.bel⟩
end Go.Proofs.YtmjimilhomabfaaGreatDoor.F
