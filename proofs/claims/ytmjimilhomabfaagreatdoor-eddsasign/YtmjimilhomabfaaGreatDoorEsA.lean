/-
 The hash of some parts, one behind the other (eddsa's hashed), over this seat. Conditions: the parts together have at most 1000000 bytes; the steps' numbers stand in the package's variable.
-/
import Derived.Test.YtmjimilhomabfaaGreatDoorH14c
import Derived.Test.YtmjimilhomabfaaGreatDoorKit16
namespace Go.Proofs.YtmjimilhomabfaaGreatDoor.F
open Go.RowKit
set_option linter.unusedVariables false
set_option maxRecDepth 10000
theorem zW (w:World):(zeroValue 26).run Tryz.prog w = .ok (.agg (C .u8 (Z 64)).toArray) w:=by kernel_rfl
theorem own_row {w:World} {base n:Nat} {e:TypeId} {v:Value} {xs:List Value} (h:w.ownsRow base e 1 v n xs) (hp:0 < n):∃ g cap rest,v = .slice (some ⟨g,0,none⟩) n cap ∧ base ≤ g ∧ n ≤ cap ∧ Row w g e (xs ++ rest):=by
 obtain ⟨hl,⟨_,h0⟩ | ⟨g,cap,cur,rfl,hb,hc,h1,h2,h3,h4⟩⟩:=h
 ·omega
 ·rw [Nat.mul_one] at h4
  refine ⟨g,cap,cur.toList.drop n,rfl,hb,h1,?_⟩
  unfold Row
  rw [hc,← h4,List.take_append_drop]
structure Parts (w:World) (g:Nat) (vs:List Value) (yss:List (List Nat)):Prop where
 row:Row w g 23 vs
 len:vs.length = yss.length
 sl:∀ i,i < yss.length → ∃ a m c,vs[i]? = some (.slice a m c) ∧ SlV w (.slice a m c) (C .u8 (yss.getD i []))
 lo:∀ i,i < yss.length → Lo 256 (yss.getD i [])
theorem Parts.below {w w':World} {g:Nat} {vs:List Value} {yss:List (List Nat)} (h:Parts w g vs yss) (hb:Below w.heap.size w w'):Parts w' g vs yss :=
 ⟨h.row.belowS hb,h.len,fun i hi=>by obtain ⟨a,m,c,h1,h2⟩:=h.sl i hi;exact ⟨a,m,c,h1,h2.below hb⟩,h.lo⟩
theorem flat_take (yss:List (List Nat)) {k:Nat} (h:k < yss.length):(yss.take (k + 1)).flatten = (yss.take k).flatten ++ yss.getD k []:=by
 rw [List.take_add_one,List.flatten_append,List.getElem?_eq_getElem h,List.getD_eq_getElem?_getD,List.getElem?_eq_getElem h]
 simp
theorem flat_le (yss:List (List Nat)) (k:Nat):(yss.take k).flatten.length ≤ yss.flatten.length:=by
 rw [← List.take_append_drop k yss,List.flatten_append]
 rw [List.take_append_drop]
 simp
theorem flat_lo {yss:List (List Nat)} (h:∀ i,i < yss.length → Lo 256 (yss.getD i [])):∀ k,k ≤ yss.length → Lo 256 (yss.take k).flatten
 | 0,_=>by rw [List.take_zero];exact Lo.nil _
 | k + 1,hk=>by rw [flat_take yss (by omega)];exact (flat_lo h k (by omega)).append (h k (by omega))
set_option maxHeartbeats 1600000 in
theorem hashed_any (g n:Nat) (vs:List Value) (yss:List (List Nat)) (w:World) (hp:Parts w g vs yss) (hn:yss.length = n) (hn3:n ≤ 100) (hm:yss.flatten.length ≤ 1000000) (hT:S3.Tab w) :
  Calls Tryz.prog 24 #[.slice (some ⟨g,0,none⟩) n n] w fun e w'=>e = .returned (.agg (C .u8 (S3.sum3 true yss.flatten)).toArray) ∧ Below w.heap.size w w':=by
 have hR:=Row.new w 26 (C .u8 (Z 64))
 have hb0:=(Below.more (Below.refl w.heap.size w) (Nat.le_refl _) (.cells (C .u8 (Z 64)).toArray 26)).1
 have hT0:=hT.below hb0
 go_enter Tryz.func24,Tryz.ntmps24
 go_upto_region 1 with (refine wpList_alloc_row rfl 26 rfl _ zW ?_)
 go_wp2_with fail
 refine (S9.new_10 _ ⟨hT0⟩).mono ?_
 rintro _ w1 ⟨hq,q,rfl,hH,hK,hne,h1,h2,hb⟩
 replace hR:=hR.belowS hb
 have hsz:w.heap.size < hq ∧ w.heap.size < q:=by rw [alloc_size] at h1 h2;omega
 replace hb0:=hb0.trans (hb.mono hb0.size)
 have hP:=Away.mk hp
 have hTA:=Away.mk hT
 clear hb h1 h2 hT0 hp hT
 go_wp2
 go_loopw [13] (fun i wr=>∃ (k:Nat) (v:Value),k ≤ n ∧ i = .int .i64 k ∧ Row wr w.heap.size 26 (C .u8 (Z 64)) ∧ Row wr hq 101 [.iface 131 (.pointer (some ⟨q,0,none⟩))] ∧ S9.W3.KI wr q v (S3.start3 true) (yss.take k).flatten (yss.take k).flatten.length 64 ∧ (∀ j,v.ownBlock = some j → w.heap.size < j) ∧ Below w.heap.size w wr) (fun i _=>n - (intOf i).toNat)
 case atStart=>exact ⟨0,_,Nat.zero_le _,rfl,hR,hH,hK,fun j hj=>(by cases hj),hb0⟩
 case round =>
  clear hR hH hK hb0
  obtain ⟨k,v,hk,rfl,hR,hH,hK,hv,hb0⟩:=hrel
  have hPr:=hP.out.below hb0
  have hTr:=hTA.out.below hb0
  have hlo:=flat_lo hPr.lo k (by omega)
  have hfl:=flat_le yss k
  by_cases hlt:k < n
  ·obtain ⟨a,m,c,hc,hs⟩:=hPr.sl k (by omega)
   have hc2:wr.cell? ⟨g,k,none⟩ = some (.slice a m c):=by rw [hPr.row.cell,hc]
   have hold:∀ b,(Value.slice a m c).ownBlock = some b → 0 < (yss.getD k []).length → b < w.heap.size:=fun b hb hpos=>by
    obtain ⟨a',m',c',hc',hs'⟩:=hP.out.sl k (by omega)
    rw [hc] at hc'
    injection hc' with hc'
    rw [hc'] at hb
    obtain ⟨b2,off,e,hl2⟩:=hs'.old (by rw [C_length];exact hpos)
    subst e
    injection hb with hb
    exact hb ▸ hl2
   have hfk:=flat_take yss (show k < yss.length by omega)
   have hfl2:=flat_le yss (k + 1)
   have hyl:=hPr.lo k (by omega)
   have hlen:(yss.take k).flatten.length + (yss.getD k []).length < 1152921504606846976:=by
    rw [hfk,List.length_append] at hfl2;omega
   have HF:=Away.mk hfk
   clear hc hPr hfk hfl hfl2
   go_wp2_with fail
   refine (S9.hwrite_3 hq q v (S3.start3 true) _ 64 _ (S3.start3_ok _) hlo hH hK _ _ hyl hs (fun hpos e=>?_) (fun hpos=>?_) hlen ⟨hTr⟩).mono ?_
   ·have:=hold _ e hpos;omega
   ·cases ho:(Value.slice a m c).ownBlock with
    | none=>exact .inl rfl
    | some b=>exact .inr (fun e=>by have:=hold _ ho hpos;have:=hv _ e.symm;omega)
   rintro _ w2 ⟨rfl,v2,hK2,hkp,hv2⟩
   rw [← HF.out] at hK2
   have hne2:∀ e us j,Row wr j e us → e ≠ 5 → v.ownBlock ≠ some j:=fun e us j hj he=>own_ne hK.own hj (Ne.symm he)
   have hR2:=hkp.row hR (by omega) (fun e=>hne2 _ _ _ hR (by decide) e.symm)
   have hH2:=hkp.row hH hne (fun e=>hne2 _ _ _ hH (by decide) e.symm)
   have hb2:=Kp.below hb0 hkp hb0.size (by omega) (fun j hj=>Nat.le_of_lt (hv j hj))
   have hv3:∀ j,v2.ownBlock = some j → w.heap.size < j:=fun j hj=>by
    rcases hv2 with h | h
    ·exact hv j (h ▸ hj)
    ·exact Nat.lt_of_lt_of_le hR.lt (h j hj)
   clear hR hH hK hb0 hkp hv2 hne2
   go_wp2
   go_roundw
   case rel=>exact ⟨k + 1,v2,by omega,by go_num,hR2,hH2,hK2,hv3,hb2⟩
   case measure=>simp [intOf];omega
  ·obtain rfl:k = n:=by omega
   rw [List.take_of_length_le (by omega)] at hK hlo
   clear hPr hfl
   go_wp2_with fail
   refine (S9.hsum_3 hq q v (S3.start3 true) _ 64 _ (S3.start3_ok _) hlo (by omega) (Nat.le_refl _) ⟨hTr⟩ hH hK).mono ?_
   rintro _ w2 ⟨v2,rfl,ho,hb2⟩
   rw [S9.tells3 true _ (by omega),List.take_of_length_le (show (S3.sum3 true yss.flatten).length ≤ 64 from Nat.le_of_eq (S3.out3_length _))] at ho
   have hR2:=hR.belowS hb2
   obtain ⟨gr,cap,rest,rfl,hg,hcap,hrow⟩:=own_row ho (by decide)
   have hbF:=hb0.trans (hb2.mono hb0.size)
   obtain ⟨H,hH5⟩:∃ H,S3.sum3 true yss.flatten = H:=⟨_,rfl⟩
   have HH:=Away.mk hH5
   rw [hH5] at hrow
   have hHl:H.length = 64:=by rw [← hH5];exact S3.out3_length _
   have iW:(Tryz.prog.info? 26).map (·.size) = some (C .u8 H).length:=by rw [C_length,hHl];kernel_rfl
   have zW:(C .u8 (Z 64)).length = (C .u8 H).length:=by rw [C_length,C_length,hHl];rfl
   clear hH hK hb0 hb2 ho hR hH5
   go_wp2_with (first | refine wpList_arrayAt rfl 26 _ rfl rfl Tryz.underlying26 (by decide) ?_ | refine wpList_load_at rfl 26 _ rfl rfl (ps:=[]) hrow rfl Tryz.underlying26 iW ?_ | (refine wpList_store_R rfl 26 _ _ rfl _ (C .u8 H) rfl rfl hR2 iW zW (C_allL _ _) ?_;intro wz qr hg2 hz))
   exact result_row Tryz.results24 rfl qr Tryz.underlying26 rfl iW rfl ⟨by rw [HH.out],below_grown hbF hg2 (Nat.le_refl _) hR2.lt⟩
end Go.Proofs.YtmjimilhomabfaaGreatDoor.F
