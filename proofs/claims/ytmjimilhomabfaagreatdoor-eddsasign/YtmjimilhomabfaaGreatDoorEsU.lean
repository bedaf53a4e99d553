/-
 The document's secret number, key and signature (affiantref14), over this seat. Conditions: the message has at most 10000 bytes.
-/
import Derived.Test.YtmjimilhomabfaaGreatDoorEsT
import Derived.Test.YtmjimilhomabfaaGreatDoorEdC
import Derived.Test.YtmjimilhomabfaaGreatDoorEdE
namespace Go.Proofs.YtmjimilhomabfaaGreatDoor.F
open Go.RowKit
set_option linter.unusedVariables false
set_option maxRecDepth 10000
open E (z z_val z_same z_add z_mul z_sub z_inv z_mod z_of dd Pt padd pneg pmul iv ax ay Sc)
theorem num_let (sd:List Nat) (os:Lo 256 sd) (ls:sd.length = 32):∃ H N,Away (h5 sd = H) ∧ Away (sec sd = N) ∧ Away (pre sd = H.drop 32) ∧ N < 115792089237316195423570985008687907853269984665640564039457584007913129639936 ∧ H.length = 64 ∧ Lo 256 H ∧ val 256 (cl (H.take 32)) = N :=
 ⟨_,_,⟨rfl⟩,⟨rfl⟩,⟨rfl⟩,sec_lt sd,h5_length _,h5_lo _,rfl⟩
set_option maxHeartbeats 1600000 in
theorem secret14_any (sd:List Nat) (os:Lo 256 sd) (ls:sd.length = 32) (H:List Nat) (N:Nat) (eH:Away (h5 sd = H)) (lH:H.length = 64) (oH:Lo 256 H) (hN:val 256 (cl (H.take 32)) = N) (lN:N < 115792089237316195423570985008687907853269984665640564039457584007913129639936) (w:World) :
  Calls Tryz.prog 19 #[.agg (C .u8 sd).toArray] w fun e w'=>∃ gH cap rest,e = .returned (.tuple #[.agg (ec N).toArray,.slice (some ⟨gH,32,none⟩) 32 cap]) ∧ Row w' gH 5 (C .u8 H ++ rest) ∧ w.heap.size ≤ gH ∧ 32 ≤ cap ∧ cap ≤ maxLen ∧ Below w.heap.size w w':=by
 obtain ⟨w2,h2,h⟩:=Fr.two w 22 32 (C .u8 sd) (ec 0)
 have cN:=fun w=>r12clamp_any (H.take 32) (oH.take 32) (lLo lH) w
 rw [hN] at cN
 clear hN
 go_enter Tryz.func19,Tryz.ntmps19
 go_upto_region 1 with (refine wpList_alloc_row rfl 32 rfl _ z4w ?_)
 try simp only [Act.put,stA,st0,st1,alloc_size,h2]
 clear h2
 go_wp2_with fail
 refine (S3.refsum_own true ⟨rfl⟩ _ sd _ (slB (h.row (i:=0) rfl) ls (by decide)) os (by omega)).mono ?_
 rintro _ w3 ⟨v3,rfl,ho,hb⟩
 rw [S3.hash3_true,show S3.sum3 true sd = H from eH.out] at ho
 obtain ⟨gH,cap,rest,rfl,hge,hc1,hrow⟩:=own_row ho (by decide)
 have hc2:cap ≤ maxLen:=by obtain ⟨_,_,e,h1,h2⟩:=(SlV.ofOwn ho).shapeC lH;injection e with _ _ e;omega
 replace h:=h.add hb hrow hge
 clear hb hrow hge ho
 replace h:Fr w w3 [(w.heap.size,22,C .u8 sd),((w.heap.size + 1),32,ec 0),(gH,5,C .u8 H ++ rest)]:=h
 have hcn:¬ cap = 32:=by omega
 have hcm:32 ≤ cap:=by omega
 go_upto_region 2 with fail
 try simp only [Act.put,stA,st0,st1]
 replace h:=h.drew
 refine wp_region_inv (by kernel_rfl) (fun a0 l b w'=>∃ (l0 l1 l2 l3 l4 l5 l6:Bool) ,l = #[l0,l1,l2,l3,l4,l5,l6] ∧ b = putsA a0 [(7,l0,.slice (some ⟨gH,0,none⟩) 64 cap,undef),(8,l1,.agg (C .u8 (H.take 32)).toArray,undef),(9,l2,.agg (ec N).toArray,undef),(10,l3,.slice (some ⟨gH,0,none⟩) 64 cap,undef),(11,l4,.slice (some ⟨gH,32,none⟩) 32 (cap - 32),undef),(3,l6,.slice (some ⟨gH,32,none⟩) 32 (cap - 32),.slice none 0 0)] ∧ Fr w w' (opt [(true,(w.heap.size,22,C .u8 sd)),(true,((w.heap.size + 1),32,bif l5 then ec N else ec 0)),(true,(gH,5,C .u8 H ++ rest))])) ?start ?step ?rest
 case start=>exact ⟨false,false,false,false,false,false,false,by kernel_rfl,by kernel_rfl,h⟩
 case step =>
  clear h
  intro l b w' hI i hi
  obtain ⟨l0,l1,l2,l3,l4,l5,l6,rfl,rfl,h⟩:=hI
  have hlt:i < 7:=ready_lt hi
  obtain rfl | rfl | rfl | rfl | rfl | rfl | rfl:=(by omega:i = 0 ∨ i = 1 ∨ i = 2 ∨ i = 3 ∨ i = 4 ∨ i = 5 ∨ i = 6)
  all_goals (obtain ⟨hn,hd⟩:=rin hi rfl;cases hn;(repeat (obtain ⟨hn,hd⟩:=hd;cases hn));clear hi hlt hd;refine wpOp_inv rfl rfl (fun K hK=>?_);simp only [putsA,Act.put,stA,st0,st1,cond_true,cond_false] at h ⊢)
  ·refine wp_value (.slice (some ⟨gH,0,none⟩) 64 cap) (by go_simp) ?_
   exact hK.out _ _ ⟨_,_,_,_,_,_,_,rfl,by kernel_rfl,h⟩
  ·go_simp
   refine callOK (thirty_any _ H oH (by omega) (by omega) _ (row_sl (h.rowo (k:=2) rfl) lH hc1 hc2)) h ?_
   clear h
   rintro _ wn rfl h
   exact hK.out _ _ ⟨_,_,_,_,_,_,_,rfl,by kernel_rfl,h⟩
  ·go_simp
   refine callOK (cN _) h ?_
   clear h
   rintro _ wn rfl h
   exact hK.out _ _ ⟨_,_,_,_,_,_,_,rfl,by kernel_rfl,h⟩
  ·refine wp_value (.slice (some ⟨gH,0,none⟩) 64 cap) (by go_simp) ?_
   exact hK.out _ _ ⟨_,_,_,_,_,_,_,rfl,by kernel_rfl,h⟩
  ·refine wp_value (.slice (some ⟨gH,32,none⟩) 32 (cap - 32)) (by go_simp) ?_
   exact hK.out _ _ ⟨_,_,_,_,_,_,_,rfl,by kernel_rfl,h⟩
  ·refine wp_store_R 32 _ _ rfl _ (ec N) rfl rfl (h.rowo (k:=1) rfl) (ie4 _) rfl (ec_all _) ?_
   intro wz q hg hz
   replace h:=h.puto (k:=1) rfl q hg
   exact hK.out _ _ ⟨_,_,_,_,_,_,_,rfl,by kernel_rfl,h⟩
  ·refine wp_value (.slice (some ⟨gH,32,none⟩) 32 (cap - 32)) (by go_simp) ?_
   exact hK.out _ _ ⟨_,_,_,_,_,_,_,rfl,by kernel_rfl,h⟩
 case rest =>
  clear h
  intro l b w' hI hr
  obtain ⟨l0,l1,l2,l3,l4,l5,l6,rfl,rfl,h⟩:=hI
  cases rall hr rfl (by rfl)
  clear hr
  simp only [putsA,Act.put,stA,st0,st1,cond_true]
  replace h:Fr w w' [(w.heap.size,22,C .u8 sd),((w.heap.size + 1),32,ec N),(gH,5,C .u8 H ++ rest)]:=h
  go_wp2
  exact result_row2 Tryz.results19 (v:=.slice (some ⟨gH,32,none⟩) 32 (cap - 32)) rfl rfl (h.row (i:=1) rfl) Tryz.underlying32 rfl (ie4 _) rfl ⟨gH,cap - 32,rest,rfl,h.row (i:=2) rfl,h.old _ (List.mem_cons_of_mem _ (List.mem_cons_of_mem _ (List.mem_cons_self ..))),by omega,by omega,h.bel⟩
theorem Bx13_lt:Bx < 115792089237316195423570985008687907853269984665640564039457584007913129639936:=by decide +kernel
theorem mulB13_let (N:Nat) (lN:N < 115792089237316195423570985008687907853269984665640564039457584007913129639936):∃ X Y,X < 115792089237316195423570985008687907853269984665640564039457584007913129639936 ∧ Y < 115792089237316195423570985008687907853269984665640564039457584007913129639936 ∧ Away (ownP X Y = pmul N Bpt) ∧ ∀ w,Calls Tryz.prog 21 #[.agg (ec N).toArray,.agg (pc Bx By).toArray] w fun e w'=>e = .returned (.agg (pc X Y).toArray) ∧ Below w.heap.size w w' :=
 ⟨_,_,ptx_lt _,pty_lt _,⟨ownP_val _⟩,fun w=>mul13_any N Bx By lN Bx13_lt By_lt w⟩
theorem pack13_let (X Y:Nat) (lX:X < 115792089237316195423570985008687907853269984665640564039457584007913129639936) (lY:Y < 115792089237316195423570985008687907853269984665640564039457584007913129639936):∃ G,Away (pk (ownP X Y) = G) ∧ G.length = 32 ∧ Lo 256 G ∧ ∀ w,Calls Tryz.prog 20 #[.agg (pc X Y).toArray] w fun e w'=>e = .returned (.agg (C .u8 G).toArray) ∧ Below w.heap.size w w' :=
 ⟨_,⟨rfl⟩,pk_length _,pk_lo _,fun w=>pack13_any X Y lX lY w⟩
set_option maxHeartbeats 1600000 in
theorem key14_any (sd:List Nat) (os:Lo 256 sd) (ls:sd.length = 32) (w:World):Calls Tryz.prog 9 #[.agg (C .u8 sd).toArray] w fun e w'=>e = .returned (.agg (C .u8 (ky sd)).toArray) ∧ Below w.heap.size w w':=by
 obtain ⟨w2,h2,h⟩:=Fr.two w 22 22 (C .u8 sd) (C .u8 (Z 32))
 obtain ⟨H,N,eH,eN,eP,lN,lH,oH,hN⟩:=num_let sd os ls
 have cO:=fun w=>secret14_any sd os ls H N eH lH oH hN lN w
 obtain ⟨X,Y,lX,lY,eM,cM⟩:=mulB13_let N lN
 obtain ⟨G,eG,lG,oG,cG⟩:=pack13_let X Y lX lY
 have hG:Away (ky sd = G):=⟨by unfold ky kb;rw [eN.out,← eM.out,eG.out]⟩
 clear eH eN eP eM eG hN
 go_enter Tryz.func9,Tryz.ntmps9
 go_upto_region 1 with (refine wpList_alloc_row rfl 22 rfl _ z32 ?_)
 try simp only [Act.put,stA,st0,st1,alloc_size,h2]
 clear h2
 go_wp2_with (first | refine wpList_load_row rfl 22 _ rfl _ rfl _ _ _ _ (h.row (i:=0) rfl) Tryz.underlying22 rfl (iB ls) ?_)
 refine (cO _).mono ?_
 rintro _ wn ⟨gH,cap,rest,rfl,hrow,hge,hc1,hc2,hb⟩
 replace h:=h.add hb hrow hge
 clear hb hrow hge
 obtain ⟨g3,hgq0,hq0⟩:=h.more 3 32 (ec 0)
 replace hq0:Fr w _ [(w.heap.size,22,C .u8 sd),((w.heap.size + 1),22,C .u8 (Z 32)),(gH,5,C .u8 H ++ rest),(g3,32,ec 0)]:=hq0
 go_upto_region 2 with (first | refine wpList_alloc_row rfl 32 rfl _ z4w ?_ | (refine wpList_store_R rfl 32 _ _ rfl _ (ec N) (congrArg (fun g=>Value.pointer (some ⟨g,0,none⟩)) hgq0) rfl (hq0.row (i:=3) rfl) (ie4 _) rfl (ec_all _) ?_;intro wz0 q0 hg0 hz0))
 replace h:Fr w wz0 [(w.heap.size,22,C .u8 sd),((w.heap.size + 1),22,C .u8 (Z 32)),(gH,5,C .u8 H ++ rest),(g3,32,ec N)]:=(hq0.put (i:=3) rfl q0 hg0)
 try rw [hgq0]
 clear q0 hg0 hz0 hq0 hgq0
 try simp only [Act.put,stA,st0,st1]
 replace h:=h.drew
 refine wp_region_inv (by kernel_rfl) (fun a0 l b w'=>∃ (l0 l1 l2 l3 l4:Bool) ,l = #[l0,l1,l2,l3,l4] ∧ b = putsA a0 [(10,l0,.agg (ec N).toArray,undef),(11,l1,.agg (pc Bx By).toArray,undef),(12,l2,.agg (pc X Y).toArray,undef),(13,l3,.agg (C .u8 G).toArray,undef)] ∧ Fr w w' (opt [(true,(w.heap.size,22,C .u8 sd)),(true,((w.heap.size + 1),22,bif l4 then C .u8 G else C .u8 (Z 32))),(true,(gH,5,C .u8 H ++ rest)),(true,(g3,32,ec N))])) ?start ?step ?rest
 case start=>exact ⟨false,false,false,false,false,by kernel_rfl,by kernel_rfl,h⟩
 case step =>
  clear h
  intro l b w' hI i hi
  obtain ⟨l0,l1,l2,l3,l4,rfl,rfl,h⟩:=hI
  have hlt:i < 5:=ready_lt hi
  obtain rfl | rfl | rfl | rfl | rfl:=(by omega:i = 0 ∨ i = 1 ∨ i = 2 ∨ i = 3 ∨ i = 4)
  all_goals (obtain ⟨hn,hd⟩:=rin hi rfl;cases hn;(repeat (obtain ⟨hn,hd⟩:=hd;cases hn));clear hi hlt hd;refine wpOp_inv rfl rfl (fun K hK=>?_);simp only [putsA,Act.put,stA,st0,st1,cond_true,cond_false] at h ⊢)
  ·refine wp_value (.agg (ec N).toArray) (exec_load_W 32 _ rfl rfl (h.rowo (k:=3) rfl) Tryz.underlying32 rfl (ie4 _)) ?_
   exact hK.out _ _ ⟨_,_,_,_,_,rfl,by kernel_rfl,h⟩
  ·go_simp
   refine callOK (base13_any _) h ?_
   clear h
   rintro _ wn rfl h
   exact hK.out _ _ ⟨_,_,_,_,_,rfl,by kernel_rfl,h⟩
  ·go_simp
   refine callOK (cM _) h ?_
   clear h
   rintro _ wn rfl h
   exact hK.out _ _ ⟨_,_,_,_,_,rfl,by kernel_rfl,h⟩
  ·go_simp
   refine callOK (cG _) h ?_
   clear h
   rintro _ wn rfl h
   exact hK.out _ _ ⟨_,_,_,_,_,rfl,by kernel_rfl,h⟩
  ·refine wp_store_R 22 _ _ rfl _ (C .u8 G) rfl rfl (h.rowo (k:=1) rfl) (iB (by first | assumption | rfl | (apply lLo;assumption) | (apply lHi;assumption) | (rw [List.length_append];omega))) (zB (n:=32) rfl (by first | assumption | rfl | (apply lLo;assumption) | (apply lHi;assumption) | (rw [List.length_append];omega))) (C_allL _ _) ?_
   intro wz q hg hz
   replace h:=h.puto (k:=1) rfl q hg
   exact hK.out _ _ ⟨_,_,_,_,_,rfl,by kernel_rfl,h⟩
 case rest =>
  clear h
  intro l b w' hI hr
  obtain ⟨l0,l1,l2,l3,l4,rfl,rfl,h⟩:=hI
  cases rall hr rfl (by rfl)
  clear hr
  simp only [putsA,Act.put,stA,st0,st1,cond_true]
  replace h:Fr w w' [(w.heap.size,22,C .u8 sd),((w.heap.size + 1),22,C .u8 G),(gH,5,C .u8 H ++ rest),(g3,32,ec N)]:=h
  go_wp2
  exact result_row Tryz.results9 rfl (h.row (i:=1) rfl) Tryz.underlying22 rfl (iB lG) rfl ⟨by rw [hG.out],h.bel⟩
theorem number2_let (A B:List Nat) (oA:Lo 256 A) (oB:Lo 256 B) (lm:(A ++ B).length ≤ 100000):∃ n,Away (wid (A ++ B) = n) ∧ n < 115792089237316195423570985008687907853269984665640564039457584007913129639936 ∧ ∀ (g:Nat) (v1 v2:Value) (w:World),Row w g 23 [v1,v2] → SlV w v1 (C .u8 A) → SlV w v2 (C .u8 B) → Calls Tryz.prog 27 #[.slice (some ⟨g,0,none⟩) 2 2] w fun e w'=>e = .returned (.agg (ec n).toArray) ∧ Below w.heap.size w w' :=
 ⟨_,⟨rfl⟩,Nat.lt_trans (wid_lt _) Lq_lt,fun g v1 v2 w hr h1 h2=>by
  have h:=number_any g 2 _ [A,B] w (parts2 hr h1 h2 oA oB) rfl (by decide) (by simp at *;omega)
  rw [show [A,B].flatten = A ++ B by simp] at h
  exact h⟩
theorem number3_let (A B D:List Nat) (oA:Lo 256 A) (oB:Lo 256 B) (oD:Lo 256 D) (lm:(A ++ (B ++ D)).length ≤ 100000):∃ n,Away (wid (A ++ (B ++ D)) = n) ∧ n < 115792089237316195423570985008687907853269984665640564039457584007913129639936 ∧ ∀ (g:Nat) (v1 v2 v3:Value) (w:World),Row w g 23 [v1,v2,v3] → SlV w v1 (C .u8 A) → SlV w v2 (C .u8 B) → SlV w v3 (C .u8 D) → Calls Tryz.prog 27 #[.slice (some ⟨g,0,none⟩) 3 3] w fun e w'=>e = .returned (.agg (ec n).toArray) ∧ Below w.heap.size w w' :=
 ⟨_,⟨rfl⟩,Nat.lt_trans (wid_lt _) Lq_lt,fun g v1 v2 v3 w hr h1 h2 h3=>by
  have h:=number_any g 3 _ [A,B,D] w (parts3 hr h1 h2 h3 oA oB oD) rfl (by decide) (by simp at *;omega)
  rw [show [A,B,D].flatten = A ++ (B ++ D) by simp] at h
  exact h⟩
theorem r12mul_let (A B:Nat) (lA:A < 115792089237316195423570985008687907853269984665640564039457584007913129639936) (lB:B < 115792089237316195423570985008687907853269984665640564039457584007913129639936):∃ n,Away (A * B % Lq = n) ∧ n < 115792089237316195423570985008687907853269984665640564039457584007913129639936 ∧ ∀ w,Calls Tryz.prog 30 #[.agg (ec A).toArray,.agg (ec B).toArray] w fun e w'=>e = .returned (.agg (ec n).toArray) ∧ Below w.heap.size w w' :=
 ⟨_,⟨rfl⟩,mod_Lq_T _,fun w=>r12mul_any A B lA lB w⟩
theorem r12add_let (A B:Nat) (lA:A < 115792089237316195423570985008687907853269984665640564039457584007913129639936) (lB:B < 115792089237316195423570985008687907853269984665640564039457584007913129639936):∃ n,Away ((A + B) % Lq = n) ∧ n < 115792089237316195423570985008687907853269984665640564039457584007913129639936 ∧ ∀ w,Calls Tryz.prog 29 #[.agg (ec A).toArray,.agg (ec B).toArray] w fun e w'=>e = .returned (.agg (ec n).toArray) ∧ Below w.heap.size w w' :=
 ⟨_,⟨rfl⟩,mod_Lq_T _,fun w=>r12add_any A B lA lB w⟩
theorem r12bytes_let (A:Nat) (lA:A < 115792089237316195423570985008687907853269984665640564039457584007913129639936):∃ S,Away (dig 256 32 (A % Lq) = S) ∧ S.length = 32 ∧ Lo 256 S ∧ ∀ w,Calls Tryz.prog 28 #[.agg (ec A).toArray] w fun e w'=>e = .returned (.agg (C .u8 S).toArray) ∧ Below w.heap.size w w' :=
 ⟨_,⟨rfl⟩,dig_length _ _ _,dig_lo (by decide) 32 _,fun w=>r12bytes_any A lA w⟩
theorem copy_two {F S:List Nat} (lF:F.length = 32) (lS:S.length = 32) {k:Nat} (hk:k < 32):((upto F 32 k ++ upto S 32 k).set k (F.getD k 0)).set (32 + k) (S.getD k 0) = upto F 32 (k + 1) ++ upto S 32 (k + 1):=by
 have lu:=upto_length lF (Nat.le_of_lt hk)
 rw [List.set_append_left _ _ (by omega),upto_succ lF hk]
 have lu2:=upto_length lF (show k + 1 ≤ 32 by omega)
 rw [List.set_append_right _ _ (by omega),lu2,show 32 + k - 32 = k by omega,upto_succ lS hk]
set_option maxHeartbeats 4000000 in
theorem sign14_any (sd:List Nat) (os:Lo 256 sd) (ls:sd.length = 32) (mv:Value) (m:List Nat) (om:Lo 256 m) (lm:m.length ≤ 10000) (w:World) (hv:SlV w mv (C .u8 m)):Calls Tryz.prog 11 #[.agg (C .u8 sd).toArray,mv] w fun e w'=>e = .returned (.agg (C .u8 (sgn sd m)).toArray) ∧ Below w.heap.size w w':=by
 obtain ⟨ma,mn,mc,rfl⟩:=slv_shape hv
 obtain ⟨w2,h2,h⟩:=Fr.two w 22 26 (C .u8 sd) (C .u8 (Z 64))
 obtain ⟨H,N,eH,eN,eP,lN,lH,oH,hN⟩:=num_let sd os ls
 have cO:=fun w=>secret14_any sd os ls H N eH lH oH hN lN w
 obtain ⟨G,hG⟩:∃ G,ky sd = G:=⟨_,rfl⟩
 have cG:=fun w=>key14_any sd os ls w
 have lG:(ky sd).length = 32:=kb_length _
 have oG:Lo 256 (ky sd):=kb_lo _
 rw [hG] at cG lG oG
 obtain ⟨r,er,lr,c1⟩:=number2_let (H.drop 32) m (oH.drop 32) om (by rw [List.length_append,lHi lH];omega)
 obtain ⟨X,Y,lX,lY,eM,cM⟩:=mulB13_let r lr
 obtain ⟨F,eF,lF,oF,cF⟩:=pack13_let X Y lX lY
 obtain ⟨k,ek,lk,c2⟩:=number3_let F G m oF oG om (by rw [List.length_append,List.length_append];omega)
 obtain ⟨p,ep,lp,cp⟩:=r12mul_let k N lk lN
 obtain ⟨s,es,ls',cs⟩:=r12add_let r p lr lp
 obtain ⟨S,eS,lS,oS,cB⟩:=r12bytes_let s ls'
 have hS:Away (sgn sd m = F ++ S):=⟨by
  have e1:sr sd m = F:=by unfold sr;rw [eP.out,er.out];unfold kb;rw [← eM.out,eF.out]
  have e3:ss sd m = s:=by unfold ss;rw [e1,hG,eP.out,er.out,ek.out,eN.out,ep.out,es.out]
  have e4:s % Lq = s:=by rw [← e3];exact Nat.mod_eq_of_lt (ss_lt sd m)
  unfold sgn
  rw [e1,e3,← eS.out,e4]⟩
 clear eH eN eP eM er eF ek ep es eS hN hG
 go_enter Tryz.func11,Tryz.ntmps11
 go_upto_region 1 with (refine wpList_alloc_row rfl 26 rfl _ zW ?_)
 try simp only [Act.put,stA,st0,st1,alloc_size,h2]
 clear h2
 go_wp2_with (first | refine wpList_load_row rfl 22 _ rfl _ rfl _ _ _ _ (h.row (i:=0) rfl) Tryz.underlying22 rfl (iB ls) ?_)
 refine (cO _).mono ?_
 rintro _ wn ⟨gH,cap,rest,rfl,hrow,hge,hc1,hc2,hb⟩
 replace h:=h.add hb hrow hge
 clear hb hrow hge
 obtain ⟨g5,hgq0,hq0⟩:=h.more 3 32 (ec 0)
 replace hq0:Fr w _ [(w.heap.size,22,C .u8 sd),((w.heap.size + 1),26,C .u8 (Z 64)),(gH,5,C .u8 H ++ rest),(g5,32,ec 0)]:=hq0
 go_upto_region 2 with (first | refine wpList_alloc_row rfl 32 rfl _ z4w ?_ | (refine wpList_store_R rfl 32 _ _ rfl _ (ec N) (congrArg (fun g=>Value.pointer (some ⟨g,0,none⟩)) hgq0) rfl (hq0.row (i:=3) rfl) (ie4 _) rfl (ec_all _) ?_;intro wz0 q0 hg0 hz0))
 replace h:Fr w wz0 [(w.heap.size,22,C .u8 sd),((w.heap.size + 1),26,C .u8 (Z 64)),(gH,5,C .u8 H ++ rest),(g5,32,ec N)]:=(hq0.put (i:=3) rfl q0 hg0)
 try rw [hgq0]
 clear q0 hg0 hz0 hq0 hgq0
 go_wp2_with (first | refine wpList_load_row rfl 22 _ rfl _ rfl _ _ _ _ (h.row (i:=0) rfl) Tryz.underlying22 rfl (iB ls) ?_)
 refine callOK (cG _) h ?_
 clear h
 rintro _ wn rfl h
 obtain ⟨g7,hgq0,hq0⟩:=h.more 4 22 (C .u8 (Z 32))
 replace hq0:Fr w _ [(w.heap.size,22,C .u8 sd),((w.heap.size + 1),26,C .u8 (Z 64)),(gH,5,C .u8 H ++ rest),(g5,32,ec N),(g7,22,C .u8 (Z 32))]:=hq0
 go_upto_region 3 with (first | refine wpList_alloc_row rfl 22 rfl _ z32 ?_ | (refine wpList_store_R rfl 22 _ _ rfl _ (C .u8 G) (congrArg (fun g=>Value.pointer (some ⟨g,0,none⟩)) hgq0) rfl (hq0.row (i:=4) rfl) (iB (by first | assumption | rfl | (apply lLo;assumption) | (apply lHi;assumption) | (rw [List.length_append];omega))) (zB (n:=32) rfl (by first | assumption | rfl | (apply lLo;assumption) | (apply lHi;assumption) | (rw [List.length_append];omega)))  (C_allL _ _) ?_;intro wz0 q0 hg0 hz0))
 replace h:Fr w wz0 [(w.heap.size,22,C .u8 sd),((w.heap.size + 1),26,C .u8 (Z 64)),(gH,5,C .u8 H ++ rest),(g5,32,ec N),(g7,22,C .u8 G)]:=(hq0.put (i:=4) rfl q0 hg0)
 try rw [hgq0]
 clear q0 hg0 hz0 hq0 hgq0
 obtain ⟨g23,hgq,hq⟩:=h.more 5 23 ([.slice (some ⟨gH,32,none⟩) 32 cap,.slice ma mn mc])
 replace hq:Fr w _ [(w.heap.size,22,C .u8 sd),((w.heap.size + 1),26,C .u8 (Z 64)),(gH,5,C .u8 H ++ rest),(g5,32,ec N),(g7,22,C .u8 G),(g23,23,[.slice (some ⟨gH,32,none⟩) 32 cap,.slice ma mn mc])]:=hq
 go_wp2_with (first | refine wpList_parts rfl 51 23 2 _ rfl ([.slice (some ⟨gH,32,none⟩) 32 cap,.slice ma mn mc]) (by first | rfl | kernel_rfl) Tryz.underlying51 sl1 slz rfl (by decide) (by decide) rfl ?_)
 replace h:=hq
 try rw [hgq]
 clear hq hgq
 refine callOK (c1 g23 _ _ _ (h.row (i:=5) rfl) (row_sl32 (h.row (i:=2) rfl) lH hc1 hc2) (hv.below h.bel)) h ?_
 clear h
 rintro _ wn rfl h
 obtain ⟨g8,hgq0,hq0⟩:=h.more 6 32 (ec 0)
 replace hq0:Fr w _ [(w.heap.size,22,C .u8 sd),((w.heap.size + 1),26,C .u8 (Z 64)),(gH,5,C .u8 H ++ rest),(g5,32,ec N),(g7,22,C .u8 G),(g23,23,[.slice (some ⟨gH,32,none⟩) 32 cap,.slice ma mn mc]),(g8,32,ec 0)]:=hq0
 go_upto_region 4 with (first | refine wpList_alloc_row rfl 32 rfl _ z4w ?_ | (refine wpList_store_R rfl 32 _ _ rfl _ (ec r) (congrArg (fun g=>Value.pointer (some ⟨g,0,none⟩)) hgq0) rfl (hq0.row (i:=6) rfl) (ie4 _) rfl (ec_all _) ?_;intro wz0 q0 hg0 hz0))
 replace h:Fr w wz0 [(w.heap.size,22,C .u8 sd),((w.heap.size + 1),26,C .u8 (Z 64)),(gH,5,C .u8 H ++ rest),(g5,32,ec N),(g7,22,C .u8 G),(g23,23,[.slice (some ⟨gH,32,none⟩) 32 cap,.slice ma mn mc]),(g8,32,ec r)]:=(hq0.put (i:=6) rfl q0 hg0)
 try rw [hgq0]
 clear q0 hg0 hz0 hq0 hgq0
 try simp only [Act.put,stA,st0,st1]
 replace h:=h.drew
 refine wp_region_inv (by kernel_rfl) (fun a0 l b w'=>∃ (l0 l1 l2 l3 l4 l5:Bool) (g9:Nat) ,l = #[l0,l1,l2,l3,l4,l5] ∧ b = putsA a0 [(25,l0,.agg (ec r).toArray,undef),(26,l1,.agg (pc Bx By).toArray,undef),(27,l2,.agg (pc X Y).toArray,undef),(28,l3,.agg (C .u8 F).toArray,undef),(9,l4,.pointer (some ⟨g9,0,none⟩),undef)] ∧ Fr w w' (opt [(true,(w.heap.size,22,C .u8 sd)),(true,((w.heap.size + 1),26,C .u8 (Z 64))),(true,(gH,5,C .u8 H ++ rest)),(true,(g5,32,ec N)),(true,(g7,22,C .u8 G)),(true,(g23,23,[.slice (some ⟨gH,32,none⟩) 32 cap,.slice ma mn mc])),(true,(g8,32,ec r)),(l4,(g9,22,bif l5 then C .u8 F else C .u8 (Z 32)))]) ∧ (l5 = true → l4 = true)) ?start ?step ?rest
 case start=>exact ⟨false,false,false,false,false,false,0,by kernel_rfl,by kernel_rfl,h,(fun e=>by cases e)⟩
 case step =>
  clear h
  intro l b w' hI i hi
  obtain ⟨l0,l1,l2,l3,l4,l5,g9,rfl,rfl,h,hc5⟩:=hI
  have hlt:i < 6:=ready_lt hi
  obtain rfl | rfl | rfl | rfl | rfl | rfl:=(by omega:i = 0 ∨ i = 1 ∨ i = 2 ∨ i = 3 ∨ i = 4 ∨ i = 5)
  all_goals (obtain ⟨hn,hd⟩:=rin hi rfl;cases hn;(repeat (obtain ⟨hn,hd⟩:=hd;cases hn));clear hi hlt hd;refine wpOp_inv rfl rfl (fun K hK=>?_);simp only [putsA,Act.put,stA,st0,st1,cond_true,cond_false] at h ⊢)
  ·refine wp_value (.agg (ec r).toArray) (exec_load_W 32 _ rfl rfl (h.rowo (k:=6) rfl) Tryz.underlying32 rfl (ie4 _)) ?_
   refine hK.out _ _ ⟨_,_,_,_,_,_,_,rfl,by kernel_rfl,h,?_⟩ <;> first | assumption | exact fun _=>rfl | exact nofun
  ·go_simp
   refine callOK (base13_any _) h ?_
   clear h
   rintro _ wn rfl h
   refine hK.out _ _ ⟨_,_,_,_,_,_,_,rfl,by kernel_rfl,h,?_⟩ <;> first | assumption | exact fun _=>rfl | exact nofun
  ·go_simp
   refine callOK (cM _) h ?_
   clear h
   rintro _ wn rfl h
   refine hK.out _ _ ⟨_,_,_,_,_,_,_,rfl,by kernel_rfl,h,?_⟩ <;> first | assumption | exact fun _=>rfl | exact nofun
  ·go_simp
   refine callOK (cF _) h ?_
   clear h
   rintro _ wn rfl h
   refine hK.out _ _ ⟨_,_,_,_,_,_,_,rfl,by kernel_rfl,h,?_⟩ <;> first | assumption | exact fun _=>rfl | exact nofun
  ·obtain rfl:l5 = false:=by cases l5 with | false=>rfl | true=>exact absurd (hc5 rfl) (by decide)
   simp only [cond_false] at h ⊢
   refine wp_alloc_R 22 rfl (C .u8 (Z 32)) z32 ?_
   obtain ⟨gn,hgq,hq⟩:=h.on (k:=7) rfl 22 (C .u8 (Z 32))
   rw [hgq]
   refine hK.out _ _ ⟨_,_,_,_,_,_,_,rfl,by kernel_rfl,hq,?_⟩ <;> first | assumption | exact fun _=>rfl | exact nofun
  ·refine wp_store_R 22 _ _ rfl _ (C .u8 F) rfl rfl (h.rowo (k:=7) rfl) (iB (by first | assumption | rfl | (apply lLo;assumption) | (apply lHi;assumption) | (rw [List.length_append];omega))) (zB (n:=32) rfl (by first | assumption | rfl | (apply lLo;assumption) | (apply lHi;assumption) | (rw [List.length_append];omega))) (C_allL _ _) ?_
   intro wz q hg hz
   replace h:=h.puto (k:=7) rfl q hg
   refine hK.out _ _ ⟨_,_,_,_,_,_,_,rfl,by kernel_rfl,h,?_⟩ <;> first | assumption | exact fun _=>rfl | exact nofun
 case rest =>
  clear h
  intro l b w' hI hr
  obtain ⟨l0,l1,l2,l3,l4,l5,g9,rfl,rfl,h,hc5⟩:=hI
  cases rall hr rfl (by rfl)
  clear hr hc5
  simp only [putsA,Act.put,stA,st0,st1,cond_true]
  replace h:Fr w w' [(w.heap.size,22,C .u8 sd),((w.heap.size + 1),26,C .u8 (Z 64)),(gH,5,C .u8 H ++ rest),(g5,32,ec N),(g7,22,C .u8 G),(g23,23,[.slice (some ⟨gH,32,none⟩) 32 cap,.slice ma mn mc]),(g8,32,ec r),(g9,22,C .u8 F)]:=h
  go_upto_region 5 with fail
  try simp only [Act.put,stA,st0,st1]
  replace h:=h.drew
  refine wp_region_inv (by kernel_rfl) (fun a0 l b w'=>∃ (l0 l1 l2 l3 l4 l5 l6:Bool) (g32 g10:Nat) ,l = #[l0,l1,l2,l3,l4,l5,l6] ∧ b = putsA a0 [(29,l0,.slice (some ⟨g9,0,none⟩) 32 32,undef),(30,l1,.slice (some ⟨g7,0,none⟩) 32 32,undef),(31,l2,.slice ma mn mc,undef),(32,l3,.slice (some ⟨g32,0,none⟩) 3 3,undef),(33,l4,.agg (ec k).toArray,undef),(10,l5,.pointer (some ⟨g10,0,none⟩),undef)] ∧ Fr w w' (opt [(true,(w.heap.size,22,C .u8 sd)),(true,((w.heap.size + 1),26,C .u8 (Z 64))),(true,(gH,5,C .u8 H ++ rest)),(true,(g5,32,ec N)),(true,(g7,22,C .u8 G)),(true,(g23,23,[.slice (some ⟨gH,32,none⟩) 32 cap,.slice ma mn mc])),(true,(g8,32,ec r)),(true,(g9,22,C .u8 F)),(l3,(g32,23,[.slice (some ⟨g9,0,none⟩) 32 32,.slice (some ⟨g7,0,none⟩) 32 32,.slice ma mn mc])),(l5,(g10,32,bif l6 then ec k else ec 0))]) ∧ (l6 = true → l5 = true)) ?start ?step ?rest
  case start=>exact ⟨false,false,false,false,false,false,false,0,0,by kernel_rfl,by kernel_rfl,h,(fun e=>by cases e)⟩
  case step =>
   clear h
   intro l b w' hI i hi
   obtain ⟨l0,l1,l2,l3,l4,l5,l6,g32,g10,rfl,rfl,h,hc6⟩:=hI
   have hlt:i < 7:=ready_lt hi
   obtain rfl | rfl | rfl | rfl | rfl | rfl | rfl:=(by omega:i = 0 ∨ i = 1 ∨ i = 2 ∨ i = 3 ∨ i = 4 ∨ i = 5 ∨ i = 6)
   all_goals (obtain ⟨hn,hd⟩:=rin hi rfl;cases hn;(repeat (obtain ⟨hn,hd⟩:=hd;cases hn));clear hi hlt hd;refine wpOp_inv rfl rfl (fun K hK=>?_);simp only [putsA,Act.put,stA,st0,st1,cond_true,cond_false] at h ⊢)
   ·refine wp_value (.slice (some ⟨g9,0,none⟩) 32 32) (by go_simp) ?_
    refine hK.out _ _ ⟨_,_,_,_,_,_,_,_,_,rfl,by kernel_rfl,h,?_⟩ <;> first | assumption | exact fun _=>rfl | exact nofun
   ·refine wp_value (.slice (some ⟨g7,0,none⟩) 32 32) (by go_simp) ?_
    refine hK.out _ _ ⟨_,_,_,_,_,_,_,_,_,rfl,by kernel_rfl,h,?_⟩ <;> first | assumption | exact fun _=>rfl | exact nofun
   ·refine wp_value (.slice ma mn mc) (by go_simp) ?_
    refine hK.out _ _ ⟨_,_,_,_,_,_,_,_,_,rfl,by kernel_rfl,h,?_⟩ <;> first | assumption | exact fun _=>rfl | exact nofun
   ·refine wp_parts 51 23 3 _ rfl ([.slice (some ⟨g9,0,none⟩) 32 32,.slice (some ⟨g7,0,none⟩) 32 32,.slice ma mn mc]) (by first | rfl | kernel_rfl) Tryz.underlying51 sl1 slz rfl (by decide) (by decide) rfl ?_
    obtain ⟨gn,hgq,hq⟩:=h.on (k:=8) rfl 23 ([.slice (some ⟨g9,0,none⟩) 32 32,.slice (some ⟨g7,0,none⟩) 32 32,.slice ma mn mc])
    rw [hgq]
    refine hK.out _ _ ⟨_,_,_,_,_,_,_,_,_,rfl,by kernel_rfl,hq,?_⟩ <;> first | assumption | exact fun _=>rfl | exact nofun
   ·go_simp
    refine callOK (c2 g32 _ _ _ _ (h.rowo (k:=8) rfl) (slB (h.rowo (k:=7) rfl) lF (by decide)) (slB (h.rowo (k:=4) rfl) lG (by decide)) (hv.below h.bel)) h ?_
    clear h
    rintro _ wn rfl h
    refine hK.out _ _ ⟨_,_,_,_,_,_,_,_,_,rfl,by kernel_rfl,h,?_⟩ <;> first | assumption | exact fun _=>rfl | exact nofun
   ·obtain rfl:l6 = false:=by cases l6 with | false=>rfl | true=>exact absurd (hc6 rfl) (by decide)
    simp only [cond_false] at h ⊢
    refine wp_alloc_R 32 rfl (ec 0) z4w ?_
    obtain ⟨gn,hgq,hq⟩:=h.on (k:=9) rfl 32 (ec 0)
    rw [hgq]
    refine hK.out _ _ ⟨_,_,_,_,_,_,_,_,_,rfl,by kernel_rfl,hq,?_⟩ <;> first | assumption | exact fun _=>rfl | exact nofun
   ·refine wp_store_R 32 _ _ rfl _ (ec k) rfl rfl (h.rowo (k:=9) rfl) (ie4 _) rfl (ec_all _) ?_
    intro wz q hg hz
    replace h:=h.puto (k:=9) rfl q hg
    refine hK.out _ _ ⟨_,_,_,_,_,_,_,_,_,rfl,by kernel_rfl,h,?_⟩ <;> first | assumption | exact fun _=>rfl | exact nofun
  case rest =>
   clear h
   intro l b w' hI hr
   obtain ⟨l0,l1,l2,l3,l4,l5,l6,g32,g10,rfl,rfl,h,hc6⟩:=hI
   cases rall hr rfl (by rfl)
   clear hr hc6
   simp only [putsA,Act.put,stA,st0,st1,cond_true]
   replace h:Fr w w' [(w.heap.size,22,C .u8 sd),((w.heap.size + 1),26,C .u8 (Z 64)),(gH,5,C .u8 H ++ rest),(g5,32,ec N),(g7,22,C .u8 G),(g23,23,[.slice (some ⟨gH,32,none⟩) 32 cap,.slice ma mn mc]),(g8,32,ec r),(g9,22,C .u8 F),(g32,23,[.slice (some ⟨g9,0,none⟩) 32 32,.slice (some ⟨g7,0,none⟩) 32 32,.slice ma mn mc]),(g10,32,ec k)]:=h
   go_upto_region 6 with fail
   try simp only [Act.put,stA,st0,st1]
   replace h:=h.drew
   refine wp_region_inv (by kernel_rfl) (fun a0 l b w'=>∃ (l0 l1 l2 l3 l4 l5 l6 l7:Bool) (g11:Nat) ,l = #[l0,l1,l2,l3,l4,l5,l6,l7] ∧ b = putsA a0 [(34,l0,.agg (ec r).toArray,undef),(35,l1,.agg (ec k).toArray,undef),(36,l2,.agg (ec N).toArray,undef),(37,l3,.agg (ec p).toArray,undef),(38,l4,.agg (ec s).toArray,undef),(39,l5,.agg (C .u8 S).toArray,undef),(11,l6,.pointer (some ⟨g11,0,none⟩),undef)] ∧ Fr w w' (opt [(true,(w.heap.size,22,C .u8 sd)),(true,((w.heap.size + 1),26,C .u8 (Z 64))),(true,(gH,5,C .u8 H ++ rest)),(true,(g5,32,ec N)),(true,(g7,22,C .u8 G)),(true,(g23,23,[.slice (some ⟨gH,32,none⟩) 32 cap,.slice ma mn mc])),(true,(g8,32,ec r)),(true,(g9,22,C .u8 F)),(true,(g32,23,[.slice (some ⟨g9,0,none⟩) 32 32,.slice (some ⟨g7,0,none⟩) 32 32,.slice ma mn mc])),(true,(g10,32,ec k)),(l6,(g11,22,bif l7 then C .u8 S else C .u8 (Z 32)))]) ∧ (l7 = true → l6 = true)) ?start ?step ?rest
   case start=>exact ⟨false,false,false,false,false,false,false,false,0,by kernel_rfl,by kernel_rfl,h,(fun e=>by cases e)⟩
   case step =>
    clear h
    intro l b w' hI i hi
    obtain ⟨l0,l1,l2,l3,l4,l5,l6,l7,g11,rfl,rfl,h,hc7⟩:=hI
    have hlt:i < 8:=ready_lt hi
    obtain rfl | rfl | rfl | rfl | rfl | rfl | rfl | rfl:=(by omega:i = 0 ∨ i = 1 ∨ i = 2 ∨ i = 3 ∨ i = 4 ∨ i = 5 ∨ i = 6 ∨ i = 7)
    all_goals (obtain ⟨hn,hd⟩:=rin hi rfl;cases hn;(repeat (obtain ⟨hn,hd⟩:=hd;cases hn));clear hi hlt hd;refine wpOp_inv rfl rfl (fun K hK=>?_);simp only [putsA,Act.put,stA,st0,st1,cond_true,cond_false] at h ⊢)
    ·refine wp_value (.agg (ec r).toArray) (exec_load_W 32 _ rfl rfl (h.rowo (k:=6) rfl) Tryz.underlying32 rfl (ie4 _)) ?_
     refine hK.out _ _ ⟨_,_,_,_,_,_,_,_,_,rfl,by kernel_rfl,h,?_⟩ <;> first | assumption | exact fun _=>rfl | exact nofun
    ·refine wp_value (.agg (ec k).toArray) (exec_load_W 32 _ rfl rfl (h.rowo (k:=9) rfl) Tryz.underlying32 rfl (ie4 _)) ?_
     refine hK.out _ _ ⟨_,_,_,_,_,_,_,_,_,rfl,by kernel_rfl,h,?_⟩ <;> first | assumption | exact fun _=>rfl | exact nofun
    ·refine wp_value (.agg (ec N).toArray) (exec_load_W 32 _ rfl rfl (h.rowo (k:=3) rfl) Tryz.underlying32 rfl (ie4 _)) ?_
     refine hK.out _ _ ⟨_,_,_,_,_,_,_,_,_,rfl,by kernel_rfl,h,?_⟩ <;> first | assumption | exact fun _=>rfl | exact nofun
    ·go_simp
     refine callOK (cp _) h ?_
     clear h
     rintro _ wn rfl h
     refine hK.out _ _ ⟨_,_,_,_,_,_,_,_,_,rfl,by kernel_rfl,h,?_⟩ <;> first | assumption | exact fun _=>rfl | exact nofun
    ·go_simp
     refine callOK (cs _) h ?_
     clear h
     rintro _ wn rfl h
     refine hK.out _ _ ⟨_,_,_,_,_,_,_,_,_,rfl,by kernel_rfl,h,?_⟩ <;> first | assumption | exact fun _=>rfl | exact nofun
    ·go_simp
     refine callOK (cB _) h ?_
     clear h
     rintro _ wn rfl h
     refine hK.out _ _ ⟨_,_,_,_,_,_,_,_,_,rfl,by kernel_rfl,h,?_⟩ <;> first | assumption | exact fun _=>rfl | exact nofun
    ·obtain rfl:l7 = false:=by cases l7 with | false=>rfl | true=>exact absurd (hc7 rfl) (by decide)
     simp only [cond_false] at h ⊢
     refine wp_alloc_R 22 rfl (C .u8 (Z 32)) z32 ?_
     obtain ⟨gn,hgq,hq⟩:=h.on (k:=10) rfl 22 (C .u8 (Z 32))
     rw [hgq]
     refine hK.out _ _ ⟨_,_,_,_,_,_,_,_,_,rfl,by kernel_rfl,hq,?_⟩ <;> first | assumption | exact fun _=>rfl | exact nofun
    ·refine wp_store_R 22 _ _ rfl _ (C .u8 S) rfl rfl (h.rowo (k:=10) rfl) (iB (by first | assumption | rfl | (apply lLo;assumption) | (apply lHi;assumption) | (rw [List.length_append];omega))) (zB (n:=32) rfl (by first | assumption | rfl | (apply lLo;assumption) | (apply lHi;assumption) | (rw [List.length_append];omega))) (C_allL _ _) ?_
     intro wz q hg hz
     replace h:=h.puto (k:=10) rfl q hg
     refine hK.out _ _ ⟨_,_,_,_,_,_,_,_,_,rfl,by kernel_rfl,h,?_⟩ <;> first | assumption | exact fun _=>rfl | exact nofun
   case rest =>
    clear h
    intro l b w' hI hr
    obtain ⟨l0,l1,l2,l3,l4,l5,l6,l7,g11,rfl,rfl,h,hc7⟩:=hI
    cases rall hr rfl (by rfl)
    clear hr hc7
    simp only [putsA,Act.put,stA,st0,st1,cond_true]
    replace h:Fr w w' [(w.heap.size,22,C .u8 sd),((w.heap.size + 1),26,C .u8 (Z 64)),(gH,5,C .u8 H ++ rest),(g5,32,ec N),(g7,22,C .u8 G),(g23,23,[.slice (some ⟨gH,32,none⟩) 32 cap,.slice ma mn mc]),(g8,32,ec r),(g9,22,C .u8 F),(g32,23,[.slice (some ⟨g9,0,none⟩) 32 32,.slice (some ⟨g7,0,none⟩) 32 32,.slice ma mn mc]),(g10,32,ec k),(g11,22,C .u8 S)]:=h
    try simp only [Act.put,stA,st0,st1]
    go_upto_region 7 with fail
    obtain ⟨g12,hgq0,hq0⟩:=h.more 11 26 (C .u8 (Z 64))
    replace hq0:Fr w _ [(w.heap.size,22,C .u8 sd),((w.heap.size + 1),26,C .u8 (Z 64)),(gH,5,C .u8 H ++ rest),(g5,32,ec N),(g7,22,C .u8 G),(g23,23,[.slice (some ⟨gH,32,none⟩) 32 cap,.slice ma mn mc]),(g8,32,ec r),(g9,22,C .u8 F),(g32,23,[.slice (some ⟨g9,0,none⟩) 32 32,.slice (some ⟨g7,0,none⟩) 32 32,.slice ma mn mc]),(g10,32,ec k),(g11,22,C .u8 S),(g12,26,C .u8 (Z 64))]:=hq0
    go_upto_region 8 with (first | refine wpList_build_C rfl 26 _ rfl (C .u8 (Z 64)) (by kernel_rfl) ?_ | refine wpList_alloc_row rfl 26 rfl _ zW ?_ | (refine wpList_store_R rfl 26 _ _ rfl _ (C .u8 (Z 64)) (congrArg (fun g=>Value.pointer (some ⟨g,0,none⟩)) hgq0) rfl (hq0.row (i:=11) rfl) (iW (by first | assumption | rfl | (apply lLo;assumption) | (apply lHi;assumption) | (rw [List.length_append];omega))) (zB (n:=64) rfl (by first | assumption | rfl | (apply lLo;assumption) | (apply lHi;assumption) | (rw [List.length_append];omega)))  (C_allL _ _) ?_;intro wz0 q0 hg0 hz0))
    replace h:Fr w wz0 [(w.heap.size,22,C .u8 sd),((w.heap.size + 1),26,C .u8 (Z 64)),(gH,5,C .u8 H ++ rest),(g5,32,ec N),(g7,22,C .u8 G),(g23,23,[.slice (some ⟨gH,32,none⟩) 32 cap,.slice ma mn mc]),(g8,32,ec r),(g9,22,C .u8 F),(g32,23,[.slice (some ⟨g9,0,none⟩) 32 32,.slice (some ⟨g7,0,none⟩) 32 32,.slice ma mn mc]),(g10,32,ec k),(g11,22,C .u8 S),(g12,26,C .u8 (Z 64))]:=(hq0.put (i:=11) rfl q0 hg0)
    try rw [hgq0]
    clear q0 hg0 hz0 hq0 hgq0
    replace h:Fr w _ [(w.heap.size,22,C .u8 sd),((w.heap.size + 1),26,C .u8 (Z 64)),(gH,5,C .u8 H ++ rest),(g5,32,ec N),(g7,22,C .u8 G),(g23,23,[.slice (some ⟨gH,32,none⟩) 32 cap,.slice ma mn mc]),(g8,32,ec r),(g9,22,C .u8 F),(g32,23,[.slice (some ⟨g9,0,none⟩) 32 32,.slice (some ⟨g7,0,none⟩) 32 32,.slice ma mn mc]),(g10,32,ec k),(g11,22,C .u8 S),(g12,26,C .u8 (upto F 32 0 ++ upto S 32 0))]:=h
    go_wp2
    go_loopw [13] (fun i wr=>∃ kk:Nat,kk ≤ 32 ∧ i = .int .i64 kk ∧ Fr w wr [(w.heap.size,22,C .u8 sd),((w.heap.size + 1),26,C .u8 (Z 64)),(gH,5,C .u8 H ++ rest),(g5,32,ec N),(g7,22,C .u8 G),(g23,23,[.slice (some ⟨gH,32,none⟩) 32 cap,.slice ma mn mc]),(g8,32,ec r),(g9,22,C .u8 F),(g32,23,[.slice (some ⟨g9,0,none⟩) 32 32,.slice (some ⟨g7,0,none⟩) 32 32,.slice ma mn mc]),(g10,32,ec k),(g11,22,C .u8 S),(g12,26,C .u8 (upto F 32 kk ++ upto S 32 kk))]) (fun i _=>32 - (intOf i).toNat)
    case atStart=>exact ⟨0,by decide,rfl,h⟩
    case round =>
     clear h
     obtain ⟨k2,hk,rfl,h⟩:=hrel
     by_cases hlt:k2 < 32
     ·have d1:decide ((k2:Int) < 32) = true:=decide_eq_true (by omega)
      have lu:=upto_length lF hk
      have lv:=upto_length lS hk
      have cF1:=(h.row (i:=7) rfl).cell k2
      rw [C_get .u8 (by omega)] at cF1
      have cS1:=(h.row (i:=10) rfl).cell k2
      rw [C_get .u8 (by omega)] at cS1
      have fz:=fun i=>(h.row (i:=11) rfl).frozen i
      have lz:(upto F 32 k2 ++ upto S 32 k2).length = 64:=by rw [List.length_append,lu,lv]
      have c1:=(h.row (i:=11) rfl).cell k2
      rw [C_get .u8 (by rw [lz];omega)] at c1
      have fS:=copy_two lF lS hlt
      obtain ⟨x,hx⟩:∃ x,F.getD k2 0 = x:=⟨_,rfl⟩
      obtain ⟨y,hy⟩:∃ y,S.getD k2 0 = y:=⟨_,rfl⟩
      rw [hx] at cF1 fS
      rw [hy] at cS1 fS
      obtain ⟨w6,hw6,h6⟩:∃ w6,wr.setCell ⟨g12,k2,none⟩ (.int .u8 (x:Int)) = w6 ∧ Fr w w6 [(w.heap.size,22,C .u8 sd),((w.heap.size + 1),26,C .u8 (Z 64)),(gH,5,C .u8 H ++ rest),(g5,32,ec N),(g7,22,C .u8 G),(g23,23,[.slice (some ⟨gH,32,none⟩) 32 cap,.slice ma mn mc]),(g8,32,ec r),(g9,22,C .u8 F),(g32,23,[.slice (some ⟨g9,0,none⟩) 32 32,.slice (some ⟨g7,0,none⟩) 32 32,.slice ma mn mc]),(g10,32,ec k),(g11,22,C .u8 S),(g12,26,C .u8 ((upto F 32 k2 ++ upto S 32 k2).set k2 x))]:=⟨_,rfl,by have h3:=h.put (i:=11) rfl ((h.row (i:=11) rfl).set k2 (.int .u8 (x:Int))) (grown_set _ _ _ _);rw [← C_set] at h3;exact h3⟩
      have cS2:=(h6.row (i:=10) rfl).cell k2
      rw [C_get .u8 (by omega),hy] at cS2
      have f6:=(h6.row (i:=11) rfl).frozen (32 + k2)
      have c6:=(h6.row (i:=11) rfl).cell (32 + k2)
      rw [C_get .u8 (by rw [List.length_set,lz];omega)] at c6
      have h7:Fr w (w6.setCell ⟨g12,32 + k2,none⟩ (.int .u8 (y:Int))) [(w.heap.size,22,C .u8 sd),((w.heap.size + 1),26,C .u8 (Z 64)),(gH,5,C .u8 H ++ rest),(g5,32,ec N),(g7,22,C .u8 G),(g23,23,[.slice (some ⟨gH,32,none⟩) 32 cap,.slice ma mn mc]),(g8,32,ec r),(g9,22,C .u8 F),(g32,23,[.slice (some ⟨g9,0,none⟩) 32 32,.slice (some ⟨g7,0,none⟩) 32 32,.slice ma mn mc]),(g10,32,ec k),(g11,22,C .u8 S),(g12,26,C .u8 (upto F 32 (k2 + 1) ++ upto S 32 (k2 + 1)))]:=by have h3:=h6.put (i:=11) rfl ((h6.row (i:=11) rfl).set (32 + k2) (.int .u8 (y:Int))) (grown_set _ _ _ _);rw [← C_set,fS] at h3;exact h3
      clear fS lu lv lz hx hy
      go_wp2_with fail
      go_roundw
      case rel=>exact ⟨k2 + 1,by omega,by go_num,h7⟩
      case measure=>simp [intOf];omega
     ·obtain rfl:k2 = 32:=by omega
      rw [upto_all lF,upto_all lS] at h
      have iFS:(Tryz.prog.info? 26).map (·.size) = some (C .u8 (F ++ S)).length:=iW (by rw [List.length_append,lF,lS])
      go_wp2_with (first | refine wpList_load_row rfl 26 _ rfl _ rfl _ _ _ _ (h.row (i:=11) rfl) Tryz.underlying26 rfl iFS ?_ | (refine wpList_store_R rfl 26 _ _ rfl _ (C .u8 (F ++ S)) rfl rfl (h.row (i:=1) rfl) iFS (zB (n:=64) rfl (by rw [List.length_append,lF,lS])) (C_allL _ _) ?_;intro wz q hg hz))
      replace h:=h.put (i:=1) rfl q hg
      exact result_row Tryz.results11 rfl (h.row (i:=1) rfl) Tryz.underlying26 rfl iFS rfl ⟨by rw [hS.out],h.bel⟩
end Go.Proofs.YtmjimilhomabfaaGreatDoor.F
