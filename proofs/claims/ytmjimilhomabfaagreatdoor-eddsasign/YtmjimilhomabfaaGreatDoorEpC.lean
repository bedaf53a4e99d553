/-
 The program's point, Add, Neg, squareOfX; over this seat's translation. Conditions: each as it says.
-/
import Derived.Test.YtmjimilhomabfaaGreatDoorEpB
namespace Go.Proofs.YtmjimilhomabfaaGreatDoor.F
open Go.RowKit
set_option linter.unusedVariables false
set_option maxRecDepth 10000
open E (z z_val z_same z_add z_mul z_sub z_inv z_mod z_of dd Pt padd pneg pmul iv ax ay Sc)
set_option maxHeartbeats 1000000 in
theorem point_any (A B M N:Nat) (lA:A < 115792089237316195423570985008687907853269984665640564039457584007913129639936) (lB:B < 115792089237316195423570985008687907853269984665640564039457584007913129639936) (lM:M < 115792089237316195423570985008687907853269984665640564039457584007913129639936) (lN:N < 115792089237316195423570985008687907853269984665640564039457584007913129639936) (p:Pt) (h1:Sc p (z A) (z B) (z M) (z N)) (w:World) (hI:TI w):Calls Tryz.prog 79 #[.agg (sc A B M N).toArray] w fun e w'=>e = .returned (.agg (pv p).toArray) ∧ Below w.heap.size w w':=by
 obtain ⟨w2,h2,h⟩:=Fr.two w 81 44 (sc A B M N) (pc 0 0)
 have hP:=hI.e.p
 obtain ⟨n1,en1,ln1,cn1⟩:=elInv N lN
 obtain ⟨n2,en2,ln2,cn2⟩:=elMul A n1 lA ln1
 obtain ⟨n3,en3,ln3,cn3⟩:=elMul B n1 lB ln1
 have HV:Away (pv p = pc n2 n3):=⟨by
  obtain ⟨k1,k2⟩:=h1.out
  have ex:p.x = z n2:=by rw [← en2.out,z_mul,← en1.out,z_inv];exact k1.symm
  have ey:p.y = z n3:=by rw [← en3.out,z_mul,← en1.out,z_inv];exact k2.symm
  unfold pv
  rw [ex,ey,z_valz (by rw [← en2.out];exact mod_lt_P _),z_valz (by rw [← en3.out];exact mod_lt_P _)]⟩
 clear h1
 go_enter Tryz.func79,Tryz.ntmps79
 go_upto_region 1 with (refine wpList_alloc_row rfl 44 rfl _ zPw ?_)
 try simp only [Act.put,stA,st0,st1,alloc_size,h2]
 clear h2
 go_wp2_with (first | refine wpList_load_at rfl 32 _ rfl rfl (sc_3 (h.row (i:=0) rfl)) rfl Tryz.underlying32 (ie4 _) ?_)
 refine callOK (cn1 _ (hI.below h.bel)) h ?_
 clear h
 rintro _ wn rfl h
 obtain ⟨g3,hgq,hq⟩:=h.more 2 32 (ec 0)
 replace hq:Fr w _ [(w.heap.size,81,sc A B M N),((w.heap.size + 1),44,pc 0 0),(g3,32,ec 0)]:=hq
 go_upto_region 2 with (first | refine wpList_alloc_row rfl 32 rfl _ z4w ?_ | (refine wpList_store_R rfl 32 _ _ rfl _ (ec n1) (congrArg (fun g=>Value.pointer (some ⟨g,0,none⟩)) hgq) rfl (hq.row (i:=2) rfl) (ie4 _) rfl (ec_all _) ?_;intro wz q hg hz))
 replace h:Fr w wz [(w.heap.size,81,sc A B M N),((w.heap.size + 1),44,pc 0 0),(g3,32,ec n1)]:=hq.put (i:=2) rfl q hg
 try rw [hgq]
 clear q hg hz hq hgq
 try simp only [Act.put]
 replace h:=h.drew
 refine wp_region_noPanic ?_
 refine wp_region_held_drew (S:=fun w'=>Row w' w.heap.size 81 (sc A B M N) ∧ Row w' g3 32 (ec n1)) (by kernel_rfl) ⟨h.row (i:=0) rfl,h.row (i:=2) rfl⟩ (fun _=>?_)
 refine tkg 0 rfl ?_
 simp only [Act.put,stA,st0,st1]
 refine tkL 1 (.agg (ec A).toArray) rfl (fun w hSw=>exec_load_at 32 _ rfl rfl (sc_0 hSw.1) rfl Tryz.underlying32 (ie4 _)) ?_
 simp only [Act.put,stA,st0,st1]
 refine tkL 2 (.agg (ec n1).toArray) rfl (fun w hSw=>exec_load_W 32 _ rfl rfl hSw.2 Tryz.underlying32 rfl (ie4 _)) ?_
 simp only [Act.put,stA,st0,st1]
 refine tkg 4 rfl ?_
 simp only [Act.put,stA,st0,st1]
 refine tkL 5 (.agg (ec B).toArray) rfl (fun w hSw=>exec_load_at 32 _ rfl rfl (sc_1 hSw.1) rfl Tryz.underlying32 (ie4 _)) ?_
 simp only [Act.put,stA,st0,st1]
 refine tkL 6 (.agg (ec n1).toArray) rfl (fun w hSw=>exec_load_W 32 _ rfl rfl hSw.2 Tryz.underlying32 rfl (ie4 _)) ?_
 simp only [Act.put,stA,st0,st1]
 refine ar1 3 rfl (fun K hK=>?_)
 go_simp
 refine callOK (cn2 _ (hP.below h.bel)) h ?_
 clear h
 rintro _ wn rfl h
 refine hK.out _ _ ⟨h.row (i:=0) rfl,h.row (i:=2) rfl⟩ (fun _=>?_)
 clear hK K
 refine ar1 7 rfl (fun K hK=>?_)
 go_simp
 refine callOK (cn3 _ (hP.below h.bel)) h ?_
 clear h
 rintro _ wn rfl h
 refine hK.out _ _ ⟨h.row (i:=0) rfl,h.row (i:=2) rfl⟩ (fun _=>?_)
 clear hK K
 refine tkL 8 (.agg (pc n2 n3).toArray) rfl (fun w hSw=>exec_build_C 44 _ rfl (pc n2 n3) (by kernel_rfl)) ?_
 simp only [Act.put,stA,st0,st1]
 refine ar1 9 rfl (fun K hK=>?_)
 refine wp_store_R 44 _ _ rfl _ (pc n2 n3) rfl rfl (h.row (i:=1) rfl) (iP _ _) rfl (pc_all _ _) ?_
 intro wz q hg hz
 replace h:Fr w wz [(w.heap.size,81,sc A B M N),((w.heap.size + 1),44,pc n2 n3),(g3,32,ec n1)]:=h.put (i:=1) rfl q hg
 clear q hg hz
 refine hK.out _ _ ⟨h.row (i:=0) rfl,h.row (i:=2) rfl⟩ (fun _=>?_)
 clear hK K
 refine wpAnyH_done (by kernel_rfl) ?_ _
 refine NoPanic.normal ?_
 go_wp2
 exact result_row Tryz.results79 rfl (h.row (i:=1) rfl) Tryz.underlying44 rfl (iP _ _) rfl ⟨by rw [HV.out],h.bel⟩
theorem neg_any (A B:Nat) (lA:A < 115792089237316195423570985008687907853269984665640564039457584007913129639936) (lB:B < 115792089237316195423570985008687907853269984665640564039457584007913129639936) (w:World) (hE:TE w):Calls Tryz.prog 36 #[.agg (pc A B).toArray] w fun e w'=>e = .returned (.agg (pv (pneg (ownP A B))).toArray) ∧ Below w.heap.size w w':=by
 obtain ⟨w2,h2,h⟩:=Fr.two w 44 44 (pc A B) (pc 0 0)
 have hP:=hE.p
 obtain ⟨X,Y,eX,eY,lX,lY,zX,zY,co⟩:=counted_let A B lA lB
 obtain ⟨n1,en1,ln1,cn1⟩:=elNeg X lX
 have HV:Away (pv (pneg (ownP A B)) = pc n1 Y):=⟨by
  have e:(pneg (ownP A B)).x.val = n1:=by
   rw [← en1.out,← z_valz (mod_lt_P _),z_sub,zX]
   show (-(ownP A B).x).val = (0 - (ownP A B).x).val
   congr 1
  unfold pv
  rw [e]
  show pc n1 (ownP A B).y.val = _
  rw [eY]⟩
 clear eX eY zX zY
 go_enter Tryz.func36,Tryz.ntmps36
 go_upto_region 1 with (refine wpList_alloc_row rfl 44 rfl _ zPw ?_)
 try simp only [Act.put,stA,st0,st1,alloc_size,h2]
 clear h2
 go_wp2_with (first | refine wpList_load_row rfl 44 _ rfl _ rfl _ _ _ _ (h.row (i:=0) rfl) Tryz.underlying44 rfl (iP _ _) ?_)
 refine callOK (co _ (hE.below h.bel)) h ?_
 clear h
 rintro _ wn rfl h
 go_upto_region 2 with (first | (refine wpList_store_R rfl 44 _ _ rfl _ (pc X Y) rfl rfl (h.row (i:=0) rfl) (iP _ _) rfl (pc_all _ _) ?_;intro wz q hg hz))
 replace h:Fr w wz [(w.heap.size,44,pc X Y),((w.heap.size + 1),44,pc 0 0)]:=h.put (i:=0) rfl q hg
 clear q hg hz
 try simp only [Act.put]
 replace h:=h.drew
 refine wp_region_noPanic ?_
 refine wp_region_held_drew (S:=fun w'=>Row w' w.heap.size 44 (pc X Y)) (by kernel_rfl) (h.row (i:=0) rfl) (fun _=>?_)
 refine tkg 0 rfl ?_
 simp only [Act.put,stA,st0,st1]
 refine tkL 1 (.agg (ec X).toArray) rfl (fun w hSw=>exec_load_at 32 _ rfl rfl (pc_x hSw) rfl Tryz.underlying32 (ie4 _)) ?_
 simp only [Act.put,stA,st0,st1]
 refine tkg 3 rfl ?_
 simp only [Act.put,stA,st0,st1]
 refine tkL 4 (.agg (ec Y).toArray) rfl (fun w hSw=>exec_load_at 32 _ rfl rfl (pc_y hSw) rfl Tryz.underlying32 (ie4 _)) ?_
 simp only [Act.put,stA,st0,st1]
 refine ar1 2 rfl (fun K hK=>?_)
 go_simp
 refine callOK (cn1 _ (hP.below h.bel)) h ?_
 clear h
 rintro _ wn rfl h
 refine hK.out _ _ (h.row (i:=0) rfl) (fun _=>?_)
 clear hK K
 refine tkL 5 (.agg (pc n1 Y).toArray) rfl (fun w hSw=>exec_build_C 44 _ rfl (pc n1 Y) (by kernel_rfl)) ?_
 simp only [Act.put,stA,st0,st1]
 refine ar1 6 rfl (fun K hK=>?_)
 refine wp_store_R 44 _ _ rfl _ (pc n1 Y) rfl rfl (h.row (i:=1) rfl) (iP _ _) rfl (pc_all _ _) ?_
 intro wz q hg hz
 replace h:Fr w wz [(w.heap.size,44,pc X Y),((w.heap.size + 1),44,pc n1 Y)]:=h.put (i:=1) rfl q hg
 clear q hg hz
 refine hK.out _ _ (h.row (i:=0) rfl) (fun _=>?_)
 clear hK K
 refine wpAnyH_done (by kernel_rfl) ?_ _
 refine NoPanic.normal ?_
 go_wp2
 exact result_row Tryz.results36 rfl (h.row (i:=1) rfl) Tryz.underlying44 rfl (iP _ _) rfl ⟨by rw [HV.out],h.bel⟩
def sqx (N:Nat):Nat:=((N * N % P) % P + (P - 1 % P)) % P * (((Dn * (N * N % P) % P + 1) % P) ^ (P - 2) % P) % P
theorem sqx_lt (N:Nat):sqx N < 115792089237316195423570985008687907853269984665640564039457584007913129639936:=mod_lt_T _
set_option maxHeartbeats 1000000 in
theorem square_any (A:Nat) (lA:A < 115792089237316195423570985008687907853269984665640564039457584007913129639936) (w:World) (hI:TI w):Calls Tryz.prog 70 #[.agg (ec A).toArray] w fun e w'=>e = .returned (.agg (ec (sqx A)).toArray) ∧ Below w.heap.size w w':=by
 obtain ⟨w2,h2,h⟩:=Fr.two w 32 32 (ec A) (ec 0)
 have hE:=hI.e
 have hP:=hE.p
 obtain ⟨n1,en1,ln1,cn1⟩:=elMul A A lA lA
 obtain ⟨n2,en2,ln2,cn2⟩:=elMul Dn n1 lDn ln1
 obtain ⟨n3,en3,ln3,cn3⟩:=elAdd n2 1 ln2 (by decide)
 obtain ⟨n4,en4,ln4,cn4⟩:=elSub n1 1 ln1 (by decide)
 obtain ⟨n5,en5,ln5,cn5⟩:=elInv n3 ln3
 obtain ⟨n6,en6,ln6,cn6⟩:=elMul n4 n5 ln4 ln5
 have HV:Away (sqx A = n6):=⟨by rw [sqx,en1.out,en2.out,en3.out,en4.out,en5.out,en6.out]⟩
 go_enter Tryz.func70,Tryz.ntmps70
 go_upto_region 1 with (refine wpList_alloc_row rfl 32 rfl _ z4w ?_)
 try simp only [Act.put,stA,st0,st1,alloc_size,h2]
 clear h2
 go_wp2_with (first | refine wpList_load_row rfl 32 _ rfl _ rfl _ _ _ _ (h.row (i:=0) rfl) Tryz.underlying32 rfl (ie4 _) ?_)
 refine callOK (cn1 _ (hP.below h.bel)) h ?_
 clear h
 rintro _ wn rfl h
 obtain ⟨g3,hgq,hq⟩:=h.more 2 32 (ec 0)
 replace hq:Fr w _ [(w.heap.size,32,ec A),((w.heap.size + 1),32,ec 0),(g3,32,ec 0)]:=hq
 go_upto_region 2 with (first | refine wpList_alloc_row rfl 32 rfl _ z4w ?_ | (refine wpList_store_R rfl 32 _ _ rfl _ (ec n1) (congrArg (fun g=>Value.pointer (some ⟨g,0,none⟩)) hgq) rfl (hq.row (i:=2) rfl) (ie4 _) rfl (ec_all _) ?_;intro wz q hg hz))
 replace h:Fr w wz [(w.heap.size,32,ec A),((w.heap.size + 1),32,ec 0),(g3,32,ec n1)]:=hq.put (i:=2) rfl q hg
 try rw [hgq]
 clear q hg hz hq hgq
 go_wp2_with (first | refine wpList_load_G rfl 32 _ rfl rfl ((hE.below h.bel).d.c) Tryz.underlying32 rfl (ie4 _) ?_ | refine wpList_load_row rfl 32 _ rfl _ rfl _ _ _ _ (h.row (i:=2) rfl) Tryz.underlying32 rfl (ie4 _) ?_)
 refine callOK (cn2 _ (hP.below h.bel)) h ?_
 clear h
 rintro _ wn rfl h
 go_wp2_with (fail)
 refine callOK (from1 _) h ?_
 clear h
 rintro _ wn rfl h
 go_wp2_with (fail)
 refine callOK (cn3 _ (hP.below h.bel)) h ?_
 clear h
 rintro _ wn rfl h
 obtain ⟨g4,hgq,hq⟩:=h.more 3 32 (ec 0)
 replace hq:Fr w _ [(w.heap.size,32,ec A),((w.heap.size + 1),32,ec 0),(g3,32,ec n1),(g4,32,ec 0)]:=hq
 go_upto_region 3 with (first | refine wpList_alloc_row rfl 32 rfl _ z4w ?_ | (refine wpList_store_R rfl 32 _ _ rfl _ (ec n3) (congrArg (fun g=>Value.pointer (some ⟨g,0,none⟩)) hgq) rfl (hq.row (i:=3) rfl) (ie4 _) rfl (ec_all _) ?_;intro wz q hg hz))
 replace h:Fr w wz [(w.heap.size,32,ec A),((w.heap.size + 1),32,ec 0),(g3,32,ec n1),(g4,32,ec n3)]:=hq.put (i:=3) rfl q hg
 try rw [hgq]
 clear q hg hz hq hgq
 try simp only [Act.put]
 replace h:=h.drew
 refine wp_region_noPanic ?_
 refine wp_region_held_drew (S:=fun w'=>Row w' g3 32 (ec n1) ∧ Row w' g4 32 (ec n3)) (by kernel_rfl) ⟨h.row (i:=2) rfl,h.row (i:=3) rfl⟩ (fun _=>?_)
 refine tkL 0 (.agg (ec n1).toArray) rfl (fun w hSw=>exec_load_W 32 _ rfl rfl hSw.1 Tryz.underlying32 rfl (ie4 _)) ?_
 simp only [Act.put,stA,st0,st1]
 refine tkL 3 (.agg (ec n3).toArray) rfl (fun w hSw=>exec_load_W 32 _ rfl rfl hSw.2 Tryz.underlying32 rfl (ie4 _)) ?_
 simp only [Act.put,stA,st0,st1]
 refine ar1 1 rfl (fun K hK=>?_)
 go_simp
 refine callOK (from1 _) h ?_
 clear h
 rintro _ wn rfl h
 refine hK.out _ _ ⟨h.row (i:=2) rfl,h.row (i:=3) rfl⟩ (fun _=>?_)
 clear hK K
 refine ar1 2 rfl (fun K hK=>?_)
 go_simp
 refine callOK (cn4 _ (hP.below h.bel)) h ?_
 clear h
 rintro _ wn rfl h
 refine hK.out _ _ ⟨h.row (i:=2) rfl,h.row (i:=3) rfl⟩ (fun _=>?_)
 clear hK K
 refine ar1 4 rfl (fun K hK=>?_)
 go_simp
 refine callOK (cn5 _ (hI.below h.bel)) h ?_
 clear h
 rintro _ wn rfl h
 refine hK.out _ _ ⟨h.row (i:=2) rfl,h.row (i:=3) rfl⟩ (fun _=>?_)
 clear hK K
 refine ar1 5 rfl (fun K hK=>?_)
 go_simp
 refine callOK (cn6 _ (hP.below h.bel)) h ?_
 clear h
 rintro _ wn rfl h
 refine hK.out _ _ ⟨h.row (i:=2) rfl,h.row (i:=3) rfl⟩ (fun _=>?_)
 clear hK K
 refine ar1 6 rfl (fun K hK=>?_)
 refine wp_store_R 32 _ _ rfl _ (ec n6) rfl rfl (h.row (i:=1) rfl) (ie4 _) rfl (ec_all _) ?_
 intro wz q hg hz
 replace h:Fr w wz [(w.heap.size,32,ec A),((w.heap.size + 1),32,ec n6),(g3,32,ec n1),(g4,32,ec n3)]:=h.put (i:=1) rfl q hg
 clear q hg hz
 refine hK.out _ _ ⟨h.row (i:=2) rfl,h.row (i:=3) rfl⟩ (fun _=>?_)
 clear hK K
 refine wpAnyH_done (by kernel_rfl) ?_ _
 refine NoPanic.normal ?_
 go_wp2
 exact result_row Tryz.results70 rfl (h.row (i:=1) rfl) Tryz.underlying32 rfl (ie4 _) rfl ⟨by rw [HV.out],h.bel⟩
end Go.Proofs.YtmjimilhomabfaaGreatDoor.F
