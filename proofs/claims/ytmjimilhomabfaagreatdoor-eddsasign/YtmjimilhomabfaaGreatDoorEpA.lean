/-
 The program's Zero, twice, negative, scale, On, counted; over this seat's translation. Conditions: each as it says.
-/
import Derived.Test.YtmjimilhomabfaaGreatDoorEdR
import Derived.Test.YtmjimilhomabfaaGreatDoorK14
namespace Go.Proofs.YtmjimilhomabfaaGreatDoor.F
open Go.RowKit
set_option linter.unusedVariables false
set_option maxRecDepth 10000
open E (z z_val z_same z_add z_mul z_sub z_inv z_mod z_of dd Pt padd pneg pmul iv ax ay Sc)
theorem from1 (w:World):Calls Tryz.prog 108 #[.int .u64 1] w fun e w'=>e = .returned (.agg (ec 1).toArray) ∧ Below w.heap.size w w':=from_el 1 (by decide) w
theorem twice_el (A:Nat) (lA:A < 115792089237316195423570985008687907853269984665640564039457584007913129639936) (w:World) (hP:Tab w):Calls Tryz.prog 116 #[.agg (ec A).toArray] w fun e w'=>e = .returned (.agg (ec ((A + A) % P)).toArray) ∧ Below w.heap.size w w':=by
 obtain ⟨w2,h2,h⟩:=Fr.two w 32 32 (ec A) (ec 0)
 obtain ⟨n1,en1,ln1,cn1⟩:=elAdd A A lA lA
 rw [en1.out]
 go_enter Tryz.func116,Tryz.ntmps116
 go_upto_region 1 with (refine wpList_alloc_row rfl 32 rfl _ z4w ?_)
 try simp only [Act.put,stA,st0,st1,alloc_size,h2]
 clear h2
 go_wp2_with (first | refine wpList_load_row rfl 32 _ rfl _ rfl _ _ _ _ (h.row (i:=0) rfl) Tryz.underlying32 rfl (ie4 _) ?_)
 refine callOK (cn1 _ (hP.below h.bel)) h ?_
 clear h
 rintro _ wn rfl h
 go_wp2_with (first | (refine wpList_store_R rfl 32 _ _ rfl _ (ec n1) rfl rfl (h.row (i:=1) rfl) (ie4 _) rfl (ec_all _) ?_;intro wz q hg hz))
 replace h:Fr w wz [(w.heap.size,32,ec A),((w.heap.size + 1),32,ec n1)]:=h.put (i:=1) rfl q hg
 clear q hg hz
 exact result_row Tryz.results116 rfl (h.row (i:=1) rfl) Tryz.underlying32 rfl (ie4 _) rfl ⟨rfl,h.bel⟩
theorem negative_el (A:Nat) (lA:A < 115792089237316195423570985008687907853269984665640564039457584007913129639936) (w:World) (hP:Tab w):Calls Tryz.prog 71 #[.agg (ec A).toArray] w fun e w'=>e = .returned (.agg (ec ((0 % P + (P - A % P)) % P)).toArray) ∧ Below w.heap.size w w':=by
 obtain ⟨w2,h2,h⟩:=Fr.two w 32 32 (ec A) (ec 0)
 obtain ⟨n1,en1,ln1,cn1⟩:=elSub 0 A (by decide) lA
 rw [en1.out]
 go_enter Tryz.func71,Tryz.ntmps71
 go_upto_region 1 with (refine wpList_alloc_row rfl 32 rfl _ z4w ?_)
 try simp only [Act.put,stA,st0,st1,alloc_size,h2]
 clear h2
 go_wp2_with (first | refine wpList_build_C rfl 32 _ rfl (ec 0) (by kernel_rfl) ?_ | refine wpList_load_row rfl 32 _ rfl _ rfl _ _ _ _ (h.row (i:=0) rfl) Tryz.underlying32 rfl (ie4 _) ?_)
 refine callOK (cn1 _ (hP.below h.bel)) h ?_
 clear h
 rintro _ wn rfl h
 go_wp2_with (first | (refine wpList_store_R rfl 32 _ _ rfl _ (ec n1) rfl rfl (h.row (i:=1) rfl) (ie4 _) rfl (ec_all _) ?_;intro wz q hg hz))
 replace h:Fr w wz [(w.heap.size,32,ec A),((w.heap.size + 1),32,ec n1)]:=h.put (i:=1) rfl q hg
 clear q hg hz
 exact result_row Tryz.results71 rfl (h.row (i:=1) rfl) Tryz.underlying32 rfl (ie4 _) rfl ⟨rfl,h.bel⟩
theorem elTwice (A:Nat) (lA:A < 115792089237316195423570985008687907853269984665640564039457584007913129639936):∃ n,Away ((A + A) % P = n) ∧ n < 115792089237316195423570985008687907853269984665640564039457584007913129639936 ∧ ∀ (w:World),Tab w → Calls Tryz.prog 116 #[.agg (ec A).toArray] w fun e w'=>e = .returned (.agg (ec n).toArray) ∧ Below w.heap.size w w':=⟨_,⟨rfl⟩,mod_lt_T _,fun w hT=>twice_el A lA w hT⟩
theorem elNeg (A:Nat) (lA:A < 115792089237316195423570985008687907853269984665640564039457584007913129639936):∃ n,Away ((0 % P + (P - A % P)) % P = n) ∧ n < 115792089237316195423570985008687907853269984665640564039457584007913129639936 ∧ ∀ (w:World),Tab w → Calls Tryz.prog 71 #[.agg (ec A).toArray] w fun e w'=>e = .returned (.agg (ec n).toArray) ∧ Below w.heap.size w w':=⟨_,⟨rfl⟩,mod_lt_T _,fun w hT=>negative_el A lA w hT⟩
theorem zero_el (w:World):Calls Tryz.prog 68 #[] w fun e w'=>e = .returned (.agg (pc 0 1).toArray) ∧ Below w.heap.size w w':=by
 have h:=Fr.one w 44 (pc 0 0)
 go_enter Tryz.func68,Tryz.ntmps68
 go_upto_region 1 with (refine wpList_alloc_row rfl 44 rfl _ zPw ?_)
 go_wp2_with (fail)
 refine callOK (from1 _) h ?_
 clear h
 rintro _ wn rfl h
 go_wp2_with (first | refine wpList_build_C rfl 44 _ rfl (pc 0 1) (by kernel_rfl) ?_ | (refine wpList_store_R rfl 44 _ _ rfl _ (pc 0 1) rfl rfl (h.row (i:=0) rfl) (iP _ _) rfl (pc_all _ _) ?_;intro wz q hg hz))
 replace h:Fr w wz [(w.heap.size,44,pc 0 1)]:=h.put (i:=0) rfl q hg
 clear q hg hz
 exact result_row Tryz.results68 rfl (h.row (i:=0) rfl) Tryz.underlying44 rfl (iP _ _) rfl ⟨rfl,h.bel⟩
theorem base_el (w:World) (hB:TB w):Calls Tryz.prog 35 #[] w fun e w'=>e = .returned (.agg (pc Bx By).toArray) ∧ Below w.heap.size w w':=by
 have h:=Fr.one w 44 (pc 0 0)
 go_enter Tryz.func35,Tryz.ntmps35
 go_upto_region 1 with (refine wpList_alloc_row rfl 44 rfl _ zPw ?_)
 go_wp2_with (first | refine wpList_load_G rfl 44 _ rfl rfl (hB.below h.bel) Tryz.underlying44 rfl (iP _ _) ?_ | (refine wpList_store_R rfl 44 _ _ rfl _ (pc Bx By) rfl rfl (h.row (i:=0) rfl) (iP _ _) rfl (pc_all _ _) ?_;intro wz q hg hz))
 replace h:Fr w wz [(w.heap.size,44,pc Bx By)]:=h.put (i:=0) rfl q hg
 clear q hg hz
 exact result_row Tryz.results35 rfl (h.row (i:=0) rfl) Tryz.underlying44 rfl (iP _ _) rfl ⟨rfl,h.bel⟩
set_option maxHeartbeats 1000000 in
theorem scale_n (A B:Nat) (lA:A < 115792089237316195423570985008687907853269984665640564039457584007913129639936) (lB:B < 115792089237316195423570985008687907853269984665640564039457584007913129639936) (w:World) (hP:Tab w):Calls Tryz.prog 76 #[.agg (pc A B).toArray] w fun e w'=>e = .returned (.agg (sc A B (A * B % P) 1).toArray) ∧ Below w.heap.size w w':=by
 obtain ⟨w2,h2,h⟩:=Fr.two w 44 81 (pc A B) (sc 0 0 0 0)
 obtain ⟨n1,en1,ln1,cn1⟩:=elMul A B lA lB
 rw [en1.out]
 go_enter Tryz.func76,Tryz.ntmps76
 go_upto_region 1 with (refine wpList_alloc_row rfl 81 rfl _ zSw ?_)
 try simp only [Act.put,stA,st0,st1,alloc_size,h2]
 clear h2
 replace h:=h.drew
 refine wp_region_noPanic ?_
 refine wp_region_held_drew (S:=fun w'=>Row w' w.heap.size 44 (pc A B)) (by kernel_rfl) (h.row (i:=0) rfl) (fun _=>?_)
 refine tkg 0 rfl ?_
 simp only [Act.put,stA,st0,st1]
 refine tkL 1 (.agg (ec A).toArray) rfl (fun w hSw=>exec_load_at 32 _ rfl rfl (pc_x hSw) rfl Tryz.underlying32 (ie4 _)) ?_
 simp only [Act.put,stA,st0,st1]
 refine tkg 2 rfl ?_
 simp only [Act.put,stA,st0,st1]
 refine tkL 3 (.agg (ec B).toArray) rfl (fun w hSw=>exec_load_at 32 _ rfl rfl (pc_y hSw) rfl Tryz.underlying32 (ie4 _)) ?_
 simp only [Act.put,stA,st0,st1]
 refine tkg 4 rfl ?_
 simp only [Act.put,stA,st0,st1]
 refine tkL 5 (.agg (ec A).toArray) rfl (fun w hSw=>exec_load_at 32 _ rfl rfl (pc_x hSw) rfl Tryz.underlying32 (ie4 _)) ?_
 simp only [Act.put,stA,st0,st1]
 refine tkg 6 rfl ?_
 simp only [Act.put,stA,st0,st1]
 refine tkL 7 (.agg (ec B).toArray) rfl (fun w hSw=>exec_load_at 32 _ rfl rfl (pc_y hSw) rfl Tryz.underlying32 (ie4 _)) ?_
 simp only [Act.put,stA,st0,st1]
 refine ar1 8 rfl (fun K hK=>?_)
 go_simp
 refine callOK (cn1 _ (hP.below h.bel)) h ?_
 clear h
 rintro _ wn rfl h
 refine hK.out _ _ (h.row (i:=0) rfl) (fun _=>?_)
 clear hK K
 refine ar1 9 rfl (fun K hK=>?_)
 go_simp
 refine callOK (from1 _) h ?_
 clear h
 rintro _ wn rfl h
 refine hK.out _ _ (h.row (i:=0) rfl) (fun _=>?_)
 clear hK K
 refine tkL 10 (.agg (sc A B n1 1).toArray) rfl (fun w hSw=>exec_build_C 81 _ rfl (sc A B n1 1) (by kernel_rfl)) ?_
 simp only [Act.put,stA,st0,st1]
 refine ar1 11 rfl (fun K hK=>?_)
 refine wp_store_R 81 _ _ rfl _ (sc A B n1 1) rfl rfl (h.row (i:=1) rfl) (iS _ _ _ _) rfl (sc_all _ _ _ _) ?_
 intro wz q hg hz
 replace h:Fr w wz [(w.heap.size,44,pc A B),((w.heap.size + 1),81,sc A B n1 1)]:=h.put (i:=1) rfl q hg
 clear q hg hz
 refine hK.out _ _ (h.row (i:=0) rfl) (fun _=>?_)
 clear hK K
 refine wpAnyH_done (by kernel_rfl) ?_ _
 refine NoPanic.normal ?_
 go_wp2
 exact result_row Tryz.results76 rfl (h.row (i:=1) rfl) Tryz.underlying81 rfl (iS _ _ _ _) rfl ⟨rfl,h.bel⟩
theorem scale_let (A B:Nat) (lA:A < 115792089237316195423570985008687907853269984665640564039457584007913129639936) (lB:B < 115792089237316195423570985008687907853269984665640564039457584007913129639936) (p:Pt) (zA:z A = p.x) (zB:z B = p.y):∃ U,U < 115792089237316195423570985008687907853269984665640564039457584007913129639936 ∧ Sc p (z A) (z B) (z U) (z 1) ∧ ∀ w,Tab w → Calls Tryz.prog 76 #[.agg (pc A B).toArray] w fun e w'=>e = .returned (.agg (sc A B U 1).toArray) ∧ Below w.heap.size w w' :=
 ⟨A * B % P,mod_lt_T _,by rw [z_mul,zA,zB];exact Sc.one p,fun w hP=>scale_n A B lA lB w hP⟩
set_option maxHeartbeats 4000000 in
theorem on_any (A B:Nat) (lA:A < 115792089237316195423570985008687907853269984665640564039457584007913129639936) (lB:B < 115792089237316195423570985008687907853269984665640564039457584007913129639936) (w:World) (hE:TE w):Calls Tryz.prog 115 #[.agg (pc A B).toArray] w fun e w'=>e = .returned (.bool (onB A B)) ∧ Below w.heap.size w w':=by
 have h:=Fr.one w 44 (pc A B)
 have hP:=hE.p
 have cA:=reduce_el A lA
 have cB:=reduce_el B lB
 have hqA:=fun w=>eq4 w (A % P) A (mod_lt_T _) lA
 have hqB:=fun w=>eq4 w (B % P) B (mod_lt_T _) lB
 obtain ⟨n1,en1,ln1,cn1⟩:=elMul A A lA lA
 obtain ⟨n2,en2,ln2,cn2⟩:=elMul B B lB lB
 obtain ⟨n3,en3,ln3,cn3⟩:=elSub n2 n1 ln2 ln1
 obtain ⟨n4,en4,ln4,cn4⟩:=elMul n1 n2 ln1 ln2
 obtain ⟨n5,en5,ln5,cn5⟩:=elMul Dn n4 lDn ln4
 obtain ⟨n6,en6,ln6,cn6⟩:=elAdd 1 n5 (by decide) ln5
 have hq:=fun w=>eq4 w n3 n6 ln3 ln6
 have HV:Away (onB A B = (decide (A < P) && (decide (B < P) && decide (n3 = n6)))):=⟨by rw [onB,en1.out,en2.out,en3.out,en4.out,en5.out,en6.out]⟩
 obtain ⟨p,hp⟩:∃ p,decide (A < P) = p:=⟨_,rfl⟩
 obtain ⟨q,hq2⟩:∃ q,decide (B < P) = q:=⟨_,rfl⟩
 obtain ⟨r,hr⟩:∃ r,decide (n3 = n6) = r:=⟨_,rfl⟩
 have eA:decide (A % P = A) = p:=by rw [← hp,decide_eq_decide];exact ⟨fun e=>by have:=mod_lt_P A;omega,fun e=>Nat.mod_eq_of_lt e⟩
 have eB:decide (B % P = B) = q:=by rw [← hq2,decide_eq_decide];exact ⟨fun e=>by have:=mod_lt_P B;omega,fun e=>Nat.mod_eq_of_lt e⟩
 rw [eA] at hqA
 rw [eB] at hqB
 rw [hp,hq2,hr] at HV
 rw [hr] at hq
 clear hp hq2 hr eA eB
 obtain ⟨rA,erA⟩:∃ r,A % P = r:=⟨_,rfl⟩
 obtain ⟨rB,erB⟩:∃ r,B % P = r:=⟨_,rfl⟩
 rw [erA] at cA hqA
 rw [erB] at cB hqB
 clear erA erB
 go_enter Tryz.func115,Tryz.ntmps115
 go_upto_region 1 with fail
 cases p
 ·replace h:=h.drew
  refine wp_region_noPanic ?_
  refine wp_region_held_drew (S:=fun w'=>Row w' w.heap.size 44 (pc A B)) (by kernel_rfl) (h.row (i:=0) rfl) (fun _=>?_)
  refine tkg 0 rfl ?_
  simp only [Act.put,stA,st0,st1]
  refine tkL 1 (.agg (ec A).toArray) rfl (fun w hSw=>exec_load_at 32 _ rfl rfl (pc_x hSw) rfl Tryz.underlying32 (ie4 _)) ?_
  simp only [Act.put,stA,st0,st1]
  refine tkg 3 rfl ?_
  simp only [Act.put,stA,st0,st1]
  refine tkL 4 (.agg (ec A).toArray) rfl (fun w hSw=>exec_load_at 32 _ rfl rfl (pc_x hSw) rfl Tryz.underlying32 (ie4 _)) ?_
  simp only [Act.put,stA,st0,st1]
  refine ar1 2 rfl (fun K hK=>?_)
  go_simp
  refine callOK (cA _ (hP.below h.bel)) h ?_
  clear h
  rintro _ wn rfl h
  refine hK.out _ _ (h.row (i:=0) rfl) (fun _=>?_)
  clear hK K
  refine tkg 5 rfl ?_
  simp only [Act.put,stA,st0,st1]
  refine tkg 6 rfl ?_
  simp only [Act.put,stA,st0,st1]
  refine wpAnyH_skipL (i:=7) rfl (by kernel_rfl) (by kernel_rfl) (by kernel_rfl) (fun _ _ _ h=>h) (by rfl) (by assumption) ?_
  simp only [Act.put,stA,st0,st1]
  refine wpAnyH_skipL (i:=8) rfl (by kernel_rfl) (by kernel_rfl) (by kernel_rfl) (fun _ _ _ h=>h) (by rfl) (by assumption) ?_
  simp only [Act.put,stA,st0,st1]
  refine wpAnyH_skipL (i:=9) rfl (by kernel_rfl) (by kernel_rfl) (by kernel_rfl) (fun _ _ _ h=>h) (by rfl) (by assumption) ?_
  simp only [Act.put,stA,st0,st1]
  refine wpAnyH_skipL (i:=10) rfl (by kernel_rfl) (by kernel_rfl) (by kernel_rfl) (fun _ _ _ h=>h) (by rfl) (by assumption) ?_
  simp only [Act.put,stA,st0,st1]
  refine wpAnyH_skipL (i:=11) rfl (by kernel_rfl) (by kernel_rfl) (by kernel_rfl) (fun _ _ _ h=>h) (by rfl) (by assumption) ?_
  simp only [Act.put,stA,st0,st1]
  refine wpAnyH_skipL (i:=12) rfl (by kernel_rfl) (by kernel_rfl) (by kernel_rfl) (fun _ _ _ h=>h) (by rfl) (by assumption) ?_
  simp only [Act.put,stA,st0,st1]
  refine tkg 13 rfl ?_
  simp only [Act.put,stA,st0,st1]
  refine wpAnyH_done (by kernel_rfl) ?_ _
  refine NoPanic.normal ?_
  go_wp2
  go_ret
  exact ⟨by rw [HV.out];rfl,h.bel⟩
 ·cases q
  ·replace h:=h.drew
   refine wp_region_noPanic ?_
   refine wp_region_held_drew (S:=fun w'=>Row w' w.heap.size 44 (pc A B)) (by kernel_rfl) (h.row (i:=0) rfl) (fun _=>?_)
   refine tkg 0 rfl ?_
   simp only [Act.put,stA,st0,st1]
   refine tkL 1 (.agg (ec A).toArray) rfl (fun w hSw=>exec_load_at 32 _ rfl rfl (pc_x hSw) rfl Tryz.underlying32 (ie4 _)) ?_
   simp only [Act.put,stA,st0,st1]
   refine tkg 3 rfl ?_
   simp only [Act.put,stA,st0,st1]
   refine tkL 4 (.agg (ec A).toArray) rfl (fun w hSw=>exec_load_at 32 _ rfl rfl (pc_x hSw) rfl Tryz.underlying32 (ie4 _)) ?_
   simp only [Act.put,stA,st0,st1]
   refine ar1 2 rfl (fun K hK=>?_)
   go_simp
   refine callOK (cA _ (hP.below h.bel)) h ?_
   clear h
   rintro _ wn rfl h
   refine hK.out _ _ (h.row (i:=0) rfl) (fun _=>?_)
   clear hK K
   refine tkg 5 rfl ?_
   simp only [Act.put,stA,st0,st1]
   refine tkg 6 rfl ?_
   simp only [Act.put,stA,st0,st1]
   refine tkg 7 rfl ?_
   simp only [Act.put,stA,st0,st1]
   refine tkL 8 (.agg (ec B).toArray) rfl (fun w hSw=>exec_load_at 32 _ rfl rfl (pc_y hSw) rfl Tryz.underlying32 (ie4 _)) ?_
   simp only [Act.put,stA,st0,st1]
   refine tkg 10 rfl ?_
   simp only [Act.put,stA,st0,st1]
   refine tkL 11 (.agg (ec B).toArray) rfl (fun w hSw=>exec_load_at 32 _ rfl rfl (pc_y hSw) rfl Tryz.underlying32 (ie4 _)) ?_
   simp only [Act.put,stA,st0,st1]
   refine ar1 9 rfl (fun K hK=>?_)
   go_simp
   refine callOK (cB _ (hP.below h.bel)) h ?_
   clear h
   rintro _ wn rfl h
   refine hK.out _ _ (h.row (i:=0) rfl) (fun _=>?_)
   clear hK K
   refine tkg 12 rfl ?_
   simp only [Act.put,stA,st0,st1]
   refine tkg 13 rfl ?_
   simp only [Act.put,stA,st0,st1]
   refine wpAnyH_done (by kernel_rfl) ?_ _
   refine NoPanic.normal ?_
   go_wp2
   go_ret
   exact ⟨by rw [HV.out];rfl,h.bel⟩
  ·replace h:=h.drew
   refine wp_region_noPanic ?_
   refine wp_region_held_drew (S:=fun w'=>Row w' w.heap.size 44 (pc A B)) (by kernel_rfl) (h.row (i:=0) rfl) (fun _=>?_)
   refine tkg 0 rfl ?_
   simp only [Act.put,stA,st0,st1]
   refine tkL 1 (.agg (ec A).toArray) rfl (fun w hSw=>exec_load_at 32 _ rfl rfl (pc_x hSw) rfl Tryz.underlying32 (ie4 _)) ?_
   simp only [Act.put,stA,st0,st1]
   refine tkg 3 rfl ?_
   simp only [Act.put,stA,st0,st1]
   refine tkL 4 (.agg (ec A).toArray) rfl (fun w hSw=>exec_load_at 32 _ rfl rfl (pc_x hSw) rfl Tryz.underlying32 (ie4 _)) ?_
   simp only [Act.put,stA,st0,st1]
   refine ar1 2 rfl (fun K hK=>?_)
   go_simp
   refine callOK (cA _ (hP.below h.bel)) h ?_
   clear h
   rintro _ wn rfl h
   refine hK.out _ _ (h.row (i:=0) rfl) (fun _=>?_)
   clear hK K
   refine tkg 5 rfl ?_
   simp only [Act.put,stA,st0,st1]
   refine tkg 6 rfl ?_
   simp only [Act.put,stA,st0,st1]
   refine tkg 7 rfl ?_
   simp only [Act.put,stA,st0,st1]
   refine tkL 8 (.agg (ec B).toArray) rfl (fun w hSw=>exec_load_at 32 _ rfl rfl (pc_y hSw) rfl Tryz.underlying32 (ie4 _)) ?_
   simp only [Act.put,stA,st0,st1]
   refine tkg 10 rfl ?_
   simp only [Act.put,stA,st0,st1]
   refine tkL 11 (.agg (ec B).toArray) rfl (fun w hSw=>exec_load_at 32 _ rfl rfl (pc_y hSw) rfl Tryz.underlying32 (ie4 _)) ?_
   simp only [Act.put,stA,st0,st1]
   refine ar1 9 rfl (fun K hK=>?_)
   go_simp
   refine callOK (cB _ (hP.below h.bel)) h ?_
   clear h
   rintro _ wn rfl h
   refine hK.out _ _ (h.row (i:=0) rfl) (fun _=>?_)
   clear hK K
   refine tkg 12 rfl ?_
   simp only [Act.put,stA,st0,st1]
   refine tkg 13 rfl ?_
   simp only [Act.put,stA,st0,st1]
   refine wpAnyH_done (by kernel_rfl) ?_ _
   refine NoPanic.normal ?_
   go_upto_region 3 with fail
   try simp only [Act.put,stA,st0,st1]
   replace h:=h.drew
   refine wp_region_inv (by kernel_rfl) (fun a0 l b w'=>∃ (l0 l1 l2 l3 l4 l5 l6 l7 l8 l9 l10 l11 l12 l13:Bool) (g3 g4:Nat) ,l = #[l0,l1,l2,l3,l4,l5,l6,l7,l8,l9,l10,l11,l12,l13] ∧ b = putsA a0 [(19,l0,.pointer (some ⟨w.heap.size,0,none⟩),undef),(20,l1,.agg (ec A).toArray,undef),(21,l2,.pointer (some ⟨w.heap.size,0,none⟩),undef),(22,l3,.agg (ec A).toArray,undef),(23,l4,.agg (ec n1).toArray,undef),(24,l5,.pointer (some ⟨w.heap.size,4,none⟩),undef),(25,l6,.agg (ec B).toArray,undef),(26,l7,.pointer (some ⟨w.heap.size,4,none⟩),undef),(27,l8,.agg (ec B).toArray,undef),(28,l9,.agg (ec n2).toArray,undef),(3,l10,.pointer (some ⟨g3,0,none⟩),undef),(4,l11,.pointer (some ⟨g4,0,none⟩),undef)] ∧ Fr w w' (opt [(true,(w.heap.size,44,pc A B)),(l10,(g3,32,bif l12 then ec n1 else ec 0)),(l11,(g4,32,bif l13 then ec n2 else ec 0))]) ∧ (l12 = true → l10 = true) ∧ (l13 = true → l11 = true)) ?start ?step ?rest
   case start=>exact ⟨false,false,false,false,false,false,false,false,false,false,false,false,false,false,0,0,by kernel_rfl,by kernel_rfl,h,(fun e=>by cases e),(fun e=>by cases e)⟩
   case step =>
    clear h
    intro l b w' hI i hi
    obtain ⟨l0,l1,l2,l3,l4,l5,l6,l7,l8,l9,l10,l11,l12,l13,g3,g4,rfl,rfl,h,hc12,hc13⟩:=hI
    have hlt:i < 14:=ready_lt hi
    obtain rfl | rfl | rfl | rfl | rfl | rfl | rfl | rfl | rfl | rfl | rfl | rfl | rfl | rfl:=(by omega:i = 0 ∨ i = 1 ∨ i = 2 ∨ i = 3 ∨ i = 4 ∨ i = 5 ∨ i = 6 ∨ i = 7 ∨ i = 8 ∨ i = 9 ∨ i = 10 ∨ i = 11 ∨ i = 12 ∨ i = 13)
    all_goals (obtain ⟨hn,hd⟩:=rin hi rfl;cases hn;(repeat (obtain ⟨hn,hd⟩:=hd;cases hn));clear hi hlt hd;refine wpOp_inv rfl rfl (fun K hK=>?_);simp only [putsA,Act.put,stA,st0,st1,cond_true,cond_false] at h ⊢)
    ·refine wp_value (.pointer (some ⟨w.heap.size,0,none⟩)) (by go_simp) ?_
     refine hK.out _ _ ⟨_,_,_,_,_,_,_,_,_,_,_,_,_,_,_,_,rfl,by kernel_rfl,h,?_,?_⟩ <;> first | assumption | exact fun _=>rfl | exact nofun
    ·refine wp_value (.agg (ec A).toArray) (exec_load_at 32 _ rfl rfl (pc_x (h.rowo (k:=0) rfl)) rfl Tryz.underlying32 (ie4 _)) ?_
     refine hK.out _ _ ⟨_,_,_,_,_,_,_,_,_,_,_,_,_,_,_,_,rfl,by kernel_rfl,h,?_,?_⟩ <;> first | assumption | exact fun _=>rfl | exact nofun
    ·refine wp_value (.pointer (some ⟨w.heap.size,0,none⟩)) (by go_simp) ?_
     refine hK.out _ _ ⟨_,_,_,_,_,_,_,_,_,_,_,_,_,_,_,_,rfl,by kernel_rfl,h,?_,?_⟩ <;> first | assumption | exact fun _=>rfl | exact nofun
    ·refine wp_value (.agg (ec A).toArray) (exec_load_at 32 _ rfl rfl (pc_x (h.rowo (k:=0) rfl)) rfl Tryz.underlying32 (ie4 _)) ?_
     refine hK.out _ _ ⟨_,_,_,_,_,_,_,_,_,_,_,_,_,_,_,_,rfl,by kernel_rfl,h,?_,?_⟩ <;> first | assumption | exact fun _=>rfl | exact nofun
    ·go_simp
     refine callOK (cn1 _ (hP.below h.bel)) h ?_
     clear h
     rintro _ wn rfl h
     refine hK.out _ _ ⟨_,_,_,_,_,_,_,_,_,_,_,_,_,_,_,_,rfl,by kernel_rfl,h,?_,?_⟩ <;> first | assumption | exact fun _=>rfl | exact nofun
    ·refine wp_value (.pointer (some ⟨w.heap.size,4,none⟩)) (by go_simp) ?_
     refine hK.out _ _ ⟨_,_,_,_,_,_,_,_,_,_,_,_,_,_,_,_,rfl,by kernel_rfl,h,?_,?_⟩ <;> first | assumption | exact fun _=>rfl | exact nofun
    ·refine wp_value (.agg (ec B).toArray) (exec_load_at 32 _ rfl rfl (pc_y (h.rowo (k:=0) rfl)) rfl Tryz.underlying32 (ie4 _)) ?_
     refine hK.out _ _ ⟨_,_,_,_,_,_,_,_,_,_,_,_,_,_,_,_,rfl,by kernel_rfl,h,?_,?_⟩ <;> first | assumption | exact fun _=>rfl | exact nofun
    ·refine wp_value (.pointer (some ⟨w.heap.size,4,none⟩)) (by go_simp) ?_
     refine hK.out _ _ ⟨_,_,_,_,_,_,_,_,_,_,_,_,_,_,_,_,rfl,by kernel_rfl,h,?_,?_⟩ <;> first | assumption | exact fun _=>rfl | exact nofun
    ·refine wp_value (.agg (ec B).toArray) (exec_load_at 32 _ rfl rfl (pc_y (h.rowo (k:=0) rfl)) rfl Tryz.underlying32 (ie4 _)) ?_
     refine hK.out _ _ ⟨_,_,_,_,_,_,_,_,_,_,_,_,_,_,_,_,rfl,by kernel_rfl,h,?_,?_⟩ <;> first | assumption | exact fun _=>rfl | exact nofun
    ·go_simp
     refine callOK (cn2 _ (hP.below h.bel)) h ?_
     clear h
     rintro _ wn rfl h
     refine hK.out _ _ ⟨_,_,_,_,_,_,_,_,_,_,_,_,_,_,_,_,rfl,by kernel_rfl,h,?_,?_⟩ <;> first | assumption | exact fun _=>rfl | exact nofun
    ·obtain rfl:l12 = false:=by cases l12 with | false=>rfl | true=>exact absurd (hc12 rfl) (by decide)
     simp only [cond_false] at h ⊢
     refine wp_alloc_R 32 rfl (ec 0) z4w ?_
     obtain ⟨gn,hgq,hq⟩:=h.on (k:=1) rfl 32 (ec 0)
     rw [hgq]
     refine hK.out _ _ ⟨_,_,_,_,_,_,_,_,_,_,_,_,_,_,_,_,rfl,by kernel_rfl,hq,?_,?_⟩ <;> first | assumption | exact fun _=>rfl | exact nofun
    ·obtain rfl:l13 = false:=by cases l13 with | false=>rfl | true=>exact absurd (hc13 rfl) (by decide)
     simp only [cond_false] at h ⊢
     refine wp_alloc_R 32 rfl (ec 0) z4w ?_
     obtain ⟨gn,hgq,hq⟩:=h.on (k:=2) rfl 32 (ec 0)
     rw [hgq]
     refine hK.out _ _ ⟨_,_,_,_,_,_,_,_,_,_,_,_,_,_,_,_,rfl,by kernel_rfl,hq,?_,?_⟩ <;> first | assumption | exact fun _=>rfl | exact nofun
    ·refine wp_store_R 32 _ _ rfl _ (ec n1) rfl rfl (h.rowo (k:=1) rfl) (ie4 _) rfl (ec_all _) ?_
     intro wz q hg hz
     replace h:=h.puto (k:=1) rfl q hg
     refine hK.out _ _ ⟨_,_,_,_,_,_,_,_,_,_,_,_,_,_,_,_,rfl,by kernel_rfl,h,?_,?_⟩ <;> first | assumption | exact fun _=>rfl | exact nofun
    ·refine wp_store_R 32 _ _ rfl _ (ec n2) rfl rfl (h.rowo (k:=2) rfl) (ie4 _) rfl (ec_all _) ?_
     intro wz q hg hz
     replace h:=h.puto (k:=2) rfl q hg
     refine hK.out _ _ ⟨_,_,_,_,_,_,_,_,_,_,_,_,_,_,_,_,rfl,by kernel_rfl,h,?_,?_⟩ <;> first | assumption | exact fun _=>rfl | exact nofun
   case rest =>
    clear h
    intro l b w' hI hr
    obtain ⟨l0,l1,l2,l3,l4,l5,l6,l7,l8,l9,l10,l11,l12,l13,g3,g4,rfl,rfl,h,hc12,hc13⟩:=hI
    cases rall hr rfl (by rfl)
    clear hr hc12 hc13
    simp only [putsA,Act.put,stA,st0,st1,cond_true]
    replace h:Fr w w' [(w.heap.size,44,pc A B),(g3,32,ec n1),(g4,32,ec n2)]:=h
    go_upto_region 4 with fail
    try simp only [Act.put,stA,st0,st1]
    replace h:=h.drew
    refine wp_region_noPanic ?_
    refine wp_region_held_drew (S:=fun w'=>Row w' g4 32 (ec n2) ∧ Row w' g3 32 (ec n1) ∧ GlobC w' 4 (ec Dn)) (by kernel_rfl) ⟨h.row (i:=2) rfl,h.row (i:=1) rfl,(hE.below h.bel).d.c⟩ (fun _=>?_)
    refine tkL 0 (.agg (ec n2).toArray) rfl (fun w hSw=>exec_load_W 32 _ rfl rfl hSw.1 Tryz.underlying32 rfl (ie4 _)) ?_
    simp only [Act.put,stA,st0,st1]
    refine tkL 1 (.agg (ec n1).toArray) rfl (fun w hSw=>exec_load_W 32 _ rfl rfl hSw.2.1 Tryz.underlying32 rfl (ie4 _)) ?_
    simp only [Act.put,stA,st0,st1]
    refine tkL 4 (.agg (ec Dn).toArray) rfl (fun w hSw=>exec_load_G 32 _ rfl rfl hSw.2.2 Tryz.underlying32 rfl (ie4 _)) ?_
    simp only [Act.put,stA,st0,st1]
    refine tkL 5 (.agg (ec n1).toArray) rfl (fun w hSw=>exec_load_W 32 _ rfl rfl hSw.2.1 Tryz.underlying32 rfl (ie4 _)) ?_
    simp only [Act.put,stA,st0,st1]
    refine tkL 6 (.agg (ec n2).toArray) rfl (fun w hSw=>exec_load_W 32 _ rfl rfl hSw.1 Tryz.underlying32 rfl (ie4 _)) ?_
    simp only [Act.put,stA,st0,st1]
    refine ar1 2 rfl (fun K hK=>?_)
    go_simp
    refine callOK (cn3 _ (hP.below h.bel)) h ?_
    clear h
    rintro _ wn rfl h
    refine hK.out _ _ ⟨h.row (i:=2) rfl,h.row (i:=1) rfl,(hE.below h.bel).d.c⟩ (fun _=>?_)
    clear hK K
    refine ar1 3 rfl (fun K hK=>?_)
    go_simp
    refine callOK (from1 _) h ?_
    clear h
    rintro _ wn rfl h
    refine hK.out _ _ ⟨h.row (i:=2) rfl,h.row (i:=1) rfl,(hE.below h.bel).d.c⟩ (fun _=>?_)
    clear hK K
    refine ar1 7 rfl (fun K hK=>?_)
    go_simp
    refine callOK (cn4 _ (hP.below h.bel)) h ?_
    clear h
    rintro _ wn rfl h
    refine hK.out _ _ ⟨h.row (i:=2) rfl,h.row (i:=1) rfl,(hE.below h.bel).d.c⟩ (fun _=>?_)
    clear hK K
    refine ar1 8 rfl (fun K hK=>?_)
    go_simp
    refine callOK (cn5 _ (hP.below h.bel)) h ?_
    clear h
    rintro _ wn rfl h
    refine hK.out _ _ ⟨h.row (i:=2) rfl,h.row (i:=1) rfl,(hE.below h.bel).d.c⟩ (fun _=>?_)
    clear hK K
    refine ar1 9 rfl (fun K hK=>?_)
    go_simp
    refine callOK (cn6 _ (hP.below h.bel)) h ?_
    clear h
    rintro _ wn rfl h
    refine hK.out _ _ ⟨h.row (i:=2) rfl,h.row (i:=1) rfl,(hE.below h.bel).d.c⟩ (fun _=>?_)
    clear hK K
    refine tkg 10 rfl ?_
    simp only [Act.put,stA,st0,st1]
    refine tkg 11 rfl ?_
    simp only [Act.put,stA,st0,st1]
    refine wpAnyH_done (by kernel_rfl) ?_ _
    refine NoPanic.normal ?_
    go_wp2
    go_ret
    exact ⟨by rw [HV.out];rfl,h.bel⟩
theorem counted_any (A B:Nat) (lA:A < 115792089237316195423570985008687907853269984665640564039457584007913129639936) (lB:B < 115792089237316195423570985008687907853269984665640564039457584007913129639936) (w:World) (hE:TE w):Calls Tryz.prog 73 #[.agg (pc A B).toArray] w fun e w'=>e = .returned (.agg (pv (ownP A B)).toArray) ∧ Below w.heap.size w w':=by
 obtain ⟨w2,h2,h⟩:=Fr.two w 44 44 (pc A B) (pc 0 0)
 have c1:=on_any A B lA lB
 have HV:=Away.mk (pv_own A B)
 obtain ⟨b,hb⟩:∃ b,onB A B = b:=⟨_,rfl⟩
 rw [hb] at c1 HV
 clear hb
 go_enter Tryz.func73,Tryz.ntmps73
 go_upto_region 1 with (refine wpList_alloc_row rfl 44 rfl _ zPw ?_)
 try simp only [Act.put,stA,st0,st1,alloc_size,h2]
 clear h2
 go_wp2_with (refine wpList_load_row rfl 44 _ rfl _ rfl _ _ _ _ (h.row (i:=0) rfl) Tryz.underlying44 rfl (iP _ _) ?_)
 refine (c1 _ (hE.below h.bel)).mono ?_
 rintro _ wn ⟨rfl,hb⟩
 replace h:=h.below hb
 clear hb c1
 cases b
 ·go_wp2_with fail
  refine (zero_el _).mono ?_
  rintro _ wn ⟨rfl,hb⟩
  replace h:=h.below hb
  clear hb
  go_wp2_with (refine wpList_store_R rfl 44 _ _ rfl _ (pc 0 1) rfl rfl (h.row (i:=1) rfl) (iP _ _) rfl (pc_all _ _) ?_;intro wz q hg hz)
  replace h:Fr w wz [(w.heap.size,44,pc A B),(w.heap.size + 1,44,pc 0 1)]:=h.put (i:=1) rfl q hg
  exact result_row Tryz.results73 rfl (h.row (i:=1) rfl) Tryz.underlying44 rfl (iP _ _) rfl ⟨by rw [HV.out];rfl,h.bel⟩
 ·go_wp2_with (first | refine wpList_load_row rfl 44 _ rfl _ rfl _ _ _ _ (h.row (i:=0) rfl) Tryz.underlying44 rfl (iP _ _) ?_ | (refine wpList_store_R rfl 44 _ _ rfl _ (pc A B) rfl rfl (h.row (i:=1) rfl) (iP _ _) rfl (pc_all _ _) ?_;intro wz q hg hz))
  replace h:Fr w wz [(w.heap.size,44,pc A B),(w.heap.size + 1,44,pc A B)]:=h.put (i:=1) rfl q hg
  exact result_row Tryz.results73 rfl (h.row (i:=1) rfl) Tryz.underlying44 rfl (iP _ _) rfl ⟨by rw [HV.out];rfl,h.bel⟩
theorem counted_let (A B:Nat) (lA:A < 115792089237316195423570985008687907853269984665640564039457584007913129639936) (lB:B < 115792089237316195423570985008687907853269984665640564039457584007913129639936):∃ X Y,(ownP A B).x.val = X ∧ (ownP A B).y.val = Y ∧ X < 115792089237316195423570985008687907853269984665640564039457584007913129639936 ∧ Y < 115792089237316195423570985008687907853269984665640564039457584007913129639936 ∧ z X = (ownP A B).x ∧ z Y = (ownP A B).y ∧ ∀ (w:World),TE w → Calls Tryz.prog 73 #[.agg (pc A B).toArray] w fun e w'=>e = .returned (.agg (pc X Y).toArray) ∧ Below w.heap.size w w' :=
 ⟨_,_,rfl,rfl,ptx_lt _,pty_lt _,z_of _,z_of _,fun w hE=>counted_any A B lA lB w hE⟩
end Go.Proofs.YtmjimilhomabfaaGreatDoor.F
