/-
 Texts joined:  EdP EdA EdQ EdB
-/
import Derived.Test.YtmjimilhomabfaaGreatDoorK14
import Derived.Test.YtmjimilhomabfaaGreatDoorF13d
import Derived.Test.YtmjimilhomabfaaGreatDoorM13
namespace Go.Proofs.YtmjimilhomabfaaGreatDoor.F
open Go.RowKit
set_option linter.unusedVariables false
set_option maxRecDepth 10000
abbrev ec (A:Nat):List Value:=C .u64 (wds A)
def pc (A B:Nat):List Value:=ec A ++ ec B
def fc (A B K:Nat):List Value:=ec A ++ (ec B ++ ec K)
theorem pc_length (A B:Nat):(pc A B).length = 8:=rfl
theorem fc_length (A B K:Nat):(fc A B K).length = 12:=rfl
theorem ec_all (A:Nat):(ec A).all (·.oneCell') = true:=C_allL _ _
theorem pc_all (A B:Nat):(pc A B).all (·.oneCell') = true:=by unfold pc;rw [List.all_append,ec_all,ec_all];rfl
theorem fc_all (A B K:Nat):(fc A B K).all (·.oneCell') = true:=by unfold fc;rw [List.all_append,List.all_append,ec_all,ec_all,ec_all];rfl
theorem z4w (w:World):(zeroValue 32).run Tryz.prog w = .ok (.agg (ec 0).toArray) w:=by kernel_rfl
theorem zPw (w:World):(zeroValue 44).run Tryz.prog w = .ok (.agg (pc 0 0).toArray) w:=by kernel_rfl
theorem iP (A B:Nat):(Tryz.prog.info? 44).map (·.size) = some (pc A B).length:=by rw [pc_length];kernel_rfl
theorem bPt1 (B:Nat):Tryz.prog.built 44 [(1,.agg (ec B).toArray)] = some (pc 0 B).toArray:=by kernel_rfl
theorem zFw (w:World):(zeroValue 63).run Tryz.prog w = .ok (.agg (fc 0 0 0).toArray) w:=by kernel_rfl
theorem iF (A B K:Nat):(Tryz.prog.info? 63).map (·.size) = some (fc A B K).length:=by rw [fc_length];kernel_rfl
theorem bFr1 (B K:Nat):Tryz.prog.built 63 [(1,.agg (ec B).toArray),(2,.agg (ec K).toArray)] = some (fc 0 B K).toArray:=by kernel_rfl
theorem pc_x {w:World} {g:Nat} {t:TypeId} {A B:Nat} (h:Row w g t (pc A B)):Row w g t ([] ++ (ec A ++ ec B)):=h
theorem pc_y {w:World} {g:Nat} {t:TypeId} {A B:Nat} (h:Row w g t (pc A B)):Row w g t (ec A ++ (ec B ++ [])):=by rw [List.append_nil];exact h
theorem fc_x {w:World} {g:Nat} {t:TypeId} {A B K:Nat} (h:Row w g t (fc A B K)):Row w g t ([] ++ (ec A ++ (ec B ++ ec K))):=h
theorem fc_y {w:World} {g:Nat} {t:TypeId} {A B K:Nat} (h:Row w g t (fc A B K)):Row w g t (ec A ++ (ec B ++ ec K)):=h
theorem fc_z {w:World} {g:Nat} {t:TypeId} {A B K:Nat} (h:Row w g t (fc A B K)):Row w g t ((ec A ++ ec B) ++ (ec K ++ [])):=by rw [List.append_nil,List.append_assoc];exact h
theorem exec_load_W {P:Program} {w:World} {o:Oper} {ev:Operand → Value} (ty:TypeId) (x:Operand) (ho:o.op = .load ty x) {g:Nat} (hx:ev x = .pointer (some ⟨g,0,none⟩)) {e:TypeId} {us:List Value} (hg:Row w g e us) {d:TypeDesc}
  (hu:P.underlying ty = some d) (hd:(match d with | .struct _ | .array _ _=>true | _=>false) = true) (hi:(P.info? ty).map (·.size) = some us.length):(execOp ev o).run P w = .ok (.value (.agg us.toArray)) w:=by
 have h:=run_loadVar_row (P:=P) w g e ty us.toArray (0,0) _ hg hu hd (by simpa using hi)
 unfold execOp
 simp only [ho,hx,Instr.loadAt,Instr.sureAddr,Sem.run_bind,Sem.run_pure,Result.andThen_ok,h]
theorem exec_build_C {P:Program} {w:World} {o:Oper} {ev:Operand → Value} (t:TypeId) (parts:Array (Nat × Operand)) (ho:o.op = .build t parts) (us:List Value)
  (hz:P.built t (parts.map fun (i,x)=>(i,ev x)).toList = some us.toArray):(execOp ev o).run P w = .ok (.value (.agg us.toArray)) w:=by
 unfold execOp
 simp only [ho,Sem.run_bind,run_build w t _ us.toArray hz,Result.andThen_ok]
 rfl
theorem wpAnyH_skipL {P:Program} {L:List Oper} {Q:Exit → Act → World → Prop} {md:Region.Mode} {S:World → Prop} {i:Nat} {oi:Oper} {fuel:Nat} {listed:Array Bool} {a:Act} {w:World} (hi:L[i]? = some oi)
  (hs:Region.noSelect L.toArray = true) (hf:Region.free md L.toArray listed i = true) (hr:(Region.ready md L.toArray listed).contains i = true)
  (hQ:∀ c a w,Q (.panic c) (a.put oi.dst undef) w → Q (.panic c) a w) (hw:Region.wanted oi (yielded L.toArray a.tmps) = false) (hS:S w)
  (h:wpAnyH P md L.toArray Q S fuel (listed.setIfInBounds i true) (a.put oi.dst undef) w):wpAnyH P md L.toArray Q S (fuel + 1) listed a w :=
 wpAnyH_take (getL hi) hs hf hr hQ (.inr ⟨hw,rfl⟩) hS h
theorem erMul (A B:Nat) (lA:A < 115792089237316195423570985008687907853269984665640564039457584007913129639936) (lB:B < 115792089237316195423570985008687907853269984665640564039457584007913129639936):∃ n,Away (A * B % P = n) ∧ n < 115792089237316195423570985008687907853269984665640564039457584007913129639936 ∧ ∀ (w:World),Calls Tryz.prog 50 #[.agg (ec A).toArray,.agg (ec B).toArray] w fun e w'=>e = .returned (.agg (ec n).toArray) ∧ Below w.heap.size w w':=⟨_,⟨rfl⟩,mod_lt_T _,fun w=>frefmul_el A B lA lB w⟩
theorem erAdd (A B:Nat) (lA:A < 115792089237316195423570985008687907853269984665640564039457584007913129639936) (lB:B < 115792089237316195423570985008687907853269984665640564039457584007913129639936):∃ n,Away ((A + B) % P = n) ∧ n < 115792089237316195423570985008687907853269984665640564039457584007913129639936 ∧ ∀ (w:World),Calls Tryz.prog 82 #[.agg (ec A).toArray,.agg (ec B).toArray] w fun e w'=>e = .returned (.agg (ec n).toArray) ∧ Below w.heap.size w w':=⟨_,⟨rfl⟩,mod_lt_T _,fun w=>frefadd_el A B lA lB w⟩
theorem erSub (A B:Nat) (lA:A < 115792089237316195423570985008687907853269984665640564039457584007913129639936) (lB:B < 115792089237316195423570985008687907853269984665640564039457584007913129639936):∃ n,Away ((A % P + (P - B % P)) % P = n) ∧ n < 115792089237316195423570985008687907853269984665640564039457584007913129639936 ∧ ∀ (w:World),Calls Tryz.prog 81 #[.agg (ec A).toArray,.agg (ec B).toArray] w fun e w'=>e = .returned (.agg (ec n).toArray) ∧ Below w.heap.size w w':=⟨_,⟨rfl⟩,mod_lt_T _,fun w=>frefsub_el A B lA lB w⟩
theorem erInv (A:Nat) (lA:A < 115792089237316195423570985008687907853269984665640564039457584007913129639936):∃ n,Away (A ^ (P - 2) % P = n) ∧ n < 115792089237316195423570985008687907853269984665640564039457584007913129639936 ∧ ∀ (w:World),Calls Tryz.prog 49 #[.agg (ec A).toArray] w fun e w'=>e = .returned (.agg (ec n).toArray) ∧ Below w.heap.size w w':=⟨_,⟨rfl⟩,mod_lt_T _,fun w=>frefinv_el A lA w⟩
def Dn:Nat:=37095705934669439343138083508754565189542113879843219016388785533085940283555
theorem lDn:Dn < 115792089237316195423570985008687907853269984665640564039457584007913129639936:=by decide
theorem bDn:Tryz.prog.built 32 [(0,.int .u64 8496970652267935907),(1,.int .u64 31536524315187371),(2,.int .u64 10144147576115030168),(3,.int .u64 5909686906226998899)] = some (ec Dn).toArray:=by kernel_rfl
theorem d13_any (w:World):Calls Tryz.prog 83 #[] w fun e w'=>e = .returned (.agg (ec Dn).toArray) ∧ Below w.heap.size w w':=by
 have h:=Fr.one w 32 (ec 0)
 go_enter Tryz.func83,Tryz.ntmps83
 go_wp2_with (first | refine wpList_alloc_row rfl 32 rfl _ z4w ?_ | refine wpList_build_C rfl 32 _ rfl _ bDn ?_ | (refine wpList_store_R rfl 32 _ _ rfl _ (ec Dn) rfl rfl (h.row (i:=0) rfl) (ie4 _) rfl (ec_all _) ?_;intro wz q hg hz))
 replace h:Fr w wz [(w.heap.size,32,ec Dn)]:=h.put (i:=0) rfl q hg
 exact result_row Tryz.results83 rfl (h.row (i:=0) rfl) Tryz.underlying32 rfl (ie4 _) rfl ⟨rfl,h.bel⟩
theorem zero13_any (w:World):Calls Tryz.prog 85 #[] w fun e w'=>e = .returned (.agg (pc 0 1).toArray) ∧ Below w.heap.size w w':=by
 have h:=Fr.one w 44 (pc 0 0)
 go_enter Tryz.func85,Tryz.ntmps85
 go_wp2_with (first | refine wpList_alloc_row rfl 44 rfl _ zPw ?_ | refine wpList_build_C rfl 32 _ rfl _ (show Tryz.prog.built 32 [(0,.int .u64 1)] = some (ec 1).toArray by kernel_rfl) ?_ | refine wpList_build_C rfl 44 _ rfl _ (bPt1 1) ?_ | (refine wpList_store_R rfl 44 _ _ rfl _ (pc 0 1) rfl rfl (h.row (i:=0) rfl) (iP _ _) rfl (pc_all _ _) ?_;intro wz q hg hz))
 replace h:Fr w wz [(w.heap.size,44,pc 0 1)]:=h.put (i:=0) rfl q hg
 exact result_row Tryz.results85 rfl (h.row (i:=0) rfl) Tryz.underlying44 rfl (iP _ _) rfl ⟨rfl,h.bel⟩
theorem below13_any (A:Nat) (hA:A < 115792089237316195423570985008687907853269984665640564039457584007913129639936) (w:World):Calls Tryz.prog 119 #[.agg (ec A).toArray] w fun e w'=>e = .returned (.bool (decide (A < P))) ∧ Below w.heap.size w w':=by
 have h:=Fr.one w 32 (ec A)
 have c1:=fun w=>refreduce_el A hA w
 have hq:=fun w=>eq4 w (A % P) A (mod_lt_T _) hA
 obtain ⟨ov,hov⟩:∃ ov,decide (A < P) = ov:=⟨_,rfl⟩
 rw [show decide (A % P = A) = ov by rw [← hov,decide_eq_decide];exact ⟨fun e=>by have:=mod_lt_P A;omega,fun e=>Nat.mod_eq_of_lt e⟩] at hq
 rw [hov]
 clear hov
 generalize A % P = R at *
 go_enter Tryz.func119,Tryz.ntmps119
 go_upto_region 1 with fail
 replace h:=h.drew
 refine wp_region_noPanic ?_
 refine wp_region_held_drew (S:=fun w'=>Row w' w.heap.size 32 (ec A)) (by kernel_rfl) (h.row (i:=0) rfl) (fun _=>?_)
 refine tkL 0 (.agg (ec A).toArray) rfl (fun w hSw=>exec_load_W 32 _ rfl rfl hSw Tryz.underlying32 rfl (ie4 _)) ?_
 simp only [Act.put,stA,st0,st1]
 refine tkL 2 (.agg (ec A).toArray) rfl (fun w hSw=>exec_load_W 32 _ rfl rfl hSw Tryz.underlying32 rfl (ie4 _)) ?_
 simp only [Act.put,stA,st0,st1]
 refine ar1 1 rfl (fun K hK=>?_)
 go_simp
 refine callOK (c1 _) h ?_
 clear h
 rintro _ wn rfl h
 refine hK.out _ _ (h.row (i:=0) rfl) (fun _=>?_)
 clear hK K
 refine tkg 3 rfl ?_
 simp only [Act.put,stA,st0,st1]
 refine tkg 4 rfl ?_
 simp only [Act.put,stA,st0,st1]
 refine wpAnyH_done (by kernel_rfl) ?_ _
 refine NoPanic.normal ?_
 go_wp2
 go_ret
 exact ⟨rfl,h.bel⟩
def onB (A B:Nat):Bool:=decide (A < P) && (decide (B < P) && decide ((B * B % P % P + (P - A * A % P % P)) % P = (1 + Dn * (A * A % P * (B * B % P) % P) % P) % P))
set_option maxHeartbeats 4000000 in
theorem on13_any (A B:Nat) (lA:A < 115792089237316195423570985008687907853269984665640564039457584007913129639936) (lB:B < 115792089237316195423570985008687907853269984665640564039457584007913129639936) (w:World):Calls Tryz.prog 91 #[.agg (pc A B).toArray] w fun e w'=>e = .returned (.bool (onB A B)) ∧ Below w.heap.size w w':=by
 have h:=Fr.one w 44 (pc A B)
 have bA:=fun w=>below13_any A lA w
 have bB:=fun w=>below13_any B lB w
 obtain ⟨n1,en1,ln1,cn1⟩:=erMul A A lA lA
 obtain ⟨n2,en2,ln2,cn2⟩:=erMul B B lB lB
 obtain ⟨n3,en3,ln3,cn3⟩:=erMul n1 n2 ln1 ln2
 obtain ⟨n4,en4,ln4,cn4⟩:=erMul Dn n3 lDn ln3
 obtain ⟨n5,en5,ln5,cn5⟩:=erAdd 1 n4 (by decide) ln4
 obtain ⟨n6,en6,ln6,cn6⟩:=erSub n2 n1 ln2 ln1
 have hq:=fun w=>eq4 w n6 n5 ln6 ln5
 have HV:Away (onB A B = (decide (A < P) && (decide (B < P) && decide (n6 = n5)))):=⟨by rw [onB,en1.out,en2.out,en3.out,en4.out,en5.out,en6.out]⟩
 obtain ⟨p,hp⟩:∃ p,decide (A < P) = p:=⟨_,rfl⟩
 obtain ⟨q,hq2⟩:∃ q,decide (B < P) = q:=⟨_,rfl⟩
 obtain ⟨r,hr⟩:∃ r,decide (n6 = n5) = r:=⟨_,rfl⟩
 rw [hp] at bA HV
 rw [hq2] at bB HV
 rw [hr] at hq HV
 clear hp hq2 hr
 go_enter Tryz.func91,Tryz.ntmps91
 go_upto_region 1 with fail
 replace h:=h.drew
 refine wp_region_inv (by kernel_rfl) (fun a0 l b w'=>∃ (l0 l1 l2 l3 l4 l5 l6 l7 l8 l9 l10 l11 l12 l13:Bool) (g3 g4:Nat) ,l = #[l0,l1,l2,l3,l4,l5,l6,l7,l8,l9,l10,l11,l12,l13] ∧ b = putsA a0 [(6,l0,.pointer (some ⟨w.heap.size,0,none⟩),undef),(7,l1,.agg (ec A).toArray,undef),(8,l2,.pointer (some ⟨w.heap.size,0,none⟩),undef),(9,l3,.agg (ec A).toArray,undef),(10,l4,.agg (ec n1).toArray,undef),(11,l5,.pointer (some ⟨w.heap.size,4,none⟩),undef),(12,l6,.agg (ec B).toArray,undef),(13,l7,.pointer (some ⟨w.heap.size,4,none⟩),undef),(14,l8,.agg (ec B).toArray,undef),(15,l9,.agg (ec n2).toArray,undef),(3,l10,.pointer (some ⟨g3,0,none⟩),undef),(4,l11,.pointer (some ⟨g4,0,none⟩),undef)] ∧ Fr w w' (opt [(true,(w.heap.size,44,pc A B)),(l10,(g3,32,bif l12 then ec n1 else ec 0)),(l11,(g4,32,bif l13 then ec n2 else ec 0))]) ∧ (l12 = true → l10 = true) ∧ (l13 = true → l11 = true)) ?start ?step ?rest
 case start=>exact ⟨false,false,false,false,false,false,false,false,false,false,false,false,false,false,0,0,by kernel_rfl,by kernel_rfl,h,(fun e=>by cases e),(fun e=>by cases e)⟩
 case step =>
  clear h
  intro l b w' hI i hi
  obtain ⟨l0,l1,l2,l3,l4,l5,l6,l7,l8,l9,l10,l11,l12,l13,g3,g4,rfl,rfl,h,hc12,hc13⟩:=hI
  have hlt:i < 14:=ready_lt hi
  obtain rfl | rfl | rfl | rfl | rfl | rfl | rfl | rfl | rfl | rfl | rfl | rfl | rfl | rfl:=(by omega:i = 0 ∨ i = 1 ∨ i = 2 ∨ i = 3 ∨ i = 4 ∨ i = 5 ∨ i = 6 ∨ i = 7 ∨ i = 8 ∨ i = 9 ∨ i = 10 ∨ i = 11 ∨ i = 12 ∨ i = 13)
  all_goals (obtain ⟨hn,hd⟩:=rin hi rfl;cases hn;(repeat (obtain ⟨hn,hd⟩:=hd;cases hn));clear hi hlt hd;refine wpOp_inv rfl rfl (fun K hK=>?_);simp only [putsA,Act.put,stA,st0,st1,cond_true,cond_false] at h ⊢)
  ·refine wp_value (.pointer (some ⟨w.heap.size,0,none⟩)) (by go_simp) ?_
   refine hK.out _ _ ⟨_,_,_,_,_,_,_,_,_,_,_,_,_,_,_,_,rfl,by kernel_rfl,h,?_,?_⟩ <;> first | assumption | exact fun _=>rfl | exact nofun
  ·refine wp_value (.agg (ec A).toArray) (exec_load_at 32 _ rfl rfl (pc_x (h.rowo (k:=0) rfl)) rfl Tryz.underlying32 (ie4 _)) ?_
   refine hK.out _ _ ⟨_,_,_,_,_,_,_,_,_,_,_,_,_,_,_,_,rfl,by kernel_rfl,h,?_,?_⟩ <;> first | assumption | exact fun _=>rfl | exact nofun
  ·refine wp_value (.pointer (some ⟨w.heap.size,0,none⟩)) (by go_simp) ?_
   refine hK.out _ _ ⟨_,_,_,_,_,_,_,_,_,_,_,_,_,_,_,_,rfl,by kernel_rfl,h,?_,?_⟩ <;> first | assumption | exact fun _=>rfl | exact nofun
  ·refine wp_value (.agg (ec A).toArray) (exec_load_at 32 _ rfl rfl (pc_x (h.rowo (k:=0) rfl)) rfl Tryz.underlying32 (ie4 _)) ?_
   refine hK.out _ _ ⟨_,_,_,_,_,_,_,_,_,_,_,_,_,_,_,_,rfl,by kernel_rfl,h,?_,?_⟩ <;> first | assumption | exact fun _=>rfl | exact nofun
  ·go_simp
   refine callOK (cn1 _) h ?_
   clear h
   rintro _ wn rfl h
   refine hK.out _ _ ⟨_,_,_,_,_,_,_,_,_,_,_,_,_,_,_,_,rfl,by kernel_rfl,h,?_,?_⟩ <;> first | assumption | exact fun _=>rfl | exact nofun
  ·refine wp_value (.pointer (some ⟨w.heap.size,4,none⟩)) (by go_simp) ?_
   refine hK.out _ _ ⟨_,_,_,_,_,_,_,_,_,_,_,_,_,_,_,_,rfl,by kernel_rfl,h,?_,?_⟩ <;> first | assumption | exact fun _=>rfl | exact nofun
  ·refine wp_value (.agg (ec B).toArray) (exec_load_at 32 _ rfl rfl (pc_y (h.rowo (k:=0) rfl)) rfl Tryz.underlying32 (ie4 _)) ?_
   refine hK.out _ _ ⟨_,_,_,_,_,_,_,_,_,_,_,_,_,_,_,_,rfl,by kernel_rfl,h,?_,?_⟩ <;> first | assumption | exact fun _=>rfl | exact nofun
  ·refine wp_value (.pointer (some ⟨w.heap.size,4,none⟩)) (by go_simp) ?_
   refine hK.out _ _ ⟨_,_,_,_,_,_,_,_,_,_,_,_,_,_,_,_,rfl,by kernel_rfl,h,?_,?_⟩ <;> first | assumption | exact fun _=>rfl | exact nofun
  ·refine wp_value (.agg (ec B).toArray) (exec_load_at 32 _ rfl rfl (pc_y (h.rowo (k:=0) rfl)) rfl Tryz.underlying32 (ie4 _)) ?_
   refine hK.out _ _ ⟨_,_,_,_,_,_,_,_,_,_,_,_,_,_,_,_,rfl,by kernel_rfl,h,?_,?_⟩ <;> first | assumption | exact fun _=>rfl | exact nofun
  ·go_simp
   refine callOK (cn2 _) h ?_
   clear h
   rintro _ wn rfl h
   refine hK.out _ _ ⟨_,_,_,_,_,_,_,_,_,_,_,_,_,_,_,_,rfl,by kernel_rfl,h,?_,?_⟩ <;> first | assumption | exact fun _=>rfl | exact nofun
  ·obtain rfl:l12 = false:=by cases l12 with | false=>rfl | true=>exact absurd (hc12 rfl) (by decide)
   simp only [cond_false] at h ⊢
   refine wp_alloc_R 32 rfl (ec 0) z4w ?_
   obtain ⟨gn,hgq,hq⟩:=h.on (k:=1) rfl 32 (ec 0)
   rw [hgq]
   refine hK.out _ _ ⟨_,_,_,_,_,_,_,_,_,_,_,_,_,_,_,_,rfl,by kernel_rfl,hq,?_,?_⟩ <;> first | assumption | exact fun _=>rfl | exact nofun
  ·obtain rfl:l13 = false:=by cases l13 with | false=>rfl | true=>exact absurd (hc13 rfl) (by decide)
   simp only [cond_false] at h ⊢
   refine wp_alloc_R 32 rfl (ec 0) z4w ?_
   obtain ⟨gn,hgq,hq⟩:=h.on (k:=2) rfl 32 (ec 0)
   rw [hgq]
   refine hK.out _ _ ⟨_,_,_,_,_,_,_,_,_,_,_,_,_,_,_,_,rfl,by kernel_rfl,hq,?_,?_⟩ <;> first | assumption | exact fun _=>rfl | exact nofun
  ·refine wp_store_R 32 _ _ rfl _ (ec n1) rfl rfl (h.rowo (k:=1) rfl) (ie4 _) rfl (ec_all _) ?_
   intro wz q hg hz
   replace h:=h.puto (k:=1) rfl q hg
   refine hK.out _ _ ⟨_,_,_,_,_,_,_,_,_,_,_,_,_,_,_,_,rfl,by kernel_rfl,h,?_,?_⟩ <;> first | assumption | exact fun _=>rfl | exact nofun
  ·refine wp_store_R 32 _ _ rfl _ (ec n2) rfl rfl (h.rowo (k:=2) rfl) (ie4 _) rfl (ec_all _) ?_
   intro wz q hg hz
   replace h:=h.puto (k:=2) rfl q hg
   refine hK.out _ _ ⟨_,_,_,_,_,_,_,_,_,_,_,_,_,_,_,_,rfl,by kernel_rfl,h,?_,?_⟩ <;> first | assumption | exact fun _=>rfl | exact nofun
 case rest =>
  clear h
  intro l b w' hI hr
  obtain ⟨l0,l1,l2,l3,l4,l5,l6,l7,l8,l9,l10,l11,l12,l13,g3,g4,rfl,rfl,h,hc12,hc13⟩:=hI
  cases rall hr rfl (by rfl)
  clear hr hc12 hc13
  simp only [putsA,Act.put,stA,st0,st1,cond_true]
  replace h:Fr w w' [(w.heap.size,44,pc A B),(g3,32,ec n1),(g4,32,ec n2)]:=h
  go_upto_region 2 with fail
  try simp only [Act.put,stA,st0,st1]
  replace h:=h.drew
  refine wp_region_inv (by kernel_rfl) (fun a0 l b w'=>∃ (l0 l1 l2 l3 l4 l5 l6 l7 l8:Bool) (g5:Nat) ,l = #[l0,l1,l2,l3,l4,l5,l6,l7,l8] ∧ b = putsA a0 [(16,l0,.agg (ec 1).toArray,undef),(17,l1,.agg (ec Dn).toArray,undef),(18,l2,.agg (ec n1).toArray,undef),(19,l3,.agg (ec n2).toArray,undef),(20,l4,.agg (ec n3).toArray,undef),(21,l5,.agg (ec n4).toArray,undef),(22,l6,.agg (ec n5).toArray,undef),(5,l7,.pointer (some ⟨g5,0,none⟩),undef)] ∧ Fr w w' (opt [(true,(w.heap.size,44,pc A B)),(true,(g3,32,ec n1)),(true,(g4,32,ec n2)),(l7,(g5,32,bif l8 then ec n5 else ec 0))]) ∧ (l8 = true → l7 = true)) ?start ?step ?rest
  case start=>exact ⟨false,false,false,false,false,false,false,false,false,0,by kernel_rfl,by kernel_rfl,h,(fun e=>by cases e)⟩
  case step =>
   clear h
   intro l b w' hI i hi
   obtain ⟨l0,l1,l2,l3,l4,l5,l6,l7,l8,g5,rfl,rfl,h,hc8⟩:=hI
   have hlt:i < 9:=ready_lt hi
   obtain rfl | rfl | rfl | rfl | rfl | rfl | rfl | rfl | rfl:=(by omega:i = 0 ∨ i = 1 ∨ i = 2 ∨ i = 3 ∨ i = 4 ∨ i = 5 ∨ i = 6 ∨ i = 7 ∨ i = 8)
   all_goals (obtain ⟨hn,hd⟩:=rin hi rfl;cases hn;(repeat (obtain ⟨hn,hd⟩:=hd;cases hn));clear hi hlt hd;refine wpOp_inv rfl rfl (fun K hK=>?_);simp only [putsA,Act.put,stA,st0,st1,cond_true,cond_false] at h ⊢)
   ·refine wp_value (.agg (ec 1).toArray) (exec_build_C 32 _ rfl (ec 1) (by kernel_rfl)) ?_
    refine hK.out _ _ ⟨_,_,_,_,_,_,_,_,_,_,rfl,by kernel_rfl,h,?_⟩ <;> first | assumption | exact fun _=>rfl | exact nofun
   ·go_simp
    refine callOK (d13_any _) h ?_
    clear h
    rintro _ wn rfl h
    refine hK.out _ _ ⟨_,_,_,_,_,_,_,_,_,_,rfl,by kernel_rfl,h,?_⟩ <;> first | assumption | exact fun _=>rfl | exact nofun
   ·refine wp_value (.agg (ec n1).toArray) (exec_load_W 32 _ rfl rfl (h.rowo (k:=1) rfl) Tryz.underlying32 rfl (ie4 _)) ?_
    refine hK.out _ _ ⟨_,_,_,_,_,_,_,_,_,_,rfl,by kernel_rfl,h,?_⟩ <;> first | assumption | exact fun _=>rfl | exact nofun
   ·refine wp_value (.agg (ec n2).toArray) (exec_load_W 32 _ rfl rfl (h.rowo (k:=2) rfl) Tryz.underlying32 rfl (ie4 _)) ?_
    refine hK.out _ _ ⟨_,_,_,_,_,_,_,_,_,_,rfl,by kernel_rfl,h,?_⟩ <;> first | assumption | exact fun _=>rfl | exact nofun
   ·go_simp
    refine callOK (cn3 _) h ?_
    clear h
    rintro _ wn rfl h
    refine hK.out _ _ ⟨_,_,_,_,_,_,_,_,_,_,rfl,by kernel_rfl,h,?_⟩ <;> first | assumption | exact fun _=>rfl | exact nofun
   ·go_simp
    refine callOK (cn4 _) h ?_
    clear h
    rintro _ wn rfl h
    refine hK.out _ _ ⟨_,_,_,_,_,_,_,_,_,_,rfl,by kernel_rfl,h,?_⟩ <;> first | assumption | exact fun _=>rfl | exact nofun
   ·go_simp
    refine callOK (cn5 _) h ?_
    clear h
    rintro _ wn rfl h
    refine hK.out _ _ ⟨_,_,_,_,_,_,_,_,_,_,rfl,by kernel_rfl,h,?_⟩ <;> first | assumption | exact fun _=>rfl | exact nofun
   ·obtain rfl:l8 = false:=by cases l8 with | false=>rfl | true=>exact absurd (hc8 rfl) (by decide)
    simp only [cond_false] at h ⊢
    refine wp_alloc_R 32 rfl (ec 0) z4w ?_
    obtain ⟨gn,hgq,hq⟩:=h.on (k:=3) rfl 32 (ec 0)
    rw [hgq]
    refine hK.out _ _ ⟨_,_,_,_,_,_,_,_,_,_,rfl,by kernel_rfl,hq,?_⟩ <;> first | assumption | exact fun _=>rfl | exact nofun
   ·refine wp_store_R 32 _ _ rfl _ (ec n5) rfl rfl (h.rowo (k:=3) rfl) (ie4 _) rfl (ec_all _) ?_
    intro wz q hg hz
    replace h:=h.puto (k:=3) rfl q hg
    refine hK.out _ _ ⟨_,_,_,_,_,_,_,_,_,_,rfl,by kernel_rfl,h,?_⟩ <;> first | assumption | exact fun _=>rfl | exact nofun
  case rest =>
   clear h
   intro l b w' hI hr
   obtain ⟨l0,l1,l2,l3,l4,l5,l6,l7,l8,g5,rfl,rfl,h,hc8⟩:=hI
   cases rall hr rfl (by rfl)
   clear hr hc8
   simp only [putsA,Act.put,stA,st0,st1,cond_true]
   replace h:Fr w w' [(w.heap.size,44,pc A B),(g3,32,ec n1),(g4,32,ec n2),(g5,32,ec n5)]:=h
   go_upto_region 3 with fail
   try simp only [Act.put,stA,st0,st1]
   cases p
   ·replace h:=h.drew
    refine wp_region_noPanic ?_
    refine wp_region_held_drew (S:=fun w'=>Row w' w.heap.size 44 (pc A B) ∧ Row w' g4 32 (ec n2) ∧ Row w' g3 32 (ec n1) ∧ Row w' g5 32 (ec n5)) (by kernel_rfl) ⟨h.row (i:=0) rfl,h.row (i:=2) rfl,h.row (i:=1) rfl,h.row (i:=3) rfl⟩ (fun _=>?_)
    refine tkg 0 rfl ?_
    simp only [Act.put,stA,st0,st1]
    refine tkL 1 (.agg (ec A).toArray) rfl (fun w hSw=>exec_load_at 32 _ rfl rfl (pc_x hSw.1) rfl Tryz.underlying32 (ie4 _)) ?_
    simp only [Act.put,stA,st0,st1]
    refine ar1 2 rfl (fun K hK=>?_)
    go_simp
    refine callOK (bA _) h ?_
    clear h
    rintro _ wn rfl h
    refine hK.out _ _ ⟨h.row (i:=0) rfl,h.row (i:=2) rfl,h.row (i:=1) rfl,h.row (i:=3) rfl⟩ (fun _=>?_)
    clear hK K
    refine tkg 3 rfl ?_
    simp only [Act.put,stA,st0,st1]
    refine wpAnyH_skipL (i:=4) rfl (by kernel_rfl) (by kernel_rfl) (by kernel_rfl) (fun _ _ _ h=>h) (by rfl) (by assumption) ?_
    simp only [Act.put,stA,st0,st1]
    refine wpAnyH_skipL (i:=5) rfl (by kernel_rfl) (by kernel_rfl) (by kernel_rfl) (fun _ _ _ h=>h) (by rfl) (by assumption) ?_
    simp only [Act.put,stA,st0,st1]
    refine wpAnyH_skipL (i:=6) rfl (by kernel_rfl) (by kernel_rfl) (by kernel_rfl) (fun _ _ _ h=>h) (by rfl) (by assumption) ?_
    simp only [Act.put,stA,st0,st1]
    refine tkg 7 rfl ?_
    simp only [Act.put,stA,st0,st1]
    refine tkg 8 rfl ?_
    simp only [Act.put,stA,st0,st1]
    refine wpAnyH_skipL (i:=9) rfl (by kernel_rfl) (by kernel_rfl) (by kernel_rfl) (fun _ _ _ h=>h) (by rfl) (by assumption) ?_
    simp only [Act.put,stA,st0,st1]
    refine wpAnyH_skipL (i:=10) rfl (by kernel_rfl) (by kernel_rfl) (by kernel_rfl) (fun _ _ _ h=>h) (by rfl) (by assumption) ?_
    simp only [Act.put,stA,st0,st1]
    refine wpAnyH_skipL (i:=11) rfl (by kernel_rfl) (by kernel_rfl) (by kernel_rfl) (fun _ _ _ h=>h) (by rfl) (by assumption) ?_
    simp only [Act.put,stA,st0,st1]
    refine wpAnyH_skipL (i:=12) rfl (by kernel_rfl) (by kernel_rfl) (by kernel_rfl) (fun _ _ _ h=>h) (by rfl) (by assumption) ?_
    simp only [Act.put,stA,st0,st1]
    refine wpAnyH_skipL (i:=13) rfl (by kernel_rfl) (by kernel_rfl) (by kernel_rfl) (fun _ _ _ h=>h) (by rfl) (by assumption) ?_
    simp only [Act.put,stA,st0,st1]
    refine tkg 14 rfl ?_
    simp only [Act.put,stA,st0,st1]
    refine tkg 15 rfl ?_
    simp only [Act.put,stA,st0,st1]
    refine wpAnyH_done (by kernel_rfl) ?_ _
    refine NoPanic.normal ?_
    go_wp2
    go_ret
    exact ⟨by rw [HV.out];rfl,h.bel⟩
   ·cases q
    ·replace h:=h.drew
     refine wp_region_noPanic ?_
     refine wp_region_held_drew (S:=fun w'=>Row w' w.heap.size 44 (pc A B) ∧ Row w' g4 32 (ec n2) ∧ Row w' g3 32 (ec n1) ∧ Row w' g5 32 (ec n5)) (by kernel_rfl) ⟨h.row (i:=0) rfl,h.row (i:=2) rfl,h.row (i:=1) rfl,h.row (i:=3) rfl⟩ (fun _=>?_)
     refine tkg 0 rfl ?_
     simp only [Act.put,stA,st0,st1]
     refine tkL 1 (.agg (ec A).toArray) rfl (fun w hSw=>exec_load_at 32 _ rfl rfl (pc_x hSw.1) rfl Tryz.underlying32 (ie4 _)) ?_
     simp only [Act.put,stA,st0,st1]
     refine ar1 2 rfl (fun K hK=>?_)
     go_simp
     refine callOK (bA _) h ?_
     clear h
     rintro _ wn rfl h
     refine hK.out _ _ ⟨h.row (i:=0) rfl,h.row (i:=2) rfl,h.row (i:=1) rfl,h.row (i:=3) rfl⟩ (fun _=>?_)
     clear hK K
     refine tkg 3 rfl ?_
     simp only [Act.put,stA,st0,st1]
     refine tkg 4 rfl ?_
     simp only [Act.put,stA,st0,st1]
     refine tkL 5 (.agg (ec B).toArray) rfl (fun w hSw=>exec_load_at 32 _ rfl rfl (pc_y hSw.1) rfl Tryz.underlying32 (ie4 _)) ?_
     simp only [Act.put,stA,st0,st1]
     refine ar1 6 rfl (fun K hK=>?_)
     go_simp
     refine callOK (bB _) h ?_
     clear h
     rintro _ wn rfl h
     refine hK.out _ _ ⟨h.row (i:=0) rfl,h.row (i:=2) rfl,h.row (i:=1) rfl,h.row (i:=3) rfl⟩ (fun _=>?_)
     clear hK K
     refine tkg 7 rfl ?_
     simp only [Act.put,stA,st0,st1]
     refine tkg 8 rfl ?_
     simp only [Act.put,stA,st0,st1]
     refine wpAnyH_skipL (i:=9) rfl (by kernel_rfl) (by kernel_rfl) (by kernel_rfl) (fun _ _ _ h=>h) (by rfl) (by assumption) ?_
     simp only [Act.put,stA,st0,st1]
     refine wpAnyH_skipL (i:=10) rfl (by kernel_rfl) (by kernel_rfl) (by kernel_rfl) (fun _ _ _ h=>h) (by rfl) (by assumption) ?_
     simp only [Act.put,stA,st0,st1]
     refine wpAnyH_skipL (i:=11) rfl (by kernel_rfl) (by kernel_rfl) (by kernel_rfl) (fun _ _ _ h=>h) (by rfl) (by assumption) ?_
     simp only [Act.put,stA,st0,st1]
     refine wpAnyH_skipL (i:=12) rfl (by kernel_rfl) (by kernel_rfl) (by kernel_rfl) (fun _ _ _ h=>h) (by rfl) (by assumption) ?_
     simp only [Act.put,stA,st0,st1]
     refine wpAnyH_skipL (i:=13) rfl (by kernel_rfl) (by kernel_rfl) (by kernel_rfl) (fun _ _ _ h=>h) (by rfl) (by assumption) ?_
     simp only [Act.put,stA,st0,st1]
     refine tkg 14 rfl ?_
     simp only [Act.put,stA,st0,st1]
     refine tkg 15 rfl ?_
     simp only [Act.put,stA,st0,st1]
     refine wpAnyH_done (by kernel_rfl) ?_ _
     refine NoPanic.normal ?_
     go_wp2
     go_ret
     exact ⟨by rw [HV.out];rfl,h.bel⟩
    ·replace h:=h.drew
     refine wp_region_noPanic ?_
     refine wp_region_held_drew (S:=fun w'=>Row w' w.heap.size 44 (pc A B) ∧ Row w' g4 32 (ec n2) ∧ Row w' g3 32 (ec n1) ∧ Row w' g5 32 (ec n5)) (by kernel_rfl) ⟨h.row (i:=0) rfl,h.row (i:=2) rfl,h.row (i:=1) rfl,h.row (i:=3) rfl⟩ (fun _=>?_)
     refine tkg 0 rfl ?_
     simp only [Act.put,stA,st0,st1]
     refine tkL 1 (.agg (ec A).toArray) rfl (fun w hSw=>exec_load_at 32 _ rfl rfl (pc_x hSw.1) rfl Tryz.underlying32 (ie4 _)) ?_
     simp only [Act.put,stA,st0,st1]
     refine ar1 2 rfl (fun K hK=>?_)
     go_simp
     refine callOK (bA _) h ?_
     clear h
     rintro _ wn rfl h
     refine hK.out _ _ ⟨h.row (i:=0) rfl,h.row (i:=2) rfl,h.row (i:=1) rfl,h.row (i:=3) rfl⟩ (fun _=>?_)
     clear hK K
     refine tkg 3 rfl ?_
     simp only [Act.put,stA,st0,st1]
     refine tkg 4 rfl ?_
     simp only [Act.put,stA,st0,st1]
     refine tkL 5 (.agg (ec B).toArray) rfl (fun w hSw=>exec_load_at 32 _ rfl rfl (pc_y hSw.1) rfl Tryz.underlying32 (ie4 _)) ?_
     simp only [Act.put,stA,st0,st1]
     refine ar1 6 rfl (fun K hK=>?_)
     go_simp
     refine callOK (bB _) h ?_
     clear h
     rintro _ wn rfl h
     refine hK.out _ _ ⟨h.row (i:=0) rfl,h.row (i:=2) rfl,h.row (i:=1) rfl,h.row (i:=3) rfl⟩ (fun _=>?_)
     clear hK K
     refine tkg 7 rfl ?_
     simp only [Act.put,stA,st0,st1]
     refine tkg 8 rfl ?_
     simp only [Act.put,stA,st0,st1]
     refine tkL 9 (.agg (ec n2).toArray) rfl (fun w hSw=>exec_load_W 32 _ rfl rfl hSw.2.1 Tryz.underlying32 rfl (ie4 _)) ?_
     simp only [Act.put,stA,st0,st1]
     refine tkL 10 (.agg (ec n1).toArray) rfl (fun w hSw=>exec_load_W 32 _ rfl rfl hSw.2.2.1 Tryz.underlying32 rfl (ie4 _)) ?_
     simp only [Act.put,stA,st0,st1]
     refine tkL 12 (.agg (ec n5).toArray) rfl (fun w hSw=>exec_load_W 32 _ rfl rfl hSw.2.2.2 Tryz.underlying32 rfl (ie4 _)) ?_
     simp only [Act.put,stA,st0,st1]
     refine ar1 11 rfl (fun K hK=>?_)
     go_simp
     refine callOK (cn6 _) h ?_
     clear h
     rintro _ wn rfl h
     refine hK.out _ _ ⟨h.row (i:=0) rfl,h.row (i:=2) rfl,h.row (i:=1) rfl,h.row (i:=3) rfl⟩ (fun _=>?_)
     clear hK K
     refine tkg 13 rfl ?_
     simp only [Act.put,stA,st0,st1]
     refine tkg 14 rfl ?_
     simp only [Act.put,stA,st0,st1]
     refine tkg 15 rfl ?_
     simp only [Act.put,stA,st0,st1]
     refine wpAnyH_done (by kernel_rfl) ?_ _
     refine NoPanic.normal ?_
     go_wp2
     go_ret
     exact ⟨by rw [HV.out];rfl,h.bel⟩
open E (z z_val z_same z_add z_mul z_sub z_inv z_mod z_of dd Pt padd pneg pmul iv ax ay)
theorem z_D:z Dn = dd:=by decide +kernel
theorem z_lt {m n:Nat} (hm:m < P) (hn:n < P):z m = z n ↔ m = n:=by
 rw [z_same,Nat.mod_eq_of_lt hm,Nat.mod_eq_of_lt hn]
theorem val_lt_P (a:E.Z):a.val < P:=by rw [← E.Q_one];exact a.isLt
theorem z_valz {m:Nat} (h:m < P):(z m).val = m:=by rw [z_val,Nat.mod_eq_of_lt h]
theorem on_form {n:Nat} {x y d:Fin (n + 1)}:(y * y - x * x = 1 + d * (x * x * (y * y))) ↔ E.On d x y:=by
 unfold E.On
 constructor <;> intro h <;> grind
theorem onB_iff (A B:Nat):onB A B = true ↔ A < P ∧ B < P ∧ E.On dd (z A) (z B):=by
 rw [onB,Bool.and_eq_true,Bool.and_eq_true,decide_eq_true_iff,decide_eq_true_iff,decide_eq_true_iff,← z_lt (mod_lt_P _) (mod_lt_P _),z_sub,z_mul,z_mul,z_add,z_mul,z_mul,z_mul,z_mul,z_D,show z 1 = 1 from rfl,on_form]
def ownP (A B:Nat):Pt:=if h:onB A B = true then ⟨z A,z B,((onB_iff A B).1 h).2.2⟩ else Pt.zero
def pv (p:Pt):List Value:=pc p.x.val p.y.val
theorem ownP_on {A B:Nat} (h:onB A B = true):(ownP A B).x.val = A ∧ (ownP A B).y.val = B:=by
 obtain ⟨h1,h2,_⟩:=(onB_iff A B).1 h
 rw [ownP,dif_pos h]
 exact ⟨z_valz h1,z_valz h2⟩
theorem ownP_off {A B:Nat} (h:onB A B = false):(ownP A B).x.val = 0 ∧ (ownP A B).y.val = 1:=by
 rw [ownP,dif_neg (by rw [h];decide)]
 exact ⟨rfl,rfl⟩
theorem pv_own (A B:Nat):pv (ownP A B) = if onB A B = true then pc A B else pc 0 1:=by
 unfold pv
 cases h:onB A B
 ·rw [(ownP_off h).1,(ownP_off h).2];rfl
 ·rw [(ownP_on h).1,(ownP_on h).2];rfl
theorem onB_val (p:Pt):onB p.x.val p.y.val = true:=by
 rw [onB_iff,z_of,z_of]
 exact ⟨val_lt_P _,val_lt_P _,p.on⟩
theorem ownP_val (p:Pt):ownP p.x.val p.y.val = p:=by
 rw [ownP,dif_pos (onB_val p)]
 cases p
 simp only [z_of]
theorem ptx_lt (p:Pt):p.x.val < 115792089237316195423570985008687907853269984665640564039457584007913129639936:=Nat.lt_trans (val_lt_P _) P_lt
theorem pty_lt (p:Pt):p.y.val < 115792089237316195423570985008687907853269984665640564039457584007913129639936:=Nat.lt_trans (val_lt_P _) P_lt
theorem own13_any (A B:Nat) (lA:A < 115792089237316195423570985008687907853269984665640564039457584007913129639936) (lB:B < 115792089237316195423570985008687907853269984665640564039457584007913129639936) (w:World):Calls Tryz.prog 46 #[.agg (pc A B).toArray] w fun e w'=>e = .returned (.agg (pv (ownP A B)).toArray) ∧ Below w.heap.size w w':=by
 obtain ⟨w2,h2,h⟩:=Fr.two w 44 44 (pc A B) (pc 0 0)
 have c1:=fun w=>on13_any A B lA lB w
 have HV:=Away.mk (pv_own A B)
 obtain ⟨b,hb⟩:∃ b,onB A B = b:=⟨_,rfl⟩
 rw [hb] at c1 HV
 clear hb
 go_enter Tryz.func46,Tryz.ntmps46
 go_upto_region 1 with (refine wpList_alloc_row rfl 44 rfl _ zPw ?_)
 try simp only [Act.put,stA,st0,st1,alloc_size,h2]
 clear h2
 go_wp2_with (refine wpList_load_row rfl 44 _ rfl _ rfl _ _ _ _ (h.row (i:=0) rfl) Tryz.underlying44 rfl (iP _ _) ?_)
 refine (c1 _).mono ?_
 rintro _ wn ⟨rfl,hb⟩
 replace h:=h.below hb
 clear hb c1
 cases b
 ·go_wp2_with fail
  refine (zero13_any _).mono ?_
  rintro _ wn ⟨rfl,hb⟩
  replace h:=h.below hb
  clear hb
  go_wp2_with (refine wpList_store_R rfl 44 _ _ rfl _ (pc 0 1) rfl rfl (h.row (i:=1) rfl) (iP _ _) rfl (pc_all _ _) ?_;intro wz q hg hz)
  replace h:Fr w wz [(w.heap.size,44,pc A B),(w.heap.size + 1,44,pc 0 1)]:=h.put (i:=1) rfl q hg
  exact result_row Tryz.results46 rfl (h.row (i:=1) rfl) Tryz.underlying44 rfl (iP _ _) rfl ⟨by rw [HV.out];rfl,h.bel⟩
 ·go_wp2_with (first | refine wpList_load_row rfl 44 _ rfl _ rfl _ _ _ _ (h.row (i:=0) rfl) Tryz.underlying44 rfl (iP _ _) ?_ | (refine wpList_store_R rfl 44 _ _ rfl _ (pc A B) rfl rfl (h.row (i:=1) rfl) (iP _ _) rfl (pc_all _ _) ?_;intro wz q hg hz))
  replace h:Fr w wz [(w.heap.size,44,pc A B),(w.heap.size + 1,44,pc A B)]:=h.put (i:=1) rfl q hg
  exact result_row Tryz.results46 rfl (h.row (i:=1) rfl) Tryz.underlying44 rfl (iP _ _) rfl ⟨by rw [HV.out];rfl,h.bel⟩
theorem own13_let (A B:Nat) (lA:A < 115792089237316195423570985008687907853269984665640564039457584007913129639936) (lB:B < 115792089237316195423570985008687907853269984665640564039457584007913129639936):∃ X Y,(ownP A B).x.val = X ∧ (ownP A B).y.val = Y ∧ X < 115792089237316195423570985008687907853269984665640564039457584007913129639936 ∧ Y < 115792089237316195423570985008687907853269984665640564039457584007913129639936 ∧ z X = (ownP A B).x ∧ z Y = (ownP A B).y ∧ ∀ (w:World),Calls Tryz.prog 46 #[.agg (pc A B).toArray] w fun e w'=>e = .returned (.agg (pc X Y).toArray) ∧ Below w.heap.size w w' :=
 ⟨_,_,rfl,rfl,ptx_lt _,pty_lt _,z_of _,z_of _,fun w=>own13_any A B lA lB w⟩
theorem neg13_any (A B:Nat) (lA:A < 115792089237316195423570985008687907853269984665640564039457584007913129639936) (lB:B < 115792089237316195423570985008687907853269984665640564039457584007913129639936) (w:World):Calls Tryz.prog 39 #[.agg (pc A B).toArray] w fun e w'=>e = .returned (.agg (pv (pneg (ownP A B))).toArray) ∧ Below w.heap.size w w':=by
 obtain ⟨w2,h2,h⟩:=Fr.two w 44 44 (pc A B) (pc 0 0)
 obtain ⟨X,Y,eX,eY,lX,lY,zX,zY,co⟩:=own13_let A B lA lB
 obtain ⟨n1,en1,ln1,cn1⟩:=erSub 0 X (by decide) lX
 have HV:Away (pv (pneg (ownP A B)) = pc n1 Y):=⟨by
  have e:(pneg (ownP A B)).x.val = n1:=by
   rw [← en1.out,← z_valz (mod_lt_P _),z_sub,zX]
   show (-(ownP A B).x).val = (0 - (ownP A B).x).val
   congr 1
  unfold pv
  rw [e]
  show pc n1 (ownP A B).y.val = _
  rw [eY]⟩
 clear eX eY zX zY
 go_enter Tryz.func39,Tryz.ntmps39
 go_upto_region 1 with (refine wpList_alloc_row rfl 44 rfl _ zPw ?_)
 try simp only [Act.put,stA,st0,st1,alloc_size,h2]
 clear h2
 go_wp2_with (first | refine wpList_load_row rfl 44 _ rfl _ rfl _ _ _ _ (h.row (i:=0) rfl) Tryz.underlying44 rfl (iP _ _) ?_)
 refine callOK (co _) h ?_
 clear h
 rintro _ wn rfl h
 go_upto_region 2 with (first | (refine wpList_store_R rfl 44 _ _ rfl _ (pc X Y) rfl rfl (h.row (i:=0) rfl) (iP _ _) rfl (pc_all _ _) ?_;intro wz q hg hz))
 replace h:Fr w wz [(w.heap.size,44,pc X Y),((w.heap.size + 1),44,pc 0 0)]:=h.put (i:=0) rfl q hg
 clear q hg hz
 go_wp2_with (first | refine wpList_build_C rfl 32 _ rfl (ec 0) (by kernel_rfl) ?_ | refine wpList_load_at rfl 32 _ rfl rfl (pc_x (h.row (i:=0) rfl)) rfl Tryz.underlying32 (ie4 _) ?_)
 refine callOK (cn1 _) h ?_
 clear h
 rintro _ wn rfl h
 go_upto_region 3 with (first | (refine wpList_store_at rfl 32 _ _ rfl (ec n1) rfl rfl (pc_x (h.row (i:=0) rfl)) rfl (ie4 _) rfl (ec_all _) ?_;intro wz q hg hz))
 replace h:Fr w wz [(w.heap.size,44,pc n1 Y),((w.heap.size + 1),44,pc 0 0)]:=h.put (i:=0) rfl q hg
 clear q hg hz
 go_wp2_with (first | refine wpList_load_row rfl 44 _ rfl _ rfl _ _ _ _ (h.row (i:=0) rfl) Tryz.underlying44 rfl (iP _ _) ?_ | (refine wpList_store_R rfl 44 _ _ rfl _ (pc n1 Y) rfl rfl (h.row (i:=1) rfl) (iP _ _) rfl (pc_all _ _) ?_;intro wz q hg hz))
 replace h:Fr w wz [(w.heap.size,44,pc n1 Y),((w.heap.size + 1),44,pc n1 Y)]:=h.put (i:=1) rfl q hg
 clear q hg hz
 exact result_row Tryz.results39 rfl (h.row (i:=1) rfl) Tryz.underlying44 rfl (iP _ _) rfl ⟨by rw [HV.out],h.bel⟩
end Go.Proofs.YtmjimilhomabfaaGreatDoor.F
