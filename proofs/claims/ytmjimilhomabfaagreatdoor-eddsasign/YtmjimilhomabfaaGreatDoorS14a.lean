/-
 The order and numbers modulo it: both sides, the first part. Conditions: each as it says.
-/
import Derived.Test.YtmjimilhomabfaaGreatDoorW13
import Derived.Test.YtmjimilhomabfaaGreatDoorLawN
import Derived.Test.YtmjimilhomabfaaGreatDoorR14b
import Derived.Test.YtmjimilhomabfaaGreatDoorF13d
namespace Go.Proofs.YtmjimilhomabfaaGreatDoor.F
set_option linter.unusedVariables false
set_option maxRecDepth 10000
def Lq:Nat:=7237005577332262213973186563042994240857116359379907606001950938285454250989
theorem Lq_pos:0 < Lq:=by decide
theorem Lq_lt:Lq < 115792089237316195423570985008687907853269984665640564039457584007913129639936:=by decide
theorem mod_Lq_lt (n:Nat):n % Lq < Lq:=Nat.mod_lt _ Lq_pos
theorem mod_Lq_T (n:Nat):n % Lq < 115792089237316195423570985008687907853269984665640564039457584007913129639936:=Nat.lt_trans (mod_Lq_lt n) Lq_lt
theorem half_set {v k x:Nat} (hk:k < 8) (hv:v < 4294967296 ^ k) (hx:x < 4294967296) :
  (wds v).set (k / 2) ((wds v).getD (k / 2) 0 + x * 2 ^ (32 * (k % 2))) = wds (v + 4294967296 ^ k * x) ∧ (wds v).getD (k / 2) 0 < 2 ^ (32 * (k % 2)) ∧ v + 4294967296 ^ k * x < 4294967296 ^ (k + 1):=by
 have h0:v + 4294967296 ^ k * x < 4294967296 ^ (k + 1):=by
  rw [Nat.pow_succ]
  have:=Nat.mul_le_mul_left (4294967296 ^ k) (show x + 1 ≤ 4294967296 by omega)
  rw [Nat.mul_add] at this
  omega
 have hT:(4294967296:Nat) ^ (k + 1) ≤ 115792089237316195423570985008687907853269984665640564039457584007913129639936:=by rw [← B32_pow];exact Nat.pow_le_pow_right (by decide) (by omega)
 have hvT:v < 115792089237316195423570985008687907853269984665640564039457584007913129639936:=Nat.lt_of_lt_of_le hv (by rw [← B32_pow];exact Nat.pow_le_pow_right (by decide) (by omega))
 have hW:(18446744073709551616:Nat) ^ (k / 2) * 2 ^ (32 * (k % 2)) = 4294967296 ^ k:=by
  rw [show (18446744073709551616:Nat) = 2 ^ 64 from rfl,← Nat.pow_mul,← Nat.pow_add,show 64 * (k / 2) + 32 * (k % 2) = 32 * k by omega,Nat.pow_mul]
 have hp:0 < (18446744073709551616:Nat) ^ (k / 2):=Nat.pow_pos (by decide)
 have hlt:(wds v).getD (k / 2) 0 < 2 ^ (32 * (k % 2)):=by
  rw [wds_getD hvT]
  refine Nat.lt_of_le_of_lt (Nat.mod_le _ _) ?_
  rw [Nat.div_lt_iff_lt_mul hp,Nat.mul_comm,hW]
  exact hv
 refine ⟨?_,hlt,h0⟩
 have hr:32 * (k % 2) ≤ 32:=by omega
 have hx2:x * 2 ^ (32 * (k % 2)) + 2 ^ (32 * (k % 2)) ≤ 18446744073709551616:=by
  have h1:x * 2 ^ (32 * (k % 2)) + 2 ^ (32 * (k % 2)) = (x + 1) * 2 ^ (32 * (k % 2)):=by rw [Nat.add_mul,Nat.one_mul]
  rw [h1]
  calc (x + 1) * 2 ^ (32 * (k % 2)) ≤ 4294967296 * 2 ^ 32:=Nat.mul_le_mul (by omega) (Nat.pow_le_pow_right (by decide) hr)
   _ ≤ 18446744073709551616:=by decide
 refine wds_of (by rw [List.length_set];rfl) ((wds_lo v).set _ _ (by omega)) ?_
 have hs:=val_set' (B:=18446744073709551616) (xs:=wds v) (i:=k / 2) (by rw [wds_length];omega) ((wds v).getD (k / 2) 0 + x * 2 ^ (32 * (k % 2)))
 rw [wds_val hvT,Nat.mul_add] at hs
 have e:(18446744073709551616:Nat) ^ (k / 2) * (x * 2 ^ (32 * (k % 2))) = 4294967296 ^ k * x:=by rw [Nat.mul_comm x,← Nat.mul_assoc,hW]
 rw [e] at hs
 omega
open Go.RowKit
theorem wp_append_sl {P:Program} {w:World} {o:Oper} {a:Act} {K:Act → World → Prop} {Q:Exit → Act → World → Prop} (s x:Operand) (t:TypeId)
  (ho:o.op = .call { callee:=.builtin .append,args:=#[s,x],argTypes:=#[t,t] })
  (base:Nat) (e:TypeId) (z:Value) (bytes:Nat) (ht:P.underlying t = some (.slice e)) (hinfo:(P.info? e).map (fun i=>(i.zero,i.size,i.bytes)) = some (some z,1,bytes)) (hzs:z.cells.size = 1)
  (v:Value) (n:Nat) (xs:List Value) (hs:a.eval s = v) (hown:w.ownsRow base e 1 v n xs) (sv:Value) (ys:List Value) (hx:a.eval x = sv) (hsl:SlV w sv ys) (h1:∀ u ∈ ys,u.oneCell' = true)
  (h63:n + ys.length ≤ maxLen) (hbytes:(n + ys.length) * bytes ≤ 140737488355328) (hbase:base ≤ w.heap.size)
  (h:∀ v' w',w'.ownsRow base e 1 v' (n + ys.length) (xs ++ ys) → w.grownBy w' v.ownBlock → K (a.put o.dst v') w'):o.wp P a w K Q:=by
 obtain ⟨i0,hi,hz0,hz1,hz2⟩:=info_parts hinfo
 obtain ⟨a',c',rfl,hle,hcm,hnone,hc⟩:=hsl
 by_cases h0:a' = none
 ·subst h0
  obtain rfl:=hnone rfl
  obtain rfl:ys = []:=List.eq_nil_of_length_eq_zero (by omega)
  have hrun:=run_append_owned_none (P:=P) (w:=w) base t o.type e i0 1 ht hi v n xs hown
  unfold Oper.wp
  simp at hx
  simp [execOp,ho,resolve,invoke,builtin,hs,hx,hrun,Result.andThen]
  exact h v w (by simpa using hown) ⟨rfl,rfl,rfl,Nat.le_refl _,fun _ _ _=>rfl⟩
 ·obtain ⟨ad,rfl⟩:=Option.ne_none_iff_exists'.1 h0
  have hnews:∀ j y,ys[j]? = some y → w.cell? (ad.add j) = some y:=by
   intro j u hu
   have hp:0 < ys.length:=by
    have:=(List.getElem?_eq_some_iff.1 hu).1
    omega
   obtain ⟨b,off,he,hcell⟩:=hc hp
   simp only [Option.some.injEq] at he
   subst he
   rw [Addr.add_lit];exact hcell j u hu
  obtain ⟨v',w',hrun,ho',hg',_⟩:=run_append_own (P:=P) (w:=w) base t o.type e i0 z 1 bytes ht hi hz0 hz1 hz2 hzs (by decide) v n xs hown ad ys.length c' ys (by simp) hnews h1 h63 hbytes hbase
  unfold Oper.wp
  simp [execOp,ho,resolve,invoke,builtin,hs,hx,hrun,Result.andThen]
  exact h v' w' ho' hg'
theorem inf32:(Tryz.prog.info? 95).map (fun i=>(i.zero,i.size,i.bytes)) = some (some (.int .u32 0),1,4):=by kernel_rfl
def hv (A k:Nat):List Nat:=dig 4294967296 (2 * k) A
theorem hv_step {A k:Nat} (hA:A < 115792089237316195423570985008687907853269984665640564039457584007913129639936) (hk:k < 4):hv A (k + 1) = hv A k ++ [(wds A).getD k 0 % 4294967296,(wds A).getD k 0 / 4294967296]:=by
 have e1:=half_of A (2 * k)
 have e2:=half_of A (2 * k + 1)
 rw [show 2 * k / 2 = k by omega,show 2 * k % 2 = 0 by omega,Nat.mul_zero,Nat.pow_zero,Nat.div_one,← wds_getD hA] at e1
 rw [show (2 * k + 1) / 2 = k by omega,show (2 * k + 1) % 2 = 1 by omega,Nat.mul_one,show (2:Nat) ^ 32 = 4294967296 from rfl,← wds_getD hA] at e2
 have hl:=(wds_lo A).getD (by decide) k
 have e3:(wds A).getD k 0 / 4294967296 % 4294967296 = (wds A).getD k 0 / 4294967296:=Nat.mod_eq_of_lt (by omega)
 rw [e3] at e2
 unfold hv dig
 rw [show 2 * (k + 1) = 2 * k + 1 + 1 by omega,List.range_succ,List.range_succ]
 simp only [List.map_append,List.map_cons,List.map_nil,List.append_assoc,List.cons_append,List.nil_append]
 rw [← e1,← e2]
set_option maxHeartbeats 1000000 in
theorem refNatural_any (A:Nat) (hA:A < 115792089237316195423570985008687907853269984665640564039457584007913129639936) (w:World):Calls Tryz.prog 65 #[.agg (C .u64 (wds A)).toArray] w fun e w'=>∃ v',e = .returned v' ∧ Num w' v' A 8 ∧ Below w.heap.size w w':=by
 have r1:=Row.new w 32 (C .u64 (wds A))
 have hL:=(Below.more (Below.refl w.heap.size w) (Nat.le_refl _) (.cells (C .u64 (wds A)).toArray 32)).1
 have hs1:=alloc_size w (.cells (C .u64 (wds A)).toArray 32)
 generalize h2:w.alloc (.cells (C .u64 (wds A)).toArray 32) = w2 at *
 have ho:=own_empty_at w2 (w.heap.size + 1) (w.heap.size + 1) 95 hs1.symm (by omega)
 have r2:=r1.alloc (.cells #[] 95)
 have hL2:=hL.alloc hL.size (.cells #[] 95)
 have hs2:=alloc_size w2 (.cells #[] 95)
 have hx:=wds_lo A
 go_enter Tryz.func65,Tryz.ntmps65
 go_wp2
 go_loopw [3,4] (fun v1 i wr=>∃ (k:Nat) (v:Value),k ≤ 4 ∧ i = .int .i64 k ∧ v = v1 ∧ wr.ownsRow (w.heap.size + 1) 95 1 v (2 * k) (C .u32 (hv A k)) ∧ Row wr w.heap.size 32 (C .u64 (wds A)) ∧ Below w.heap.size w wr ∧ w.heap.size + 1 ≤ wr.heap.size) (fun _ i _=>4 - (intOf i).toNat)
 case atStart=>exact ⟨0,_,Nat.zero_le _,rfl,rfl,ho,r2,hL2,by omega⟩
 case round =>
  clear ho r1 r2 hL hL2
  obtain ⟨k,v,hk,rfl,rfl,ho,r1,hL,hsz⟩:=hrel
  by_cases hlt:k < 4
  ·have c1:=r1.cell k
   rw [C_get .u64 (by rw [wds_length];omega)] at c1
   have bx:=hx.getD (by decide) k
   have HN:=Away.mk (hv_step hA hlt)
   generalize (wds A).getD k 0 = x at *
   obtain ⟨y,hy⟩:∃ y,x % 4294967296 = y:=⟨_,rfl⟩
   obtain ⟨z,hz⟩:∃ z,x / 4294967296 = z:=⟨_,rfl⟩
   rw [hy,hz] at HN
   have ey:IntKind.u32.wrap (x:Int) = (y:Int):=by rw [IntKind.wrap_u32];omega
   have ey':(x:Int) % 4294967296 = (y:Int):=by omega
   have ez:(x:Int) / 4294967296 = (z:Int):=by omega
   have ez2:IntKind.u32.wrap (z:Int) = (z:Int):=by rw [IntKind.wrap_u32];omega
   have ez3:(z:Int) % 4294967296 = (z:Int):=by omega
   have bk:(k:Int) < 4:=by omega
   have cd:wr.drew.cell? ⟨w.heap.size,k,none⟩ = some (.int .u64 (x:Int)):=c1
   have od:wr.drew.ownsRow (w.heap.size + 1) 95 1 v (2 * k) (C .u32 (hv A k)):=ho
   replace r1:=r1.drew
   replace hL:=below_drawn hL
   clear hy hz bx c1 ho
   go_wp2
   refine wp_region_noPanic ?_
   refine wp_region_held_drew (S:=fun w'=>w'.cell? ⟨w.heap.size,k,none⟩ = some (.int .u64 (x:Int))) (by kernel_rfl) (cd) (fun _=>?_)
   refine tkg 0 rfl ?_
   simp only [Act.put,stA,st0,st1]
   refine tkg 1 rfl ?_
   simp only [Act.put,stA,st0,st1]
   refine tkg 2 rfl ?_
   simp only [Act.put,stA,st0,st1]
   refine tkg 3 rfl ?_
   simp only [Act.put,stA,st0,st1]
   refine tkg 4 rfl ?_
   simp only [Act.put,stA,st0,st1]
   refine tkg 5 rfl ?_
   simp only [Act.put,stA,st0,st1]
   refine tkg 6 rfl ?_
   simp only [Act.put,stA,st0,st1]
   refine tkg 7 rfl ?_
   simp only [Act.put,stA,st0,st1]
   refine tkg 8 rfl ?_
   simp only [Act.put,stA,st0,st1]
   refine tkg 9 rfl ?_
   simp only [Act.put,stA,st0,st1]
   refine ar1 10 rfl (fun K hK=>?_)
   go_simp
   refine hK.out _ _ (cell_alloc cd _) (fun _=>?_)
   clear hK K
   refine ar1 11 rfl (fun K hK=>?_)
   have hsl:=(Row.new wr.drew 95 (C .u32 [y,z])).slAll (by simp [C];unfold maxLen;omega)
   refine wp_append_sl _ _ 68 rfl (w.heap.size + 1) 95 (.int .u32 0) 4 Tryz.underlying68 inf32 rfl v (2 * k) _ rfl (own_below od ((Below.refl wr.drew.heap.size wr.drew).alloc (Nat.le_refl _) _)) _ (C .u32 [y,z]) rfl hsl (C_one _ _) (by simp [C];unfold maxLen;omega) (by simp [C];omega) (by show _ ≤ (wr.alloc _).heap.size;rw [alloc_size];omega) ?_
   intro v2 w3 o2 hg3
   have hne:∀ b,v.ownBlock = some b → w.heap.size + 1 ≤ b:=fun b e=>(od.lt b e).1
   have r3:=(r1.alloc (.cells (C .u32 [y,z]).toArray 95)).grown hg3 (fun e=>by have:=hne _ e.symm;omega)
   have hL3:=(hL.alloc hL.size (.cells (C .u32 [y,z]).toArray 95)).grown hg3 (by have:=hL.size;rw [alloc_size];omega) (fun b e=>by have:=hne b e;omega)
   have hs3:(wr.alloc (.cells (C .u32 [y,z]).toArray 95)).heap.size ≤ w3.heap.size:=hg3.size
   rw [alloc_size] at hs3
   have hs4:wr.drew.heap.size = wr.heap.size:=rfl
   have c3:w3.cell? ⟨w.heap.size,k,none⟩ = some (.int .u64 (x:Int)):=(r3.cell k).trans ((r1.cell k).symm.trans cd)
   refine hK.out _ _ (c3) (fun _=>?_)
   clear hK K
   refine tkg 12 rfl ?_
   simp only [Act.put,stA,st0,st1]
   refine wpAnyH_done (by kernel_rfl) ?_ _
   refine NoPanic.normal ?_
   go_wp2
   go_roundw
   case rel=>exact ⟨k + 1,_,by omega,by go_num,rfl,by rw [HN.out];simpa [C,Nat.mul_add] using o2,r3,hL3,by omega⟩
   case measure=>simp [intOf];omega
  ·have HK:Away (k = 4):=⟨by omega⟩
   have dk:decide ((k:Int) < 4) = false:=decide_eq_false (by omega)
   rw [HK.out] at ho
   clear hlt hk
   go_wp2
   go_ret
   exact ⟨_,rfl,⟨dig 4294967296 8 A,SlV.ofOwn ho,dig_lo (by decide) _ _,dig_val (by decide) (by rw [B32_pow];exact hA),by rw [dig_length];exact Nat.le_refl _⟩,hL⟩
set_option maxHeartbeats 1000000 in
theorem snat_any (A:Nat) (hA:A < 115792089237316195423570985008687907853269984665640564039457584007913129639936) (w:World):Calls Tryz.prog 58 #[.agg (C .u64 (wds A)).toArray] w fun e w'=>∃ v',e = .returned v' ∧ Num w' v' A 8 ∧ Below w.heap.size w w':=by
 obtain ⟨i0,hi,hz0,hz1,hz2⟩:=info_parts inf32
 have r1:=Row.new w 32 (C .u64 (wds A))
 have hL:=(Below.more (Below.refl w.heap.size w) (Nat.le_refl _) (.cells (C .u64 (wds A)).toArray 32)).1
 have hs1:=alloc_size w (.cells (C .u64 (wds A)).toArray 32)
 generalize h2:w.alloc (.cells (C .u64 (wds A)).toArray 32) = w2 at *
 have hbi:=Away.mk (fun w k h=>run_index_C (P:=Tryz.prog) w (q:=.u64) Tryz.underlying32 (by kernel_rfl) i1w (wds A) k h (wds_length A))
 have hx:=wds_lo A
 go_enter Tryz.func58,Tryz.ntmps58
 go_upto_region 1 with fail
 try rw [h2]
 go_upto_region 2 with (at_make;refine wpList_make_own _ rfl _ _ 68 rfl (w.heap.size + 1) 95 i0 _ 1 Tryz.underlying68 hi hz0 hz1 _ _ _ 8 rfl rfl rfl (by rw [hz2];decide) (by decide) (by omega) ?_;intro w3 ho hg3)
 have r3:=r1.grown hg3 (by simp)
 have hL3:=hL.grown hg3 (by omega) (by simp)
 have hs3:=hg3.size
 rw [hs1] at ho
 clear r1 hL hg3 h2
 go_wp2_with (refine wpList_load_row rfl 32 _ rfl _ rfl _ _ _ _ r3 Tryz.underlying32 rfl (ie4 _) ?_)
 go_loopw [3,8] (fun v1 i wr=>∃ (k:Nat) (v:Value),k ≤ 4 ∧ i = .int .i64 k ∧ v = v1 ∧ wr.ownsRow (w.heap.size + 1) 95 1 v (2 * k) (C .u32 (hv A k)) ∧ Below w.heap.size w wr ∧ w.heap.size + 1 ≤ wr.heap.size) (fun _ i _=>4 - (intOf i).toNat)
 case atStart=>exact ⟨0,_,Nat.zero_le _,rfl,rfl,ho,hL3,by omega⟩
 case round =>
  clear ho r3 hL3
  obtain ⟨k,v,hk,rfl,rfl,ho,hL,hsz⟩:=hrel
  by_cases hlt:k < 4
  ·have hix:=fun w=>hbi.out w k hlt
   have bx:=hx.getD (by decide) k
   have HN:=Away.mk (hv_step hA hlt)
   generalize (wds A).getD k 0 = x at *
   obtain ⟨y,hy⟩:∃ y,x % 4294967296 = y:=⟨_,rfl⟩
   obtain ⟨z,hz⟩:∃ z,x / 4294967296 = z:=⟨_,rfl⟩
   rw [hy,hz] at HN
   have ey:IntKind.u32.wrap (x:Int) = (y:Int):=by rw [IntKind.wrap_u32];omega
   have ey':(x:Int) % 4294967296 = (y:Int):=by omega
   have ez:(x:Int) / 4294967296 = (z:Int):=by omega
   have ez2:IntKind.u32.wrap (z:Int) = (z:Int):=by rw [IntKind.wrap_u32];omega
   have ez3:(z:Int) % 4294967296 = (z:Int):=by omega
   have bk:(k:Int) < 4:=by omega
   clear hy hz bx
   have hsl:=(Row.new wr 95 (C .u32 [y,z])).slAll (by simp [C];unfold maxLen;omega)
   have oa:=own_below ho ((Below.refl wr.heap.size wr).alloc (Nat.le_refl _) (.cells (C .u32 [y,z]).toArray 95))
   have hLa:=hL.alloc hL.size (.cells (C .u32 [y,z]).toArray 95)
   have hsa:=alloc_size wr (.cells (C .u32 [y,z]).toArray 95)
   have hne:∀ b,v.ownBlock = some b → w.heap.size + 1 ≤ b:=fun b e=>(ho.lt b e).1
   have HNE:=Away.mk hne
   clear hne
   go_wp2_with (at_builtin;refine wpList_append_sl rfl (.tmp 11) (.tmp 17) 68 rfl (w.heap.size + 1) 95 (.int .u32 0) 4 Tryz.underlying68 inf32 rfl v (2 * k) _ rfl oa _ (C .u32 [y,z]) rfl hsl (C_one _ _) (by simp [C];unfold maxLen;omega) (by simp [C];omega) (by simp;omega) ?_)
   intro v2 w3 o2 hg3
   have hL3:=hLa.grown hg3 (by omega) (fun b e=>by have:=HNE.out b e;omega)
   have hs3:(wr.alloc (.cells (C .u32 [y,z]).toArray 95)).heap.size ≤ w3.heap.size:=hg3.size
   clear oa hsl hLa hix
   go_wp2
   go_roundw
   case rel=>exact ⟨k + 1,_,by omega,by go_num,rfl,by rw [HN.out];simpa [C,Nat.mul_add] using o2,hL3,by omega⟩
   case measure=>simp [intOf];omega
  ·have HK:Away (k = 4):=⟨by omega⟩
   have dk:decide ((k:Int) < 4) = false:=decide_eq_false (by omega)
   rw [HK.out] at ho
   clear hlt hk hbi
   go_wp2
   go_ret
   exact ⟨_,rfl,⟨dig 4294967296 8 A,SlV.ofOwn ho,dig_lo (by decide) _ _,dig_val (by decide) (by rw [B32_pow];exact hA),by rw [dig_length];exact Nat.le_refl _⟩,hL⟩
theorem div_a {va vb:Value} {A B K L:Nat} (w:World) (ha:Num w va A K) (hb:Num w vb B L) (hK:K ≤ 1000) (hL:L ≤ 1000) (h0:B ≠ 0) :
  Calls Tryz.prog 97 #[va,vb] w fun e w'=>∃ v1 v2,e = .returned (.tuple #[v1,v2,.int .i64 0]) ∧ Ans w.heap.size w' v2 (A % B) ∧ Below w.heap.size w w':=by
 obtain ⟨xs,h1,h2,h3,h4⟩:=ha
 obtain ⟨ys,g1,g2,g3,g4⟩:=hb
 subst h3;subst g3
 exact (div_any va vb xs ys w h1 g1 h2 g2 (by omega) (by omega) h0).mono fun e w' ⟨v,u,he,ans,ans2,hbl⟩=>⟨v,u,he,ans2,hbl⟩
theorem refdiv_a {va vb:Value} {A B K L:Nat} (w:World) (ha:Num w va A K) (hb:Num w vb B L) (hK:K ≤ 1000) (hL:L ≤ 1000) (h0:B ≠ 0) :
  Calls Tryz.prog 103 #[va,vb] w fun e w'=>∃ v1 v2,e = .returned (.tuple #[v1,v2,.int .i64 0]) ∧ RA w' v2 (A % B) ∧ Below w.heap.size w w':=by
 obtain ⟨xs,h1,h2,h3,h4⟩:=ha
 obtain ⟨ys,g1,g2,g3,g4⟩:=hb
 subst h3;subst g3
 exact (refdiv_any va vb xs ys w h1 g1 h2 g2 (by omega) (by omega) h0).mono fun e w' ⟨v,u,he,ans,ans2,hbl⟩=>⟨v,u,he,ans2,hbl⟩
theorem ans_at {B:Nat} {w:World} {v:Value} {N:Nat} (h:Ans B w v N) (hN:N < 115792089237316195423570985008687907853269984665640564039457584007913129639936):∃ (zs:List Nat) (a:Option Addr) (cap n g:Nat) (rest:List Value),zs.length = n ∧ n ≤ 8 ∧ Lo 4294967296 zs ∧ val 4294967296 zs = N ∧ v = .slice a n cap ∧ (0 < n → a = some ⟨g,0,none⟩ ∧ B ≤ g ∧ Row w g 95 (C .u32 zs ++ rest)):=by
 obtain ⟨zs,h1,h2,h3⟩:=h
 have hl:zs.length ≤ 8:=(h1.len (by decide) 8).2 (by rw [show W32 = 4294967296 from rfl,B32_pow];exact hN)
 obtain ⟨a,cap,rfl,_,_⟩:=h2.shapeC rfl
 by_cases hp:0 < zs.length
 ·obtain ⟨g,rest,e,hg,hr⟩:=h3 hp
  simp only [Value.slice.injEq] at e
  exact ⟨zs,a,cap,_,g,rest,rfl,hl,h1.2.1,h1.1,rfl,fun _=>⟨e.1,hg,hr⟩⟩
 ·exact ⟨zs,a,cap,_,0,[],rfl,hl,h1.2.1,h1.1,rfl,fun h=>absurd h hp⟩
set_option maxHeartbeats 4000000 in
theorem sleft_any (va:Value) (N K:Nat) (hK:K ≤ 900) (w:World) (ha:Num w va N K) (hT:Glob w 1 Lq):Calls Tryz.prog 52 #[va] w fun e w'=>e = .returned (.agg (C .u64 (wds (N % Lq))).toArray) ∧ Below w.heap.size w w':=by
 obtain ⟨w2,h2,r2,q4,hL,hS⟩:=rows2 w 32 32 (C .u64 (Z 4)) (C .u64 (Z 4))
 have HA:=Away.mk (ha.below hL)
 obtain ⟨tg,fg,hTg⟩:=hT.below hL
 clear ha
 go_enter Tryz.func52,Tryz.ntmps52
 go_upto_region 2 with (refine wpList_alloc_row rfl 32 rfl _ z4 ?_)
 try simp only [Act.put,stA,st0,st1,alloc_size,h2]
 clear h2
 go_wp2_with (first | refine wpList_load_row rfl 32 _ rfl _ rfl _ _ _ _ hTg Tryz.underlying32 rfl (ie4 _) ?_)
 refine (snat_any Lq Lq_lt _).mono ?_
 rintro _ wn ⟨v1,rfl,hN,hb⟩
 replace r2:=r2.belowS hb
 replace q4:=q4.belowS hb
 replace hL:=hL.trans (hb.mono hL.size)
 have HA2:=Away.mk (HA.out.below hb)
 have hsz:=hb.size
 clear hTg hb HA
 go_wp2_with fail
 refine (div_a wn HA2.out hN (by omega) (by omega) (by decide)).mono ?_
 rintro _ wm ⟨v2,v3,rfl,hR,hb⟩
 replace r2:=r2.belowS hb
 replace q4:=q4.belowS hb
 replace hL:=hL.trans (hb.mono hL.size)
 obtain ⟨zs,ad,cap,n,g,rest,hn,hn8,hzlo,hzv,rfl,hrow⟩:=ans_at hR (mod_Lq_T N)
 have HR:Away (0 < n → ad = some ⟨g,0,none⟩ ∧ w.heap.size + 1 < g ∧ Row wm g 95 (C .u32 zs ++ rest)):=⟨fun h=>by obtain ⟨h1,h2,h3⟩:=hrow h;exact ⟨h1,by omega,h3⟩⟩
 have HZ:=Away.mk hzv
 have hz0:val 4294967296 (zs.take 0) = 0:=by rw [List.take_zero];rfl
 rw [show Z 4 = wds (val 4294967296 (zs.take 0)) by rw [hz0];rfl] at q4
 rw [show Z 4 = wds 0 from rfl] at r2
 clear hb HA2 hN hR hrow hzv hsz hz0
 go_wp2
 go_loopw [19] (fun i wr=>∃ k:Nat,k ≤ n ∧ i = .int .i64 k ∧ Row wr w.heap.size 32 (C .u64 (wds 0)) ∧ Row wr (w.heap.size + 1) 32 (C .u64 (wds (val 4294967296 (zs.take k)))) ∧ Away (0 < n → ad = some ⟨g,0,none⟩ ∧ w.heap.size + 1 < g ∧ Row wr g 95 (C .u32 zs ++ rest)) ∧ Below w.heap.size w wr) (fun i _=>n - (intOf i).toNat)
 case atStart=>exact ⟨0,Nat.zero_le _,rfl,r2,q4,HR,hL⟩
 case round =>
  clear r2 q4 hL HR
  obtain ⟨k,hk,rfl,r2,q4,HR,hL⟩:=hrel
  by_cases hlt:k < n
  ·obtain ⟨rfl,hgl,rg⟩:=HR.out (by omega)
   have cg:=rg.cell k
   rw [List.getElem?_append_left (by rw [C_length];omega),C_get .u32 (by omega)] at cg
   have bx:=hzlo.getD (by decide) k
   have hv:=val_take_lt (B:=4294967296) (by decide) hzlo k
   obtain ⟨hs1,hs2,hs3⟩:=half_set (show k < 8 by omega) hv bx
   rw [← val_take_succ] at hs1
   have lV:=wds_length (val 4294967296 (zs.take k))
   have hwlo:=(wds_lo (val 4294967296 (zs.take k))).getD (by decide) (k / 2)
   generalize wds (val 4294967296 (zs.take k)) = V at *
   have c4:=q4.cell (k / 2)
   rw [C_get .u64 (by omega)] at c4
   have hf:=q4.frozen (k / 2)
   obtain ⟨q,hq⟩:∃ q,k / 2 = q:=⟨_,rfl⟩
   obtain ⟨r,hr⟩:∃ r,k % 2 = r:=⟨_,rfl⟩
   rw [hq] at c4 hs1 hs2 hf hwlo
   rw [hr] at hs1 hs2
   obtain ⟨s,hs⟩:∃ s,32 * r = s:=⟨_,rfl⟩
   rw [hs] at hs1 hs2
   generalize V.getD q 0 = a at *
   generalize zs.getD k 0 = x at *
   have hps:(2:Nat) ^ s ≤ 2 ^ 32:=Nat.pow_le_pow_right (by decide) (by omega)
   have hxs:x * 2 ^ s < 18446744073709551616 - 2 ^ 32 + 1:=Nat.lt_of_le_of_lt (Nat.mul_le_mul (show x ≤ 4294967296 - 1 by omega) hps) (by decide)
   have hor:=or_add (x:=x) hs2
   have cx:(x:Int) * 2 ^ s = ((x * 2 ^ s:Nat):Int):=by simp
   have hps2:(2:Nat) ^ s < 2 ^ 33:=Nat.lt_of_le_of_lt hps (by decide)
   obtain ⟨m,hm⟩:∃ m,x * 2 ^ s = m:=⟨_,rfl⟩
   rw [hm] at hs1 hxs hor cx
   generalize hPS:(2:Nat) ^ s = ps at *
   have hml:m < 18446744073709551616:=by omega
   have hal:a < 4294967296:=by have e:=hps;simp at e;omega
   have es:IntKind.u64.wrap ((x:Int) * 2 ^ s) = (m:Int):=by rw [cx,IntKind.wrap_u64];omega
   obtain ⟨z,hz⟩:∃ z,a + m = z:=⟨_,rfl⟩
   rw [hz] at hs1 hor
   have hzl:z < 18446744073709551616:=by simp at hxs;omega
   have eo:bits .or .u64 (a:Int) (m:Int) = (z:Int):=by rw [u64_or_nat a m hwlo hml,hor]
   have ea:IntKind.u64.wrap ((a:Int) + (m:Int)) = (z:Int):=by rw [IntKind.wrap_u64];omega
   have ex:IntKind.u64.wrap (x:Int) = (x:Int):=by rw [IntKind.wrap_u64];omega
   have dq:(k:Int).tdiv 2 = (q:Int):=by rw [Int.tdiv_eq_ediv_of_nonneg (by omega)];omega
   have dq':(k:Int) / 2 = (q:Int):=by omega
   have bq:(q:Int) < 4:=by omega
   have dr:(k:Int).tmod 2 = (r:Int):=by rw [Int.tmod_eq_emod_of_nonneg (by omega)];omega
   have dr':(k:Int) % 2 = (r:Int):=by omega
   have ds:IntKind.i64.wrap ((r:Int) * 32) = (s:Int):=by rw [IntWalk.i64_in _ ⟨by omega,by omega⟩];omega
   have ds':(r:Int) * 32 = (s:Int):=by omega
   have du:IntKind.u64.wrap (s:Int) = (s:Int):=by rw [IntKind.wrap_u64];omega
   have bs:(s:Int) < 64:=by omega
   have bk:(k:Int) < (n:Int):=by omega
   have bk8:(k:Int) < 8:=by omega
   have wq:IntKind.i64.wrap (q:Int) = (q:Int):=by rw [IntWalk.i64_in _ ⟨by omega,by omega⟩]
   have wr':IntKind.i64.wrap (r:Int) = (r:Int):=by rw [IntWalk.i64_in _ ⟨by omega,by omega⟩]
   have ws':IntKind.i64.wrap (s:Int) = (s:Int):=by rw [IntWalk.i64_in _ ⟨by omega,by omega⟩]
   have HV:=Away.mk hs1
   have m2:=r2.drew.other (i:=q) (.int .u64 (z:Int)) (show w.heap.size ≠ w.heap.size + 1 by omega)
   have m4:=row_set q4.drew q z
   have mg:=rg.drew.other (i:=q) (.int .u64 (z:Int)) (show g ≠ w.heap.size + 1 by omega)
   have mL:=(below_drawn hL).setCell (p:=⟨w.heap.size + 1,q,none⟩) (by simp) (.int .u64 (z:Int))
   clear hs1 hs2 hs3 hv bx hq hr hs hps hps2 hxs hor cx hm hPS hml hal hz hzl hwlo r2 q4 hL lV rg HR
   go_wp2
   refine wp_region_noPanic ?_
   refine wp_region_U (S:=fun w'=>w'.cell? ⟨w.heap.size + 1,q,none⟩ = some (.int .u64 (a:Int))) 12 (by kernel_rfl) (c4) (fun _=>?_)
   refine tkU 0 ?v0r rfl ?h0r ?_
   case h0r=>intro w hSw;go_simp <;> with_reducible rfl
   simp only [Act.put,stA,st0,st1]
   refine tkU 1 ?v1r rfl ?h1r ?_
   case h1r=>intro w hSw;go_simp <;> with_reducible rfl
   simp only [Act.put,stA,st0,st1]
   refine tkU 2 ?v2r rfl ?h2r ?_
   case h2r=>intro w hSw;go_simp <;> with_reducible rfl
   simp only [Act.put,stA,st0,st1]
   refine tkU 3 ?v3r rfl ?h3r ?_
   case h3r=>intro w hSw;go_simp <;> with_reducible rfl
   simp only [Act.put,stA,st0,st1]
   refine tkU 4 ?v4r rfl ?h4r ?_
   case h4r=>intro w hSw;go_simp <;> with_reducible rfl
   simp only [Act.put,stA,st0,st1]
   refine tkU 5 ?v5r rfl ?h5r ?_
   case h5r=>intro w hSw;go_simp <;> with_reducible rfl
   simp only [Act.put,stA,st0,st1]
   refine tkU 6 ?v6r rfl ?h6r ?_
   case h6r=>intro w hSw;go_simp <;> with_reducible rfl
   simp only [Act.put,stA,st0,st1]
   refine tkU 7 ?v7r rfl ?h7r ?_
   case h7r=>intro w hSw;go_simp <;> with_reducible rfl
   simp only [Act.put,stA,st0,st1]
   refine tkU 8 ?v8r rfl ?h8r ?_
   case h8r=>intro w hSw;go_simp <;> with_reducible rfl
   simp only [Act.put,stA,st0,st1]
   refine tkU 9 ?v9r rfl ?h9r ?_
   case h9r=>intro w hSw;go_simp <;> with_reducible rfl
   simp only [Act.put,stA,st0,st1]
   refine tkU 10 ?v10r rfl ?h10r ?_
   case h10r=>intro w hSw;go_simp <;> with_reducible rfl
   simp only [Act.put,stA,st0,st1]
   refine tkU 11 ?v11r rfl ?h11r ?_
   case h11r=>intro w hSw;go_simp <;> with_reducible rfl
   simp only [Act.put,stA,st0,st1]
   refine wpAnyU_oneL (i:=12) (by kernel_rfl) rfl (by rfl) (fun K hK=>?_)
   have c4d:wr.drew.cell? ⟨w.heap.size + 1,q,none⟩ = some (.int .u64 (a:Int)):=c4
   have hfd:wr.drew.frozen? ⟨w.heap.size + 1,q,none⟩ = false:=hf
   go_simp
   refine hK.out _ _ (fun hz=>absurd rfl hz) (fun _=>?_)
   clear hK K
   refine wpAnyU_done (by kernel_rfl) ?_ _
   refine NoPanic.normal ?_
   clear c4 hf cg
   go_wp2
   go_roundw
   case rel=>exact ⟨k + 1,by omega,by go_num,m2,by rw [← HV.out];exact m4,⟨fun _=>⟨by simp,hgl,mg⟩⟩,mL⟩
   case measure=>simp [intOf];omega
  ·have HK:Away (k = n):=⟨by omega⟩
   have dk:decide (k < n) = false:=decide_eq_false (by omega)
   rw [HK.out,List.take_of_length_le (Nat.le_of_eq hn),HZ.out] at q4
   clear hlt hk HR
   go_wp2_with (first | refine wpList_load_row rfl 32 _ rfl _ rfl _ _ _ _ q4 Tryz.underlying32 rfl (ie4 _) ?_ | (refine wpList_store_R rfl 32 _ _ rfl _ (C .u64 (wds (N % Lq))) rfl rfl r2 (ie4 _) (ee4 _ _) (C_allL _ _) ?_;intro w7 q7 hg7 hz7))
   exact result_row Tryz.results52 rfl q7 Tryz.underlying32 rfl (ie4 _) rfl ⟨rfl,below_grown hL hg7 (by omega) r2.lt⟩
theorem bLq:Tryz.prog.built 32 [(0,.int .u64 6346243789798364141),(1,.int .u64 1503914060200516822),(2,.int .u64 0),(3,.int .u64 1152921504606846976)] = some (C .u64 (wds Lq)).toArray:=by kernel_rfl
theorem reforder_any (w:World):Calls Tryz.prog 16 #[] w fun e w'=>e = .returned (.agg (C .u64 (wds Lq)).toArray) ∧ Below w.heap.size w w':=by
 have r1:=Row.new w 32 (C .u64 (Z 4))
 have hL:=(Below.more (Below.refl w.heap.size w) (Nat.le_refl _) (.cells (C .u64 (Z 4)).toArray 32)).1
 go_enter Tryz.func16,Tryz.ntmps16
 go_wp2_with (first | refine wpList_alloc_row rfl 32 rfl _ z4 ?_ | refine wpList_build_C rfl 32 _ rfl _ bLq ?_ | (refine wpList_store_R rfl 32 _ _ rfl _ (C .u64 (wds Lq)) rfl rfl r1 (ie4 _) (ze4 _) (C_allL _ _) ?_;intro w5 hR5 hg5 hz5))
 exact result_row Tryz.results16 rfl hR5 Tryz.underlying32 rfl (ie4 _) rfl ⟨rfl,below_grown hL hg5 (by omega) r1.lt⟩
set_option maxHeartbeats 4000000 in
theorem refleft_any (va:Value) (N K:Nat) (hK:K ≤ 900) (w:World) (ha:Num w va N K):Calls Tryz.prog 63 #[va] w fun e w'=>e = .returned (.agg (C .u64 (wds (N % Lq))).toArray) ∧ Below w.heap.size w w':=by
 have r2:=Row.new w 32 (C .u64 (Z 4))
 have hL:=(Below.more (Below.refl w.heap.size w) (Nat.le_refl _) (.cells (C .u64 (Z 4)).toArray 32)).1
 have HA:=Away.mk (ha.below hL)
 clear ha
 go_enter Tryz.func63,Tryz.ntmps63
 go_upto_region 1 with (refine wpList_alloc_row rfl 32 rfl _ z4 ?_)
 generalize w.alloc (.cells (C .u64 (Z 4)).toArray 32) = w2 at *
 go_wp2_with fail
 refine (reforder_any _).mono ?_
 rintro _ wo ⟨rfl,hb⟩
 replace r2:=r2.belowS hb
 replace hL:=hL.trans (hb.mono hL.size)
 have HA1:=Away.mk (HA.out.below hb)
 clear hb HA
 go_wp2_with fail
 refine (refNatural_any Lq Lq_lt _).mono ?_
 rintro _ wn ⟨v1,rfl,hN,hb⟩
 replace r2:=r2.belowS hb
 replace hL:=hL.trans (hb.mono hL.size)
 have HA2:=Away.mk (HA1.out.below hb)
 clear hb HA1
 go_wp2_with fail
 refine (refdiv_a wn HA2.out hN (by omega) (by omega) (by decide)).mono ?_
 rintro _ wm ⟨v2,v3,rfl,hR,hb⟩
 replace r2:=r2.belowS hb
 replace hL:=hL.trans (hb.mono hL.size)
 obtain ⟨zs,hI,hsl⟩:=hR
 have hn8:zs.length ≤ 8:=(hI.len (by decide) 8).2 (by rw [show W32 = 4294967296 from rfl,B32_pow];exact mod_Lq_T N)
 obtain ⟨n,hn⟩:∃ n,zs.length = n:=⟨_,rfl⟩
 obtain ⟨ad,cap,rfl,_,_⟩:=hsl.shapeC hn
 have hzlo:Lo 4294967296 zs:=hI.2.1
 have HZ:Away (val 4294967296 zs = N % Lq):=⟨hI.1⟩
 have HS:=Away.mk hsl
 have hz0:val 4294967296 (zs.take 0) = 0:=by rw [List.take_zero];rfl
 clear hb HA2 hN hI hsl
 have r4:=Row.new wm 32 (C .u64 (Z 4))
 have hn1:=r2.lt
 replace r2:=r2.alloc (.cells (C .u64 (Z 4)).toArray 32)
 have hLm:Below wm.heap.size wm (wm.alloc (.cells (C .u64 (Z 4)).toArray 32)):=(Below.refl wm.heap.size wm).alloc (Nat.le_refl _) _
 replace hL:=hL.alloc hL.size (.cells (C .u64 (Z 4)).toArray 32)
 obtain ⟨gq,hgq⟩:∃ gq,wm.heap.size = gq:=⟨_,rfl⟩
 rw [hgq] at r4 hLm hn1
 have HG:=Away.mk hgq
 go_upto_region 3 with (first | refine wpList_alloc_row rfl 32 rfl _ z4 ?_ | refine wpList_build_Z rfl 32 rfl _ b4 ?_ | (refine wpList_store_R rfl 32 _ _ rfl _ (C .u64 (Z 4)) (by rw [← hgq];rfl) rfl r4 i4 rfl (C_allL _ _) ?_;intro w5 q4 hg5 hz5))
 replace r2:=r2.grown hg5 (by simp;omega)
 replace hL:=below_grown hL hg5 (by omega) r4.lt
 replace hLm:=below_grown hLm hg5 (by omega) r4.lt
 try rw [hgq]
 clear r4 hg5 hz5 hgq
 rw [show Z 4 = wds (val 4294967296 (zs.take 0)) by rw [hz0];rfl] at q4
 rw [show Z 4 = wds 0 from rfl] at r2
 clear hz0
 go_wp2
 go_loopw [7] (fun i wr=>∃ k:Nat,k ≤ n ∧ i = .int .i64 k ∧ Row wr w.heap.size 32 (C .u64 (wds 0)) ∧ Row wr gq 32 (C .u64 (wds (val 4294967296 (zs.take k)))) ∧ Below gq wm wr ∧ Below w.heap.size w wr) (fun i _=>n - (intOf i).toNat)
 case atStart=>exact ⟨0,Nat.zero_le _,rfl,r2,q4,hLm,hL⟩
 case round =>
  clear r2 q4 hL hLm
  obtain ⟨k,hk,rfl,r2,q4,hLm,hL⟩:=hrel
  by_cases hlt:k < n
  ·obtain ⟨gb,off,rfl,hgb⟩:=HS.out.old (by rw [C_length];omega)
   have cb:=(HS.out.below (by rw [HG.out];exact hLm)).cellAt (C_get .u32 (i:=k) (by omega))
   have bx:=hzlo.getD (by decide) k
   have hv:=val_take_lt (B:=4294967296) (by decide) hzlo k
   obtain ⟨hs1,hs2,hs3⟩:=half_set (show k < 8 by omega) hv bx
   rw [← val_take_succ] at hs1
   have lV:=wds_length (val 4294967296 (zs.take k))
   have hwlo:=(wds_lo (val 4294967296 (zs.take k))).getD (by decide) (k / 2)
   generalize wds (val 4294967296 (zs.take k)) = V at *
   have c4:=q4.cell (k / 2)
   rw [C_get .u64 (by omega)] at c4
   have hf:=q4.frozen (k / 2)
   obtain ⟨q,hq⟩:∃ q,k / 2 = q:=⟨_,rfl⟩
   obtain ⟨r,hr⟩:∃ r,k % 2 = r:=⟨_,rfl⟩
   rw [hq] at c4 hs1 hs2 hf hwlo
   rw [hr] at hs1 hs2
   obtain ⟨s,hs⟩:∃ s,32 * r = s:=⟨_,rfl⟩
   rw [hs] at hs1 hs2
   generalize V.getD q 0 = a at *
   generalize zs.getD k 0 = x at *
   have hps:(2:Nat) ^ s ≤ 2 ^ 32:=Nat.pow_le_pow_right (by decide) (by omega)
   have hxs:x * 2 ^ s < 18446744073709551616 - 2 ^ 32 + 1:=Nat.lt_of_le_of_lt (Nat.mul_le_mul (show x ≤ 4294967296 - 1 by omega) hps) (by decide)
   have hor:=or_add (x:=x) hs2
   have cx:(x:Int) * 2 ^ s = ((x * 2 ^ s:Nat):Int):=by simp
   have hps2:(2:Nat) ^ s < 2 ^ 33:=Nat.lt_of_le_of_lt hps (by decide)
   obtain ⟨m,hm⟩:∃ m,x * 2 ^ s = m:=⟨_,rfl⟩
   rw [hm] at hs1 hxs hor cx
   generalize hPS:(2:Nat) ^ s = ps at *
   have hml:m < 18446744073709551616:=by omega
   have hal:a < 4294967296:=by have e:=hps;simp at e;omega
   have es:IntKind.u64.wrap ((x:Int) * 2 ^ s) = (m:Int):=by rw [cx,IntKind.wrap_u64];omega
   obtain ⟨z,hz⟩:∃ z,a + m = z:=⟨_,rfl⟩
   rw [hz] at hs1 hor
   have hzl:z < 18446744073709551616:=by simp at hxs;omega
   have eo:bits .or .u64 (a:Int) (m:Int) = (z:Int):=by rw [u64_or_nat a m hwlo hml,hor]
   have ea:IntKind.u64.wrap ((a:Int) + (m:Int)) = (z:Int):=by rw [IntKind.wrap_u64];omega
   have ex:IntKind.u64.wrap (x:Int) = (x:Int):=by rw [IntKind.wrap_u64];omega
   have dq:(k:Int).tdiv 2 = (q:Int):=by rw [Int.tdiv_eq_ediv_of_nonneg (by omega)];omega
   have dq':(k:Int) / 2 = (q:Int):=by omega
   have bq:(q:Int) < 4:=by omega
   have dr:(k:Int).tmod 2 = (r:Int):=by rw [Int.tmod_eq_emod_of_nonneg (by omega)];omega
   have dr':(k:Int) % 2 = (r:Int):=by omega
   have ds:IntKind.i64.wrap (32 * (r:Int)) = (s:Int):=by rw [IntWalk.i64_in _ ⟨by omega,by omega⟩];omega
   have ds':32 * (r:Int) = (s:Int):=by omega
   have du:IntKind.u64.wrap (s:Int) = (s:Int):=by rw [IntKind.wrap_u64];omega
   have bs:(s:Int) < 64:=by omega
   have bk:(k:Int) < (n:Int):=by omega
   have bk8:(k:Int) < 8:=by omega
   have wq:IntKind.i64.wrap (q:Int) = (q:Int):=by rw [IntWalk.i64_in _ ⟨by omega,by omega⟩]
   have wr':IntKind.i64.wrap (r:Int) = (r:Int):=by rw [IntWalk.i64_in _ ⟨by omega,by omega⟩]
   have ws':IntKind.i64.wrap (s:Int) = (s:Int):=by rw [IntWalk.i64_in _ ⟨by omega,by omega⟩]
   have HV:=Away.mk hs1
   have m2:=r2.drew.other (i:=q) (.int .u64 (z:Int)) (show w.heap.size ≠ gq by omega)
   have m4:=row_set q4.drew q z
   have mL:=(below_drawn hL).setCell (p:=⟨gq,q,none⟩) (by simp;omega) (.int .u64 (z:Int))
   have mLm:=(below_drawn hLm).setCell (p:=⟨gq,q,none⟩) (by simp) (.int .u64 (z:Int))
   have c4d:wr.drew.cell? ⟨gq,q,none⟩ = some (.int .u64 (a:Int)):=c4
   have hfd:wr.drew.frozen? ⟨gq,q,none⟩ = false:=hf
   have cbd:wr.drew.cell? ⟨gb,off + k,none⟩ = some (.int .u32 (x:Int)):=cb
   clear hs1 hs2 hs3 hv bx hq hr hs hps hps2 hxs hor cx hm hPS hml hal hz hzl hwlo r2 q4 hL hLm lV c4 hf cb
   go_wp2
   refine wp_region_noPanic ?_
   refine wp_region_U (S:=fun w'=>w'.cell? ⟨gq,q,none⟩ = some (.int .u64 (a:Int)) ∧ w'.cell? ⟨gb,off + k,none⟩ = some (.int .u32 (x:Int))) 18 (by kernel_rfl) (⟨c4d,cbd⟩) (fun _=>?_)
   refine tkU 0 ?v0s rfl ?h0s ?_
   case h0s=>intro w hSw;obtain ⟨hS1,hS2⟩:=hSw;go_simp <;> with_reducible rfl
   simp only [Act.put,stA,st0,st1]
   refine tkU 1 ?v1s rfl ?h1s ?_
   case h1s=>intro w hSw;obtain ⟨hS1,hS2⟩:=hSw;go_simp <;> with_reducible rfl
   simp only [Act.put,stA,st0,st1]
   refine tkU 2 ?v2s rfl ?h2s ?_
   case h2s=>intro w hSw;obtain ⟨hS1,hS2⟩:=hSw;go_simp <;> with_reducible rfl
   simp only [Act.put,stA,st0,st1]
   refine tkU 3 ?v3s rfl ?h3s ?_
   case h3s=>intro w hSw;obtain ⟨hS1,hS2⟩:=hSw;go_simp <;> with_reducible rfl
   simp only [Act.put,stA,st0,st1]
   refine tkU 4 ?v4s rfl ?h4s ?_
   case h4s=>intro w hSw;obtain ⟨hS1,hS2⟩:=hSw;go_simp <;> with_reducible rfl
   simp only [Act.put,stA,st0,st1]
   refine tkU 5 ?v5s rfl ?h5s ?_
   case h5s=>intro w hSw;obtain ⟨hS1,hS2⟩:=hSw;go_simp <;> with_reducible rfl
   simp only [Act.put,stA,st0,st1]
   refine tkU 6 ?v6s rfl ?h6s ?_
   case h6s=>intro w hSw;obtain ⟨hS1,hS2⟩:=hSw;go_simp <;> with_reducible rfl
   simp only [Act.put,stA,st0,st1]
   refine tkU 7 ?v7s rfl ?h7s ?_
   case h7s=>intro w hSw;obtain ⟨hS1,hS2⟩:=hSw;go_simp <;> with_reducible rfl
   simp only [Act.put,stA,st0,st1]
   refine tkU 8 ?v8s rfl ?h8s ?_
   case h8s=>intro w hSw;obtain ⟨hS1,hS2⟩:=hSw;go_simp <;> with_reducible rfl
   simp only [Act.put,stA,st0,st1]
   refine tkU 9 ?v9s rfl ?h9s ?_
   case h9s=>intro w hSw;obtain ⟨hS1,hS2⟩:=hSw;go_simp <;> with_reducible rfl
   simp only [Act.put,stA,st0,st1]
   refine tkU 10 ?v10s rfl ?h10s ?_
   case h10s=>intro w hSw;obtain ⟨hS1,hS2⟩:=hSw;go_simp <;> with_reducible rfl
   simp only [Act.put,stA,st0,st1]
   refine tkU 11 ?v11s rfl ?h11s ?_
   case h11s=>intro w hSw;obtain ⟨hS1,hS2⟩:=hSw;go_simp <;> with_reducible rfl
   simp only [Act.put,stA,st0,st1]
   refine tkU 12 ?v12s rfl ?h12s ?_
   case h12s=>intro w hSw;obtain ⟨hS1,hS2⟩:=hSw;go_simp <;> with_reducible rfl
   simp only [Act.put,stA,st0,st1]
   refine tkU 13 ?v13s rfl ?h13s ?_
   case h13s=>intro w hSw;obtain ⟨hS1,hS2⟩:=hSw;go_simp <;> with_reducible rfl
   simp only [Act.put,stA,st0,st1]
   refine tkU 14 ?v14s rfl ?h14s ?_
   case h14s=>intro w hSw;obtain ⟨hS1,hS2⟩:=hSw;go_simp <;> with_reducible rfl
   simp only [Act.put,stA,st0,st1]
   refine tkU 15 ?v15s rfl ?h15s ?_
   case h15s=>intro w hSw;obtain ⟨hS1,hS2⟩:=hSw;go_simp <;> with_reducible rfl
   simp only [Act.put,stA,st0,st1]
   refine tkU 16 ?v16s rfl ?h16s ?_
   case h16s=>intro w hSw;obtain ⟨hS1,hS2⟩:=hSw;go_simp <;> with_reducible rfl
   simp only [Act.put,stA,st0,st1]
   refine tkU 17 ?v17s rfl ?h17s ?_
   case h17s=>intro w hSw;obtain ⟨hS1,hS2⟩:=hSw;go_simp <;> with_reducible rfl
   simp only [Act.put,stA,st0,st1]
   refine wpAnyU_oneL (i:=18) (by kernel_rfl) rfl (by rfl) (fun K hK=>?_)
   go_simp
   refine hK.out _ _ (fun hz=>absurd rfl hz) (fun _=>?_)
   clear hK K
   refine wpAnyU_done (by kernel_rfl) ?_ _
   refine NoPanic.normal ?_
   clear c4d hfd cbd
   go_wp2
   go_roundw
   case rel=>exact ⟨k + 1,by omega,by go_num,m2,by rw [← HV.out];exact m4,mLm,mL⟩
   case measure=>simp [intOf];omega
  ·have HK:Away (k = n):=⟨by omega⟩
   have dk:decide (k < n) = false:=decide_eq_false (by omega)
   rw [HK.out,List.take_of_length_le (Nat.le_of_eq hn),HZ.out] at q4
   clear hlt hk HS
   go_wp2_with (first | refine wpList_load_row rfl 32 _ rfl _ rfl _ _ _ _ q4 Tryz.underlying32 rfl (ie4 _) ?_ | (refine wpList_store_R rfl 32 _ _ rfl _ (C .u64 (wds (N % Lq))) rfl rfl r2 (ie4 _) (ee4 _ _) (C_allL _ _) ?_;intro w7 q7 hg7 hz7))
   exact result_row Tryz.results63 rfl q7 Tryz.underlying32 rfl (ie4 _) rfl ⟨rfl,below_grown hL hg7 (by omega) r2.lt⟩
theorem ref_add_n {va vb:Value} {A B K L:Nat} (w:World) (ha:Num w va A K) (hb:Num w vb B L) (hK:K ≤ 1000) (hL:L ≤ 1000) :
  Calls Tryz.prog 64 #[va,vb] w fun e w'=>∃ v',e = .returned v' ∧ RA w' v' (A + B) ∧ Below w.heap.size w w':=by
 obtain ⟨xs,h1,h2,h3,h4⟩:=ha
 obtain ⟨ys,g1,g2,g3,g4⟩:=hb
 subst h3;subst g3
 exact refadd_any va vb xs ys w h1 g1 h2 g2 (by omega) (by omega)
theorem ref_mul_n {va vb:Value} {A B K L:Nat} (w:World) (ha:Num w va A K) (hb:Num w vb B L) (hK:K ≤ 1000) (hL:L ≤ 1000) :
  Calls Tryz.prog 66 #[va,vb] w fun e w'=>∃ v',e = .returned v' ∧ RA w' v' (A * B) ∧ Below w.heap.size w w':=by
 obtain ⟨xs,h1,h2,h3,h4⟩:=ha
 obtain ⟨ys,g1,g2,g3,g4⟩:=hb
 subst h3;subst g3
 exact refmul_any va vb xs ys w h1 g1 h2 g2 (by omega) (by omega)
theorem sum_fits {A B:Nat} (hA:A < 115792089237316195423570985008687907853269984665640564039457584007913129639936) (hB:B < 115792089237316195423570985008687907853269984665640564039457584007913129639936):A + B < W32 ^ 9:=Nat.lt_trans (show A + B < 115792089237316195423570985008687907853269984665640564039457584007913129639936 + 115792089237316195423570985008687907853269984665640564039457584007913129639936 by omega) (by decide)
theorem prod_fits {A B:Nat} (hA:A < 115792089237316195423570985008687907853269984665640564039457584007913129639936) (hB:B < 115792089237316195423570985008687907853269984665640564039457584007913129639936):A * B < W32 ^ 16:=Nat.lt_of_lt_of_le (Nat.mul_lt_mul'' hA hB) (by decide)
theorem sreduce_any (A:Nat) (hA:A < 115792089237316195423570985008687907853269984665640564039457584007913129639936) (w:World) (hT:Glob w 1 Lq):Calls Tryz.prog 41 #[.agg (C .u64 (wds A)).toArray] w fun e w'=>e = .returned (.agg (C .u64 (wds (A % Lq))).toArray) ∧ Below w.heap.size w w':=by
 obtain ⟨w4,h4,h⟩:=H1.begin w (C .u64 (wds A)) (C .u64 (Z 4))
 go_enter Tryz.func41,Tryz.ntmps41
 go_upto_region 1 with (refine wpList_alloc_row rfl 32 rfl _ z4 ?_)
 try simp only [Act.put,stA,st0,st1,alloc_size,h4]
 clear h4
 go_wp2_with (refine wpList_load_row rfl 32 _ rfl _ rfl _ _ _ _ h.r1 Tryz.underlying32 rfl (ie4 _) ?_)
 refine (snat_any A hA _).mono ?_
 rintro _ wn ⟨v1,rfl,hN,hb⟩
 replace h:=h.below hb
 clear hb
 go_wp2_with fail
 refine (sleft_any v1 A 8 (by decide) _ hN (hT.below h.bel)).mono ?_
 rintro _ wn2 ⟨rfl,hb⟩
 replace h:=h.below hb
 clear hb hN
 go_wp2_with (refine wpList_store_R rfl 32 _ _ rfl _ (C .u64 (wds (A % Lq))) rfl rfl h.r3 (ie4 _) (ze4 _) (C_allL _ _) ?_;intro w7 q7 hg7 hz7)
 exact result_row Tryz.results41 rfl q7 Tryz.underlying32 rfl (ie4 _) rfl ⟨rfl,below_grown h.bel hg7 (by omega) h.r3.lt⟩
theorem r12reduce_any (A:Nat) (hA:A < 115792089237316195423570985008687907853269984665640564039457584007913129639936) (w:World):Calls Tryz.prog 62 #[.agg (C .u64 (wds A)).toArray] w fun e w'=>e = .returned (.agg (C .u64 (wds (A % Lq))).toArray) ∧ Below w.heap.size w w':=by
 obtain ⟨w4,h4,h⟩:=H1.begin w (C .u64 (wds A)) (C .u64 (Z 4))
 go_enter Tryz.func62,Tryz.ntmps62
 go_upto_region 1 with (refine wpList_alloc_row rfl 32 rfl _ z4 ?_)
 try simp only [Act.put,stA,st0,st1,alloc_size,h4]
 clear h4
 go_wp2_with (refine wpList_load_row rfl 32 _ rfl _ rfl _ _ _ _ h.r1 Tryz.underlying32 rfl (ie4 _) ?_)
 refine (refNatural_any A hA _).mono ?_
 rintro _ wn ⟨v1,rfl,hN,hb⟩
 replace h:=h.below hb
 clear hb
 go_wp2_with fail
 refine (refleft_any v1 A 8 (by decide) _ hN).mono ?_
 rintro _ wn2 ⟨rfl,hb⟩
 replace h:=h.below hb
 clear hb hN
 go_wp2_with (refine wpList_store_R rfl 32 _ _ rfl _ (C .u64 (wds (A % Lq))) rfl rfl h.r3 (ie4 _) (ze4 _) (C_allL _ _) ?_;intro w7 q7 hg7 hz7)
 exact result_row Tryz.results62 rfl q7 Tryz.underlying32 rfl (ie4 _) rfl ⟨rfl,below_grown h.bel hg7 (by omega) h.r3.lt⟩
set_option maxHeartbeats 1000000 in
theorem sadd_any (A B:Nat) (hA:A < 115792089237316195423570985008687907853269984665640564039457584007913129639936) (hB:B < 115792089237316195423570985008687907853269984665640564039457584007913129639936) (w:World) (hT:Glob w 1 Lq):Calls Tryz.prog 25 #[.agg (C .u64 (wds A)).toArray,.agg (C .u64 (wds B)).toArray] w fun e w'=>e = .returned (.agg (C .u64 (wds ((A + B) % Lq))).toArray) ∧ Below w.heap.size w w':=by
 obtain ⟨w4,h4,h⟩:=H2.begin w (C .u64 (wds A)) (C .u64 (wds B)) (C .u64 (Z 4))
 go_enter Tryz.func25,Tryz.ntmps25
 go_upto_region 1 with (refine wpList_alloc_row rfl 32 rfl _ z4 ?_)
 try simp only [Act.put,stA,st0,st1,alloc_size,h4]
 clear h4
 replace h:=h.drew
 refine wp_region_noPanic ?_
 refine wp_region_held_drew (S:=fun w'=>∃ us,H2 w.heap.size w w' (C .u64 (wds A)) (C .u64 (wds B)) us) (by kernel_rfl) ⟨_,h⟩ (fun _=>?_)
 refine tkL 0 (.agg (C .u64 (wds A)).toArray) rfl ?h0z ?_
 case h0z=>intro w hSw;obtain ⟨us,hSw⟩:=hSw;exact exec_load_R 32 _ rfl rfl hSw.r1 Tryz.underlying32 (ie4 A)
 simp only [Act.put,stA,st0,st1]
 refine tkL 2 (.agg (C .u64 (wds B)).toArray) rfl ?h2z ?_
 case h2z=>intro w hSw;obtain ⟨us,hSw⟩:=hSw;exact exec_load_R 32 _ rfl rfl hSw.r2 Tryz.underlying32 (ie4 B)
 simp only [Act.put,stA,st0,st1]
 refine ar1 1 rfl (fun K hK=>?_)
 go_simp
 refine (snat_any A hA _).mono ?_
 rintro _ wn1 ⟨vA,rfl,nA,hb⟩
 replace h:=h.below hb
 clear hb
 refine hK.out _ _ ⟨_,h⟩ (fun _=>?_)
 clear hK K
 refine ar1 3 rfl (fun K hK=>?_)
 go_simp
 refine (snat_any B hB _).mono ?_
 rintro _ wn2 ⟨vB,rfl,nB,hb⟩
 replace h:=h.below hb
 replace nA:=nA.below hb
 clear hb
 refine hK.out _ _ ⟨_,h⟩ (fun _=>?_)
 clear hK K
 refine ar1 4 rfl (fun K hK=>?_)
 go_simp
 refine (add_n _ nA nB (by decide) (by decide)).mono ?_
 rintro _ wn3 ⟨v3,rfl,hR,hb⟩
 replace h:=h.below hb
 clear hb
 refine hK.out _ _ ⟨_,h⟩ (fun _=>?_)
 clear hK K
 refine ar1 5 rfl (fun K hK=>?_)
 go_simp
 refine (sleft_any v3 (A + B) 9 (by decide) _ (hR.num (sum_fits hA hB)) (hT.below h.bel)).mono ?_
 rintro _ wn4 ⟨rfl,hb⟩
 replace h:=h.below hb
 clear hb hR nA nB
 refine hK.out _ _ ⟨_,h⟩ (fun _=>?_)
 clear hK K
 refine ar1 6 rfl (fun K hK=>?_)
 refine wp_store_R 32 _ _ rfl _ (C .u64 (wds ((A + B) % Lq))) rfl rfl h.r3 (ie4 _) (ze4 _) (C_allL _ _) ?_
 intro w7 q7 hg7 hz7
 replace h:H2 w.heap.size w w7 (C .u64 (wds A)) (C .u64 (wds B)) (C .u64 (wds ((A + B) % Lq))):=⟨h.r1.grown hg7 (by simp;omega),h.r2.grown hg7 (by simp),q7,below_grown h.bel hg7 (by omega) h.r3.lt,by have:=h.lt;omega⟩
 refine hK.out _ _ ⟨_,h⟩ (fun _=>?_)
 clear hK K
 refine wpAnyH_done (by kernel_rfl) ?_ _
 refine NoPanic.normal ?_
 go_wp2
 exact result_row Tryz.results25 rfl h.r3 Tryz.underlying32 rfl (ie4 _) rfl ⟨rfl,h.bel⟩
set_option maxHeartbeats 1000000 in
theorem r12add_any (A B:Nat) (hA:A < 115792089237316195423570985008687907853269984665640564039457584007913129639936) (hB:B < 115792089237316195423570985008687907853269984665640564039457584007913129639936) (w:World):Calls Tryz.prog 29 #[.agg (C .u64 (wds A)).toArray,.agg (C .u64 (wds B)).toArray] w fun e w'=>e = .returned (.agg (C .u64 (wds ((A + B) % Lq))).toArray) ∧ Below w.heap.size w w':=by
 obtain ⟨w4,h4,h⟩:=H2.begin w (C .u64 (wds A)) (C .u64 (wds B)) (C .u64 (Z 4))
 go_enter Tryz.func29,Tryz.ntmps29
 go_upto_region 1 with (refine wpList_alloc_row rfl 32 rfl _ z4 ?_)
 try simp only [Act.put,stA,st0,st1,alloc_size,h4]
 clear h4
 replace h:=h.drew
 refine wp_region_noPanic ?_
 refine wp_region_held_drew (S:=fun w'=>∃ us,H2 w.heap.size w w' (C .u64 (wds A)) (C .u64 (wds B)) us) (by kernel_rfl) ⟨_,h⟩ (fun _=>?_)
 refine tkL 0 (.agg (C .u64 (wds A)).toArray) rfl ?h0z ?_
 case h0z=>intro w hSw;obtain ⟨us,hSw⟩:=hSw;exact exec_load_R 32 _ rfl rfl hSw.r1 Tryz.underlying32 (ie4 A)
 simp only [Act.put,stA,st0,st1]
 refine tkL 2 (.agg (C .u64 (wds B)).toArray) rfl ?h2z ?_
 case h2z=>intro w hSw;obtain ⟨us,hSw⟩:=hSw;exact exec_load_R 32 _ rfl rfl hSw.r2 Tryz.underlying32 (ie4 B)
 simp only [Act.put,stA,st0,st1]
 refine ar1 1 rfl (fun K hK=>?_)
 go_simp
 refine (refNatural_any A hA _).mono ?_
 rintro _ wn1 ⟨vA,rfl,nA,hb⟩
 replace h:=h.below hb
 clear hb
 refine hK.out _ _ ⟨_,h⟩ (fun _=>?_)
 clear hK K
 refine ar1 3 rfl (fun K hK=>?_)
 go_simp
 refine (refNatural_any B hB _).mono ?_
 rintro _ wn2 ⟨vB,rfl,nB,hb⟩
 replace h:=h.below hb
 replace nA:=nA.below hb
 clear hb
 refine hK.out _ _ ⟨_,h⟩ (fun _=>?_)
 clear hK K
 refine ar1 4 rfl (fun K hK=>?_)
 go_simp
 refine (ref_add_n _ nA nB (by decide) (by decide)).mono ?_
 rintro _ wn3 ⟨v3,rfl,hR,hb⟩
 replace h:=h.below hb
 clear hb
 refine hK.out _ _ ⟨_,h⟩ (fun _=>?_)
 clear hK K
 refine ar1 5 rfl (fun K hK=>?_)
 go_simp
 refine (refleft_any v3 (A + B) 9 (by decide) _ (hR.num (sum_fits hA hB))).mono ?_
 rintro _ wn4 ⟨rfl,hb⟩
 replace h:=h.below hb
 clear hb hR nA nB
 refine hK.out _ _ ⟨_,h⟩ (fun _=>?_)
 clear hK K
 refine ar1 6 rfl (fun K hK=>?_)
 refine wp_store_R 32 _ _ rfl _ (C .u64 (wds ((A + B) % Lq))) rfl rfl h.r3 (ie4 _) (ze4 _) (C_allL _ _) ?_
 intro w7 q7 hg7 hz7
 replace h:H2 w.heap.size w w7 (C .u64 (wds A)) (C .u64 (wds B)) (C .u64 (wds ((A + B) % Lq))):=⟨h.r1.grown hg7 (by simp;omega),h.r2.grown hg7 (by simp),q7,below_grown h.bel hg7 (by omega) h.r3.lt,by have:=h.lt;omega⟩
 refine hK.out _ _ ⟨_,h⟩ (fun _=>?_)
 clear hK K
 refine wpAnyH_done (by kernel_rfl) ?_ _
 refine NoPanic.normal ?_
 go_wp2
 exact result_row Tryz.results29 rfl h.r3 Tryz.underlying32 rfl (ie4 _) rfl ⟨rfl,h.bel⟩
set_option maxHeartbeats 1000000 in
theorem smul_any (A B:Nat) (hA:A < 115792089237316195423570985008687907853269984665640564039457584007913129639936) (hB:B < 115792089237316195423570985008687907853269984665640564039457584007913129639936) (w:World) (hT:Glob w 1 Lq):Calls Tryz.prog 26 #[.agg (C .u64 (wds A)).toArray,.agg (C .u64 (wds B)).toArray] w fun e w'=>e = .returned (.agg (C .u64 (wds ((A * B) % Lq))).toArray) ∧ Below w.heap.size w w':=by
 obtain ⟨w4,h4,h⟩:=H2.begin w (C .u64 (wds A)) (C .u64 (wds B)) (C .u64 (Z 4))
 go_enter Tryz.func26,Tryz.ntmps26
 go_upto_region 1 with (refine wpList_alloc_row rfl 32 rfl _ z4 ?_)
 try simp only [Act.put,stA,st0,st1,alloc_size,h4]
 clear h4
 replace h:=h.drew
 refine wp_region_noPanic ?_
 refine wp_region_held_drew (S:=fun w'=>∃ us,H2 w.heap.size w w' (C .u64 (wds A)) (C .u64 (wds B)) us) (by kernel_rfl) ⟨_,h⟩ (fun _=>?_)
 refine tkL 0 (.agg (C .u64 (wds A)).toArray) rfl ?h0z ?_
 case h0z=>intro w hSw;obtain ⟨us,hSw⟩:=hSw;exact exec_load_R 32 _ rfl rfl hSw.r1 Tryz.underlying32 (ie4 A)
 simp only [Act.put,stA,st0,st1]
 refine tkL 2 (.agg (C .u64 (wds B)).toArray) rfl ?h2z ?_
 case h2z=>intro w hSw;obtain ⟨us,hSw⟩:=hSw;exact exec_load_R 32 _ rfl rfl hSw.r2 Tryz.underlying32 (ie4 B)
 simp only [Act.put,stA,st0,st1]
 refine ar1 1 rfl (fun K hK=>?_)
 go_simp
 refine (snat_any A hA _).mono ?_
 rintro _ wn1 ⟨vA,rfl,nA,hb⟩
 replace h:=h.below hb
 clear hb
 refine hK.out _ _ ⟨_,h⟩ (fun _=>?_)
 clear hK K
 refine ar1 3 rfl (fun K hK=>?_)
 go_simp
 refine (snat_any B hB _).mono ?_
 rintro _ wn2 ⟨vB,rfl,nB,hb⟩
 replace h:=h.below hb
 replace nA:=nA.below hb
 clear hb
 refine hK.out _ _ ⟨_,h⟩ (fun _=>?_)
 clear hK K
 refine ar1 4 rfl (fun K hK=>?_)
 go_simp
 refine (mul_n _ nA nB (by decide) (by decide)).mono ?_
 rintro _ wn3 ⟨v3,rfl,hR,hb⟩
 replace h:=h.below hb
 clear hb
 refine hK.out _ _ ⟨_,h⟩ (fun _=>?_)
 clear hK K
 refine ar1 5 rfl (fun K hK=>?_)
 go_simp
 refine (sleft_any v3 (A * B) 16 (by decide) _ (hR.num (prod_fits hA hB)) (hT.below h.bel)).mono ?_
 rintro _ wn4 ⟨rfl,hb⟩
 replace h:=h.below hb
 clear hb hR nA nB
 refine hK.out _ _ ⟨_,h⟩ (fun _=>?_)
 clear hK K
 refine ar1 6 rfl (fun K hK=>?_)
 refine wp_store_R 32 _ _ rfl _ (C .u64 (wds ((A * B) % Lq))) rfl rfl h.r3 (ie4 _) (ze4 _) (C_allL _ _) ?_
 intro w7 q7 hg7 hz7
 replace h:H2 w.heap.size w w7 (C .u64 (wds A)) (C .u64 (wds B)) (C .u64 (wds ((A * B) % Lq))):=⟨h.r1.grown hg7 (by simp;omega),h.r2.grown hg7 (by simp),q7,below_grown h.bel hg7 (by omega) h.r3.lt,by have:=h.lt;omega⟩
 refine hK.out _ _ ⟨_,h⟩ (fun _=>?_)
 clear hK K
 refine wpAnyH_done (by kernel_rfl) ?_ _
 refine NoPanic.normal ?_
 go_wp2
 exact result_row Tryz.results26 rfl h.r3 Tryz.underlying32 rfl (ie4 _) rfl ⟨rfl,h.bel⟩
set_option maxHeartbeats 1000000 in
theorem r12mul_any (A B:Nat) (hA:A < 115792089237316195423570985008687907853269984665640564039457584007913129639936) (hB:B < 115792089237316195423570985008687907853269984665640564039457584007913129639936) (w:World):Calls Tryz.prog 30 #[.agg (C .u64 (wds A)).toArray,.agg (C .u64 (wds B)).toArray] w fun e w'=>e = .returned (.agg (C .u64 (wds ((A * B) % Lq))).toArray) ∧ Below w.heap.size w w':=by
 obtain ⟨w4,h4,h⟩:=H2.begin w (C .u64 (wds A)) (C .u64 (wds B)) (C .u64 (Z 4))
 go_enter Tryz.func30,Tryz.ntmps30
 go_upto_region 1 with (refine wpList_alloc_row rfl 32 rfl _ z4 ?_)
 try simp only [Act.put,stA,st0,st1,alloc_size,h4]
 clear h4
 replace h:=h.drew
 refine wp_region_noPanic ?_
 refine wp_region_held_drew (S:=fun w'=>∃ us,H2 w.heap.size w w' (C .u64 (wds A)) (C .u64 (wds B)) us) (by kernel_rfl) ⟨_,h⟩ (fun _=>?_)
 refine tkL 0 (.agg (C .u64 (wds A)).toArray) rfl ?h0z ?_
 case h0z=>intro w hSw;obtain ⟨us,hSw⟩:=hSw;exact exec_load_R 32 _ rfl rfl hSw.r1 Tryz.underlying32 (ie4 A)
 simp only [Act.put,stA,st0,st1]
 refine tkL 2 (.agg (C .u64 (wds B)).toArray) rfl ?h2z ?_
 case h2z=>intro w hSw;obtain ⟨us,hSw⟩:=hSw;exact exec_load_R 32 _ rfl rfl hSw.r2 Tryz.underlying32 (ie4 B)
 simp only [Act.put,stA,st0,st1]
 refine ar1 1 rfl (fun K hK=>?_)
 go_simp
 refine (refNatural_any A hA _).mono ?_
 rintro _ wn1 ⟨vA,rfl,nA,hb⟩
 replace h:=h.below hb
 clear hb
 refine hK.out _ _ ⟨_,h⟩ (fun _=>?_)
 clear hK K
 refine ar1 3 rfl (fun K hK=>?_)
 go_simp
 refine (refNatural_any B hB _).mono ?_
 rintro _ wn2 ⟨vB,rfl,nB,hb⟩
 replace h:=h.below hb
 replace nA:=nA.below hb
 clear hb
 refine hK.out _ _ ⟨_,h⟩ (fun _=>?_)
 clear hK K
 refine ar1 4 rfl (fun K hK=>?_)
 go_simp
 refine (ref_mul_n _ nA nB (by decide) (by decide)).mono ?_
 rintro _ wn3 ⟨v3,rfl,hR,hb⟩
 replace h:=h.below hb
 clear hb
 refine hK.out _ _ ⟨_,h⟩ (fun _=>?_)
 clear hK K
 refine ar1 5 rfl (fun K hK=>?_)
 go_simp
 refine (refleft_any v3 (A * B) 16 (by decide) _ (hR.num (prod_fits hA hB))).mono ?_
 rintro _ wn4 ⟨rfl,hb⟩
 replace h:=h.below hb
 clear hb hR nA nB
 refine hK.out _ _ ⟨_,h⟩ (fun _=>?_)
 clear hK K
 refine ar1 6 rfl (fun K hK=>?_)
 refine wp_store_R 32 _ _ rfl _ (C .u64 (wds ((A * B) % Lq))) rfl rfl h.r3 (ie4 _) (ze4 _) (C_allL _ _) ?_
 intro w7 q7 hg7 hz7
 replace h:H2 w.heap.size w w7 (C .u64 (wds A)) (C .u64 (wds B)) (C .u64 (wds ((A * B) % Lq))):=⟨h.r1.grown hg7 (by simp;omega),h.r2.grown hg7 (by simp),q7,below_grown h.bel hg7 (by omega) h.r3.lt,by have:=h.lt;omega⟩
 refine hK.out _ _ ⟨_,h⟩ (fun _=>?_)
 clear hK K
 refine wpAnyH_done (by kernel_rfl) ?_ _
 refine NoPanic.normal ?_
 go_wp2
 exact result_row Tryz.results30 rfl h.r3 Tryz.underlying32 rfl (ie4 _) rfl ⟨rfl,h.bel⟩
theorem refless_el (A B:Nat) (hA:A < 115792089237316195423570985008687907853269984665640564039457584007913129639936) (hB:B < 115792089237316195423570985008687907853269984665640564039457584007913129639936) (w:World):Calls Tryz.prog 87 #[.agg (C .u64 (wds A)).toArray,.agg (C .u64 (wds B)).toArray] w fun e w'=>e = .returned (.tuple #[.agg (C .u64 (wds ((A + 115792089237316195423570985008687907853269984665640564039457584007913129639936 - B) % 115792089237316195423570985008687907853269984665640564039457584007913129639936))).toArray,.bool (decide (A < B))]) ∧ Below w.heap.size w w':=refless_any A B hA hB w
set_option maxHeartbeats 4000000 in
theorem gathered_any (b:List Nat) (hb:Lo 256 b) (hl:b.length = 32) (w:World):Calls Tryz.prog 72 #[.agg (C .u8 b).toArray] w fun e w'=>e = .returned (.agg (C .u64 (wds (val 256 b))).toArray) ∧ Below w.heap.size w w':=by
 obtain ⟨w2,h2,r1,r2,q4,hL,hS⟩:=rows3 w 22 32 32 (C .u8 b) (C .u64 (Z 4)) (C .u64 (Z 4))
 have hib:(Tryz.prog.info? 22).map (·.size) = some (C .u8 b).length:=by rw [C_length,hl];exact i32
 have hbi:=Away.mk (fun w k h=>run_index_C (P:=Tryz.prog) w (q:=.u8) Tryz.underlying22 (by kernel_rfl) i1b b k h hl)
 have hNl:=val_bytes_lt hb hl
 obtain ⟨N,hN⟩:∃ N,val 256 b = N:=⟨_,rfl⟩
 rw [hN] at hNl ⊢
 have HN:=Away.mk hN
 clear hN
 go_enter Tryz.func72,Tryz.ntmps72
 go_upto_region 2 with (refine wpList_alloc_row rfl 32 rfl _ z4 ?_)
 try simp only [Act.put,stA,st0,st1,alloc_size,h2]
 clear h2
 go_wp2_with (refine wpList_load_row rfl 22 _ rfl _ rfl _ _ _ _ r1 Tryz.underlying22 rfl hib ?_)
 clear r1
 rw [show Z 4 = wds (val 256 (b.take 0)) by rw [List.take_zero];rfl] at q4
 go_loopw [7] (fun i wr=>∃ k:Nat,k ≤ 32 ∧ i = .int .i64 k ∧ Row wr (w.heap.size + 1) 32 (C .u64 (Z 4)) ∧ Row wr (w.heap.size + 1 + 1) 32 (C .u64 (wds (val 256 (b.take k)))) ∧ Below w.heap.size w wr) (fun i _=>32 - (intOf i).toNat)
 case atStart=>exact ⟨0,Nat.zero_le _,rfl,r2,q4,hL⟩
 case round =>
  clear r2 q4 hL
  obtain ⟨k,hk,rfl,r2,q4,hL⟩:=hrel
  by_cases hlt:k < 32
  ·have hix:=fun w=>hbi.out w k hlt
   have bx:=hb.getD (by decide) k
   have hv:=val_take_lt (B:=256) (by decide) hb k
   obtain ⟨hs1,hs2,hs3⟩:=word_set hlt hv bx
   rw [← val_take_succ] at hs1
   have lV:=wds_length (val 256 (b.take k))
   have hwlo:=(wds_lo (val 256 (b.take k))).getD (by decide) (k / 8)
   generalize wds (val 256 (b.take k)) = V at *
   have c4:=q4.cell (k / 8)
   rw [C_get .u64 (by omega)] at c4
   have hf:=q4.frozen (k / 8)
   obtain ⟨q,hq⟩:∃ q,k / 8 = q:=⟨_,rfl⟩
   obtain ⟨r,hr⟩:∃ r,k % 8 = r:=⟨_,rfl⟩
   rw [hq] at c4 hs1 hs2 hf hwlo
   rw [hr] at hs1 hs2
   obtain ⟨s,hs⟩:∃ s,8 * r = s:=⟨_,rfl⟩
   rw [hs] at hs1 hs2
   generalize V.getD q 0 = a at *
   generalize b.getD k 0 = x at *
   have hps:(2:Nat) ^ s ≤ 2 ^ 56:=Nat.pow_le_pow_right (by decide) (by omega)
   have hxs:x * 2 ^ s < 18446744073709551616 - 2 ^ 56 + 1:=Nat.lt_of_le_of_lt (Nat.mul_le_mul (show x ≤ 255 by omega) hps) (by decide)
   have hor:=or_add (x:=x) hs2
   have cx:(x:Int) * 2 ^ s = ((x * 2 ^ s:Nat):Int):=by simp
   have hps2:(2:Nat) ^ s < 2 ^ 57:=Nat.lt_of_le_of_lt hps (by decide)
   obtain ⟨m,hm⟩:∃ m,x * 2 ^ s = m:=⟨_,rfl⟩
   rw [hm] at hs1 hxs hor cx
   generalize hPS:(2:Nat) ^ s = ps at *
   have hml:m < 18446744073709551616:=by omega
   have hal:a < 72057594037927936:=by have e:=hps;simp at e;omega
   have es:IntKind.u64.wrap ((x:Int) * 2 ^ s) = (m:Int):=by rw [cx,IntKind.wrap_u64];omega
   obtain ⟨z,hz⟩:∃ z,a + m = z:=⟨_,rfl⟩
   rw [hz] at hs1 hor
   have hzl:z < 18446744073709551616:=by simp at hxs;omega
   have eo:bits .or .u64 (a:Int) (m:Int) = (z:Int):=by rw [u64_or_nat a m hwlo hml,hor]
   have ea:IntKind.u64.wrap ((a:Int) + (m:Int)) = (z:Int):=by rw [IntKind.wrap_u64];omega
   have ex:IntKind.u64.wrap (x:Int) = (x:Int):=by rw [IntKind.wrap_u64];omega
   have dq:(k:Int).tdiv 8 = (q:Int):=by rw [Int.tdiv_eq_ediv_of_nonneg (by omega)];omega
   have dq':(k:Int) / 8 = (q:Int):=by omega
   have bq:(q:Int) < 4:=by omega
   have dr:(k:Int).tmod 8 = (r:Int):=by rw [Int.tmod_eq_emod_of_nonneg (by omega)];omega
   have dr':(k:Int) % 8 = (r:Int):=by omega
   have ds:IntKind.i64.wrap ((r:Int) * 8) = (s:Int):=by rw [IntWalk.i64_in _ ⟨by omega,by omega⟩];omega
   have ds':(r:Int) * 8 = (s:Int):=by omega
   have du:IntKind.u64.wrap (s:Int) = (s:Int):=by rw [IntKind.wrap_u64];omega
   have bs:(s:Int) < 64:=by omega
   have bk:(k:Int) < 32:=by omega
   have wq:IntKind.i64.wrap (q:Int) = (q:Int):=by rw [IntWalk.i64_in _ ⟨by omega,by omega⟩]
   have wr':IntKind.i64.wrap (r:Int) = (r:Int):=by rw [IntWalk.i64_in _ ⟨by omega,by omega⟩]
   have ws':IntKind.i64.wrap (s:Int) = (s:Int):=by rw [IntWalk.i64_in _ ⟨by omega,by omega⟩]
   have HV:=Away.mk hs1
   have m2:=r2.drew.other (i:=q) (.int .u64 (z:Int)) (show w.heap.size + 1 ≠ w.heap.size + 1 + 1 by omega)
   have m4:=row_set q4.drew q z
   have mL:=(below_drawn hL).setCell (p:=⟨w.heap.size + 1 + 1,q,none⟩) (by simp;omega) (.int .u64 (z:Int))
   clear hs1 hs2 hs3 hv bx hq hr hs hps hps2 hxs hor cx hm hPS hml hal hz hzl hwlo r2 q4 hL lV
   go_wp2
   refine wp_region_noPanic ?_
   refine wp_region_U (S:=fun w'=>w'.cell? ⟨w.heap.size + 1 + 1,q,none⟩ = some (.int .u64 (a:Int))) 12 (by kernel_rfl) (c4) (fun _=>?_)
   refine tkU 0 ?v0r rfl ?h0r ?_
   case h0r=>intro w hSw;go_simp <;> with_reducible rfl
   simp only [Act.put,stA,st0,st1]
   refine tkU 1 ?v1r rfl ?h1r ?_
   case h1r=>intro w hSw;go_simp <;> with_reducible rfl
   simp only [Act.put,stA,st0,st1]
   refine tkU 2 ?v2r rfl ?h2r ?_
   case h2r=>intro w hSw;go_simp <;> with_reducible rfl
   simp only [Act.put,stA,st0,st1]
   refine tkU 3 ?v3r rfl ?h3r ?_
   case h3r=>intro w hSw;go_simp <;> with_reducible rfl
   simp only [Act.put,stA,st0,st1]
   refine tkU 4 ?v4r rfl ?h4r ?_
   case h4r=>intro w hSw;go_simp <;> with_reducible rfl
   simp only [Act.put,stA,st0,st1]
   refine tkU 5 ?v5r rfl ?h5r ?_
   case h5r=>intro w hSw;go_simp <;> with_reducible rfl
   simp only [Act.put,stA,st0,st1]
   refine tkU 6 ?v6r rfl ?h6r ?_
   case h6r=>intro w hSw;go_simp <;> with_reducible rfl
   simp only [Act.put,stA,st0,st1]
   refine tkU 7 ?v7r rfl ?h7r ?_
   case h7r=>intro w hSw;go_simp <;> with_reducible rfl
   simp only [Act.put,stA,st0,st1]
   refine tkU 8 ?v8r rfl ?h8r ?_
   case h8r=>intro w hSw;go_simp <;> with_reducible rfl
   simp only [Act.put,stA,st0,st1]
   refine tkU 9 ?v9r rfl ?h9r ?_
   case h9r=>intro w hSw;go_simp <;> with_reducible rfl
   simp only [Act.put,stA,st0,st1]
   refine tkU 10 ?v10r rfl ?h10r ?_
   case h10r=>intro w hSw;go_simp <;> with_reducible rfl
   simp only [Act.put,stA,st0,st1]
   refine tkU 11 ?v11r rfl ?h11r ?_
   case h11r=>intro w hSw;go_simp <;> with_reducible rfl
   simp only [Act.put,stA,st0,st1]
   refine wpAnyU_oneL (i:=12) (by kernel_rfl) rfl (by rfl) (fun K hK=>?_)
   have c4d:wr.drew.cell? ⟨w.heap.size + 1 + 1,q,none⟩ = some (.int .u64 (a:Int)):=c4
   have hfd:wr.drew.frozen? ⟨w.heap.size + 1 + 1,q,none⟩ = false:=hf
   go_simp
   refine hK.out _ _ (fun hz=>absurd rfl hz) (fun _=>?_)
   clear hK K
   refine wpAnyU_done (by kernel_rfl) ?_ _
   refine NoPanic.normal ?_
   clear c4 hf hix
   go_wp2
   go_roundw
   case rel=>exact ⟨k + 1,by omega,by go_num,m2,by rw [← HV.out];exact m4,mL⟩
   case measure=>simp [intOf];omega
  ·have HK:Away (k = 32):=⟨by omega⟩
   have dk:decide ((k:Int) < 32) = false:=decide_eq_false (by omega)
   rw [HK.out,List.take_of_length_le (Nat.le_of_eq hl),HN.out] at q4
   clear hlt hk hbi
   go_wp2_with (first | refine wpList_load_row rfl 32 _ rfl _ rfl _ _ _ _ q4 Tryz.underlying32 rfl (ie4 _) ?_ | (refine wpList_store_R rfl 32 _ _ rfl _ (C .u64 (wds N)) rfl rfl r2 (ie4 _) (ze4 _) (C_allL _ _) ?_;intro w7 q7 hg7 hz7))
   exact result_row Tryz.results72 rfl q7 Tryz.underlying32 rfl (ie4 _) rfl ⟨rfl,below_grown hL hg7 (by omega) r2.lt⟩
set_option maxHeartbeats 4000000 in
theorem sread_any (b:List Nat) (hb:Lo 256 b) (hl:b.length = 32) (w:World) (hT:Glob w 1 Lq):Calls Tryz.prog 32 #[.agg (C .u8 b).toArray] w fun e w'=>e = .returned (.tuple #[.agg (C .u64 (wds (if val 256 b < Lq then val 256 b else 0))).toArray,.bool (decide (val 256 b < Lq))]) ∧ Below w.heap.size w w':=by
 obtain ⟨w2,h2,r1,r2,hL,hS⟩:=rows2 w 22 32 (C .u8 b) (C .u64 (Z 4))
 have hib:(Tryz.prog.info? 22).map (·.size) = some (C .u8 b).length:=by rw [C_length,hl];exact i32
 have hga:=gathered_any b hb hl
 have hNl:=val_bytes_lt hb hl
 obtain ⟨N,hN⟩:∃ N,val 256 b = N:=⟨_,rfl⟩
 rw [hN] at hNl hga ⊢
 clear hN
 obtain ⟨D,hD⟩:∃ D,(if N < Lq then N else 0) = D:=⟨_,rfl⟩
 rw [hD]
 have HD:=Away.mk hD
 clear hD
 obtain ⟨ov,hov⟩:∃ ov,decide (N < Lq) = ov:=⟨_,rfl⟩
 rw [hov]
 have HO:=Away.mk hov
 clear hov
 go_enter Tryz.func32,Tryz.ntmps32
 go_upto_region 1 with (refine wpList_alloc_row rfl 32 rfl _ z4 ?_)
 try simp only [Act.put,stA,st0,st1,alloc_size,h2]
 clear h2
 go_wp2_with (refine wpList_load_row rfl 22 _ rfl _ rfl _ _ _ _ r1 Tryz.underlying22 rfl hib ?_)
 refine (hga _).mono ?_
 rintro _ wn ⟨rfl,hb2⟩
 replace r2:=r2.belowS hb2
 replace hL:=hL.trans (hb2.mono hL.size)
 clear hb2 r1 hga
 have q0:=Row.new wn 32 (C .u64 (Z 4))
 have hn3:=r2.lt
 replace r2:=r2.alloc (.cells (C .u64 (Z 4)).toArray 32)
 replace hL:=hL.alloc hL.size (.cells (C .u64 (Z 4)).toArray 32)
 generalize hg4:wn.heap.size = g4 at *
 go_upto_region 2 with (first | refine wpList_alloc_row rfl 32 rfl _ z4 ?_ | (refine wpList_store_R rfl 32 _ _ rfl _ (C .u64 (wds N)) (by rw [← hg4];rfl) rfl q0 (ie4 _) (ze4 _) (C_allL _ _) ?_;intro w5 q4 hg5 hz5))
 replace r2:=r2.grown hg5 (by simp;omega)
 replace hL:=below_grown hL hg5 (by omega) q0.lt
 try rw [hg4]
 clear q0 hg5 hz5 hg4
 have hre:=sreduce_any N hNl
 replace q4:=q4.drew
 replace r2:=r2.drew
 replace hL:=below_drawn hL
 refine wp_region_noPanic ?_
 refine wp_region_held_drew (S:=fun w'=>Row w' g4 32 (C .u64 (wds N))) (by kernel_rfl) q4 (fun _=>?_)
 refine tkL 0 (.agg (C .u64 (wds N)).toArray) rfl (fun w hSw=>exec_load_R 32 _ rfl rfl hSw Tryz.underlying32 (ie4 N)) ?_
 simp only [Act.put,stA,st0,st1]
 refine tkL 1 (.agg (C .u64 (wds N)).toArray) rfl (fun w hSw=>exec_load_R 32 _ rfl rfl hSw Tryz.underlying32 (ie4 N)) ?_
 simp only [Act.put,stA,st0,st1]
 refine ar1 2 rfl (fun K hK=>?_)
 go_simp
 refine (hre _ (hT.below hL)).mono ?_
 rintro _ wn ⟨rfl,hb2⟩
 replace q4:=q4.belowS hb2
 replace r2:=r2.belowS hb2
 replace hL:=hL.trans (hb2.mono hL.size)
 clear hb2 hre
 refine hK.out _ _ q4 (fun _=>?_)
 clear hK K
 by_cases hlt:N < Lq
 ·have hq:=fun w=>neq4 w N N hNl hNl
  simp only [decide_true] at hq
  rw [Nat.mod_eq_of_lt hlt]
  refine tkL 3 (.bool false) rfl ?h3 ?_
  case h3=>intro w hSw;go_simp <;> first | rfl | (simp only [hq];rfl)
  simp only [Act.put,stA,st0,st1]
  clear hq
  refine wpAnyH_done (by kernel_rfl) ?_ _
  refine NoPanic.normal ?_
  go_wp2_with (first | refine wpList_load_row rfl 32 _ rfl _ rfl _ _ _ _ q4 Tryz.underlying32 rfl (ie4 _) ?_ | (refine wpList_store_R rfl 32 _ _ rfl _ (C .u64 (wds N)) rfl rfl r2 (ie4 _) (ze4 _) (C_allL _ _) ?_;intro w7 q7 hg7 hz7))
  exact result_row2 Tryz.results32 (v:=.bool true) rfl rfl q7 Tryz.underlying32 rfl (ie4 _) rfl ⟨by rw [← HD.out,← HO.out,if_pos hlt,decide_eq_true hlt],below_grown hL hg7 (by omega) r2.lt⟩
 ·have hm:=mod_Lq_lt N
  have hq:=fun w=>neq4 w N (N % Lq) hNl (mod_Lq_T _)
  simp only [decide_eq_false (show ¬ N = N % Lq by omega)] at hq
  generalize N % Lq = N2 at *
  refine wpAnyH_takeL (i:=3) (v:=.bool true) rfl (by kernel_rfl) (by kernel_rfl) (by kernel_rfl) (fun _ _ _ h=>h) (by rfl) ?h3' (by assumption) ?_
  case h3'=>intro w hSw;go_simp <;> first | rfl | (simp only [hq];rfl)
  simp only [Act.put,stA,st0,st1]
  clear hq
  refine wpAnyH_done (by kernel_rfl) ?_ _
  refine NoPanic.normal ?_
  go_wp2_with (first | refine wpList_build_Z rfl 32 rfl _ b4z ?_ | (refine wpList_store_R rfl 32 _ _ rfl _ (C .u64 (wds 0)) rfl rfl r2 (ie4 _) (ze4 _) (C_allL _ _) ?_;intro w7 q7 hg7 hz7))
  exact result_row2 Tryz.results32 (v:=.bool false) rfl rfl q7 Tryz.underlying32 rfl (ie4 _) rfl ⟨by rw [← HD.out,← HO.out,if_neg hlt,decide_eq_false hlt],below_grown hL hg7 (by omega) r2.lt⟩
end Go.Proofs.YtmjimilhomabfaaGreatDoor.F
