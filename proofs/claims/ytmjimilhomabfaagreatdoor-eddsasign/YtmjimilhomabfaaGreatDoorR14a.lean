/-
 The numbers of the document (affiantref04), the first part. Conditions: each as it says.
-/
import Derived.Test.YtmjimilhomabfaaGreatDoorN14c
namespace Go.Proofs.YtmjimilhomabfaaGreatDoor
open Go.RowKit
set_option linter.unusedVariables false
set_option maxRecDepth 10000
theorem Tryz.info30:(Tryz.prog.info? 30).map (fun i=>(i.zero,i.size,i.bytes)) = some (some (.int .u64 0),1,8):=by kernel_rfl
abbrev W16:Nat:=65536
theorem op_append_own {P:Program} {w:World} {o:Oper} {a:Act} {K:Act → World → Prop} {Q:Exit → Act → World → Prop} (s x:Operand) (t:TypeId)
  (ho:o.op = .call { callee:=.builtin .append,args:=#[s,x],argTypes:=#[t,t] })
  (base:Nat) (e:TypeId) (z:Value) (bytes:Nat) (ht:P.underlying t = some (.slice e)) (hinfo:(P.info? e).map (fun i=>(i.zero,i.size,i.bytes)) = some (some z,1,bytes)) (hzs:z.cells.size = 1)
  (v:Value) (n:Nat) (xs:List Value) (hs:a.eval s = v) (hown:w.ownsRow base e 1 v n xs) (ad:Addr) (m c:Nat) (news:List Value) (hx:a.eval x = .slice (some ad) m c) (hl:news.length = m)
  (hnews:∀ j u,news[j]? = some u → w.cell? (ad.add j) = some u) (h1:∀ u ∈ news,u.oneCell' = true) (h63:n + m ≤ maxLen) (hbytes:(n + m) * bytes ≤ 140737488355328) (hbase:base ≤ w.heap.size)
  (h:∀ v' w',w'.ownsRow base e 1 v' (n + m) (xs ++ news) → w.grownBy w' v.ownBlock → K (a.put o.dst v') w'):Oper.wp P o a w K Q:=by
 obtain ⟨i0,hi,hz0,hz1,hz2⟩:=info_parts hinfo
 obtain ⟨v',w',hrun,r1,r2,_⟩:=run_append_own (P:=P) w base t o.type e i0 z 1 bytes ht hi hz0 hz1 hz2 hzs (by decide) v n xs hown ad m c news (by omega) hnews h1 h63 hbytes hbase
 unfold Oper.wp
 simp [execOp,ho,resolve,invoke,builtin,hs,hx,hrun,Result.andThen]
 exact h _ _ r1 r2
theorem digit_any (v:Value) (ds:List Nat) (i:Nat) (w:World) (hs:SlV w v (C .u64 ds)) (hm:ds.length ≤ 1000000) (hi:i ≤ 1000000000) :
  Calls Tryz.prog 105 #[v,.int .i64 (i:Int)] w fun e w'=>e = .returned (.int .u64 (ds.getD i 0:Nat)) ∧ w = w':=by
 obtain ⟨n,hn⟩:∃ n,ds.length = n:=⟨_,rfl⟩
 obtain ⟨a,cap,rfl,q1,r1⟩:=hs.shapeC hn
 rw [hn] at hm
 by_cases h:i < n
 ·obtain ⟨b,off,rfl,hb,hc⟩:=hs.cells (by rw [C_length];omega)
  have hck:=hc i _ (C_get _ (by omega))
  generalize ds.getD i 0 = x at *
  clear hs hc
  go_enter Tryz.func105,Tryz.ntmps105
  go_wp2
  go_ret
  exact ⟨rfl,rfl⟩
 ·rw [getD_past (by omega)]
  go_enter Tryz.func105,Tryz.ntmps105
  go_wp2
  go_ret
  exact ⟨rfl,rfl⟩
theorem trim_any (v:Value) (ds:List Nat) (w:World) (hs:SlV w v (C .u64 ds)) (hl:Lo W16 ds) (hm:ds.length ≤ 1000000) :
  Calls Tryz.prog 136 #[v] w fun e w'=>∃ v' es,e = .returned v' ∧ Is W16 (val W16 ds) es ∧ es.length ≤ ds.length ∧ SlV w v' (C .u64 es) ∧ w = w':=by
 obtain ⟨n,hn⟩:∃ n,ds.length = n:=⟨_,rfl⟩
 obtain ⟨a,cap,rfl,q1,r1⟩:=hs.shapeC hn
 rw [hn] at hm
 go_enter Tryz.func136,Tryz.ntmps136
 go_wp2
 go_loop [3] (fun i=>∃ k:Nat,k ≤ n ∧ i = .int .i64 (k:Int) ∧ ∀ j,k ≤ j → ds.getD j 0 = 0) (fun i=>(intOf i).toNat)
 case atStart=>exact ⟨n,Nat.le_refl _,rfl,fun j hj=>getD_past (by omega)⟩
 case round =>
  obtain ⟨k,hk,rfl,hz⟩:=hrel
  have hend:ds.getD (k - 1) 0 ≠ 0 ∨ k = 0 → ∃ es,Is W16 (val W16 ds) es ∧ es.length ≤ n ∧ SlV w (.slice a k cap) (C .u64 es):=fun h=>by
   refine ⟨ds.take k,?_,by rw [List.length_take];omega,by rw [C_take];exact hs.upto k hk⟩
   have hlen:(ds.take k).length = k:=by rw [List.length_take];omega
   have h1:=Is.ofLast (B:=W16) (hl.take k) (fun hp=>by
    rw [hlen] at hp ⊢
    rw [getD_take _ _ _ (by omega)]
    rcases h with h | h
    ·exact h
    ·omega)
   have h2:val W16 (ds.take k) = val W16 ds:=by
    have:=val_take_drop (B:=W16) ds k (by omega)
    rw [val_drop_zero hz] at this
    omega
   rwa [h2] at h1
  have HE:=Away.mk hend;have HZ:=Away.mk hz
  clear hend hz
  by_cases h0:k = 0
  ·subst h0
   go_wp2
   go_ret
   obtain ⟨es,g1,g2,g3⟩:=HE.out (by simp)
   first | exact ⟨_,es,rfl,g1,g2,g3,rfl⟩ | exact ⟨_,rfl,es,g1,g2,g3,rfl⟩
  ·obtain ⟨b,off,rfl,hb,hc⟩:=hs.cells (by rw [C_length];omega)
   have hck:=hc (k - 1) _ (C_get _ (by omega))
   have e1:(k:Int) - 1 = ((k - 1:Nat):Int):=by omega
   obtain ⟨p,hp⟩:∃ p,k - 1 = p:=⟨_,rfl⟩
   rw [hp] at hck e1 HE
   have hpk:p < n:=by omega
   have HP:=Away.mk hp
   obtain ⟨x,hx⟩:∃ x,ds.getD p 0 = x:=⟨_,rfl⟩
   rw [hx] at hck HE
   have HX:=Away.mk hx
   clear hc hp hx
   have HS:=Away.mk hs
   clear hs
   by_cases hx0:x = 0
   ·subst hx0
    go_wp2
    go_round
    case rel =>
     have hp:=HP.out
     refine ⟨p,by omega,rfl,fun j hj=>?_⟩
     by_cases h:j = p
     ·rw [h];exact HX.out
     ·exact HZ.out j (by omega)
    case measure=>have hp:=HP.out;simp [intOf];omega
   ·have d0:((x:Int) == 0) = false:=by simpa using hx0
    go_wp2
    go_ret
    obtain ⟨es,g1,g2,g3⟩:=HE.out (.inl hx0)
    first | exact ⟨_,es,rfl,g1,g2,g3,rfl⟩ | exact ⟨_,rfl,es,g1,g2,g3,rfl⟩
set_option maxHeartbeats 1000000 in
theorem digits_any (v:Value) (xs:List Nat) (w:World) (hs:SlV w v (C .u32 xs)) (hl:Lo W32 xs) (hm:xs.length ≤ 100000) :
  Calls Tryz.prog 104 #[v] w fun e w'=>∃ v' es,e = .returned v' ∧ Is W16 (val W32 xs) es ∧ es.length ≤ 2 * xs.length ∧ SlV w' v' (C .u64 es) ∧ Below w.heap.size w w':=by
 obtain ⟨n,hn⟩:∃ n,xs.length = n:=⟨_,rfl⟩
 obtain ⟨a,cap,rfl,q1,r1⟩:=hs.shapeC hn
 rw [hn] at hm ⊢
 have HS:=Away.mk hs
 clear hs
 go_enter Tryz.func104,Tryz.ntmps104
 go_wp2
 go_loopw [3,4] (fun dv iv wr=>∃ (k:Nat) (ds:List Nat),k ≤ n ∧ iv = .int .i64 (k:Int) ∧ ds.length = 2 * k ∧ Lo W16 ds ∧ val W16 ds = val W32 (xs.take k) ∧ wr.ownsRow w.heap.size 30 1 dv (2 * k) (C .u64 ds) ∧ Below w.heap.size w wr) (fun _ i _=>n - (intOf i).toNat)
 case atStart=>exact ⟨0,[],Nat.zero_le _,rfl,rfl,Lo.nil _,by simp [val],own_empty w _ _ (Nat.le_refl _),(Below.refl _ _).alloc (Nat.le_refl _) _⟩
 case round =>
  obtain ⟨k,ds,hk,rfl,hdl,hdlo,hval,hown,hb⟩:=hrel
  by_cases hlt:k < n
  ·obtain ⟨b,off,rfl,hbl,hcx⟩:=HS.out.cells (by rw [C_length];omega)
   have hck:wr.cell? ⟨b,off + k,none⟩ = some (.int .u32 (xs.getD k 0:Nat)):=(hb.cell (p:=⟨b,off + k,none⟩) hbl).trans (hcx k _ (C_get _ (by omega)))
   have hxb:xs.getD k 0 < 4294967296:=hl.getD (by decide) k
   have hvs:=val_take_succ (B:=W32) xs k
   obtain ⟨x,hx⟩:∃ x,xs.getD k 0 = x:=⟨_,rfl⟩
   rw [hx] at hck hxb hvs
   have HO:=Away.mk hown;have HB:=Away.mk hb;have H1:=Away.mk hval;have H2:=Away.mk hvs;have HL:=Away.mk hdlo
   clear hcx hown hb hval hvs hdlo hx
   go_wp2
   refine wp_region_noPanic ?_
   refine wp_region_held_drew (S:=fun w'=>w'.cell? ⟨b,off + k,none⟩ = some (.int .u32 (x:Int))) (by kernel_rfl) (hck) (fun hHeld=>?_)
   refine tkg 0 rfl ?_
   simp only [Act.put,stA,st0,st1]
   refine tkg 1 rfl ?_
   simp only [Act.put,stA,st0,st1]
   refine tkg 2 rfl ?_
   simp only [Act.put,stA,st0,st1]
   refine tkg 3 rfl ?_
   simp only [Act.put,stA,st0,st1]
   refine tkg 4 rfl ?_
   simp only [Act.put,stA,st0,st1]
   refine tkg 5 rfl ?_
   simp only [Act.put,stA,st0,st1]
   refine tkg 6 rfl ?_
   simp only [Act.put,stA,st0,st1]
   refine tkg 7 rfl ?_
   simp only [Act.put,stA,st0,st1]
   refine tkg 8 rfl ?_
   simp only [Act.put,stA,st0,st1]
   refine tkg 9 rfl ?_
   simp only [Act.put,stA,st0,st1]
   refine tkg 10 rfl ?_
   simp only [Act.put,stA,st0,st1]
   refine tkg 11 rfl ?_
   simp only [Act.put,stA,st0,st1]
   refine tkg 12 rfl ?_
   simp only [Act.put,stA,st0,st1]
   obtain ⟨p,hp⟩:∃ p,x % 65536 = p:=⟨_,rfl⟩
   obtain ⟨r,hr⟩:∃ r,x / 65536 = r:=⟨_,rfl⟩
   have eA:IntKind.u64.wrap ((x:Int).tmod 65536) = (p:Int):=by
    rw [Int.tmod_eq_emod_of_nonneg (by omega),wrapU];omega
   have eB:IntKind.u64.wrap (IntKind.u32.wrap ((x:Int) / 65536)) = (r:Int):=by
    rw [wrap32,wrapU];omega
   rw [eA,eB]
   have hpb:p < 65536:=by omega
   have hrb:r < 65536:=by omega
   have hpr:x = p + 65536 * r:=by omega
   have HPR:=Away.mk hpr
   clear eA eB hp hr hpr
   have hd:=HO.out.alloc (.cells #[.int .u64 (p:Int),.int .u64 (r:Int)] 30)
   have hd2:(wr.drew.alloc (.cells #[.int .u64 (p:Int),.int .u64 (r:Int)] 30)).ownsRow w.heap.size 30 1 u3 (2 * k) (C .u64 ds):=hd
   have hbs:=HB.out.size
   have hne:u3.ownBlock ≠ some b:=fun e=>by have:=(HO.out.lt b e).1;omega
   refine ar1 13 rfl (fun K hK=>?_)
   go_simp
   refine hK.out _ _ (cell_alloc hck _) (fun hHeld=>?_)
   clear hK K
   refine ar1 14 rfl (fun K hK=>?_)
   refine op_append_own (.tmp 12) (.tmp 25) 103 rfl w.heap.size 30 (.int .u64 0) 8 Tryz.underlying103 Tryz.info30 rfl u3 (2 * k) (C .u64 ds) rfl hd2 ⟨wr.heap.size,0,none⟩ 2 2 (C .u64 [p,r]) rfl rfl ?cells (C_one _ _) (by unfold maxLen;omega) (by omega) (by simp;omega) ?_
   case cells =>
    intro j u hu
    rw [Addr.add_lit,Nat.zero_add]
    exact ((Row.new wr 30 (C .u64 [p,r])).cell j).trans hu
   intro v' w2 hown2 hg2
   have hcell2:w2.cell? ⟨b,off + k,none⟩ = some (.int .u32 (x:Int)):=by
    rw [World.cell?_of_block (a:=⟨b,off + k,none⟩) (hg2.block b (by have:=World.block_lt_of_cell? wr _ hck;simp at this ⊢;omega) (fun e=>hne e.symm))]
    exact cell_alloc hck _
   refine hK.out _ _ hcell2 (fun hHeld=>?_)
   clear hK K
   try simp only [Act.put,stA,st0,st1]
   refine tkg 15 rfl ?_
   simp only [Act.put,stA,st0,st1]
   refine wpAnyH_done (by kernel_rfl) ?_ _
   refine NoPanic.normal ?_
   have hb2:Below w.heap.size w w2:=(HB.out.drew.alloc (by simp;omega) _).grown hg2 (by simp;omega) (fun j e=>(HO.out.lt j e).1)
   have HO2:=Away.mk hown2;have HB2:=Away.mk hb2
   clear hown2 hg2 hb2 hd hd2 hcell2 hHeld
   go_wp2
   go_roundw
   case rel =>
    refine ⟨k + 1,ds ++ [p,r],by omega,by go_num,by simp;omega,HL.out.append (by intro y hy;show y < 65536;simp at hy;rcases hy with rfl | rfl <;> omega),?_,?_,HB2.out⟩
    ·rw [val_append,H1.out,H2.out,hdl,Nat.pow_mul]
     have hpr:=HPR.out
     simp only [val,W16,Nat.mul_zero,Nat.add_zero]
     rw [← hpr]
    ·rw [C_append,show 2 * (k + 1) = 2 * k + 2 by omega];exact HO2.out
   case measure=>simp [intOf];omega
  ·obtain rfl:k = n:=by omega
   rw [List.take_of_length_le (by omega)] at hval
   have HT:=Away.mk (trim_any u3 ds wr (SlV.ofOwn hown) hdlo (by omega))
   rw [hval] at HT
   have HB:=Away.mk hb
   clear hval hb hown
   go_wp2_with fail
   refine HT.out.mono ?_
   rintro _ w6 ⟨v',es,rfl,hI,hle,hs6,rfl⟩
   go_wp2
   go_ret
   have hle':es.length ≤ 2 * k:=by omega
   first | exact ⟨_,es,rfl,hI,hle',hs6,HB.out⟩ | exact ⟨_,rfl,es,hI,hle',hs6,HB.out⟩
def RA (w:World) (v:Value) (N:Nat):Prop:=∃ zs,Is W32 N zs ∧ SlV w v (C .u32 zs)
theorem RA.below {w w':World} {v:Value} {N:Nat} (h:RA w v N) (hb:Below w.heap.size w w'):RA w' v N:=by
 obtain ⟨zs,h1,h2⟩:=h;exact ⟨zs,h1,h2.below hb⟩
theorem Ans.ra {B:Nat} {w:World} {v:Value} {N:Nat} (h:Ans B w v N):RA w v N:=by
 obtain ⟨zs,h1,h2,_⟩:=h;exact ⟨zs,h1,h2⟩
set_option maxHeartbeats 1000000 in
theorem whole_any (v:Value) (ds:List Nat) (w:World) (hs:SlV w v (C .u64 ds)) (hl:Lo W16 ds) (hm:ds.length ≤ 1000000) :
  Calls Tryz.prog 106 #[v] w fun e w'=>∃ v',e = .returned v' ∧ RA w' v' (val W16 ds) ∧ Below w.heap.size w w':=by
 have HT:=Away.mk (trim_any v ds w hs hl hm)
 clear hs
 go_enter Tryz.func106,Tryz.ntmps106
 go_wp2_with fail
 refine HT.out.mono ?_
 rintro _ w1 ⟨v',es,rfl,hI,hle,hs,rfl⟩
 obtain ⟨n,hn⟩:∃ n,es.length = n:=⟨_,rfl⟩
 obtain ⟨a,cap,rfl,q1,r1⟩:=hs.shapeC hn
 have hnm:n ≤ 1000000:=by omega
 have helo:=hI.2.1
 have HS:=Away.mk hs;have HI:=Away.mk hI
 clear hs hI HT
 go_wp2
 go_loopw [3,4] (fun av iv wr=>∃ (k i:Nat) (ws:List Nat),i = 2 * k ∧ i ≤ n + 1 ∧ iv = .int .i64 (i:Int) ∧ ws.length = k ∧ Lo W32 ws ∧ val W32 ws = val W16 (es.take i) ∧ wr.ownsRow w.heap.size 95 1 av k (C .u32 ws) ∧ Below w.heap.size w wr) (fun _ i _=>n + 2 - (intOf i).toNat)
 case atStart=>exact ⟨0,0,[],rfl,by omega,rfl,rfl,Lo.nil _,by simp [val],own_empty w _ _ (Nat.le_refl _),(Below.refl _ _).alloc (Nat.le_refl _) _⟩
 case round =>
  obtain ⟨k,i,ws,hik,hi,rfl,hal,halo,hval,hown,hb⟩:=hrel
  have HIK:=Away.mk hik
  have hk:k ≤ 1000000:=by omega
  clear hik
  by_cases hlt:i < n
  ·obtain ⟨b,off,rfl,hbl,hcx⟩:=HS.out.cells (by rw [C_length];omega)
   have hck:wr.cell? ⟨b,off + i,none⟩ = some (.int .u64 (es.getD i 0:Nat)):=(hb.cell (p:=⟨b,off + i,none⟩) hbl).trans (hcx i _ (C_get _ (by omega)))
   have hx0:es.getD i 0 < 65536:=helo.getD (by decide) _
   have hx1:es.getD (i + 1) 0 < 65536:=helo.getD (by decide) _
   have hv1:=val_take_succ (B:=W16) es i
   have hv2:=val_take_succ (B:=W16) es (i + 1)
   rw [hv1,Nat.pow_succ] at hv2
   have HO:=Away.mk hown;have HB:=Away.mk hb;have H1:=Away.mk hval;have H2:=Away.mk hv2;have HL:=Away.mk halo
   obtain ⟨x,hx⟩:∃ x,es.getD i 0 = x:=⟨_,rfl⟩
   obtain ⟨y,hy⟩:∃ y,es.getD (i + 1) 0 = y:=⟨_,rfl⟩
   rw [hx] at hck hx0 H2
   rw [hy] at hx1 H2
   have hrel2:∀ (z:Nat) (v2:Value) (w2:World),z = x + 65536 * y → w2.ownsRow w.heap.size 95 1 v2 (k + 1) (C .u32 ws ++ [.int .u32 (z:Int)]) → Below w.heap.size w w2 →
     ∃ (k' i':Nat) (ws':List Nat),i' = 2 * k' ∧ i' ≤ n + 1 ∧ Value.int .i64 ((i:Int) + 2) = .int .i64 (i':Int) ∧ ws'.length = k' ∧ Lo W32 ws' ∧ val W32 ws' = val W16 (es.take i') ∧ w2.ownsRow w.heap.size 95 1 v2 k' (C .u32 ws') ∧ Below w.heap.size w w2:=fun z v2 w2 hz h2 h3=>by
    refine ⟨k + 1,i + 2,ws ++ [z],by have:=HIK.out;omega,by omega,by simp,by simp [hal],HL.out.append (by intro u hu;show u < 4294967296;simp at hu;omega),?_,by rw [C_append];exact h2,h3⟩
    have h4:=H2.out
    rw [HIK.out,Nat.pow_mul] at h4
    rw [val_append,val_one,hal,H1.out,HIK.out,h4,hz]
    simp only [W16,W32,Nat.reducePow]
    generalize 4294967296 ^ k = P
    generalize val 65536 (es.take (2 * k)) = T
    grind
   have HR:=Away.mk hrel2
   clear hcx hown hb hval hv1 hv2 halo hx hrel2
   obtain ⟨z,hz⟩:∃ z,x + 65536 * y = z:=⟨_,rfl⟩
   have hzb:z < 4294967296:=by omega
   by_cases hlt2:i + 1 < n
   ·have hck2:wr.cell? ⟨b,off + (i + 1),none⟩ = some (.int .u64 (y:Nat)):=by
     rw [← hy]
     obtain ⟨b',off',e',hbl',hcx⟩:=HS.out.cells (by rw [C_length];omega)
     cases e'
     exact (HB.out.cell (p:=⟨b,off + (i + 1),none⟩) hbl').trans (hcx (i + 1) _ (C_get _ (by omega)))
    have hzi:(x:Int) + (y:Int) * 65536 = (z:Int):=by omega
    have HZ:=Away.mk hz
    clear hy hz
    go_wp2_with (at_builtin;refine wpList_append_sl rfl (.tmp 32) (.tmp 35) 68 rfl w.heap.size 95 (.int .u32 0) 4 Tryz.underlying68 Tryz.info95 rfl _ k _ rfl (HO.out.alloc _) _ [.int .u32 (z:Int)] rfl (SlV_one _ _ _) (by simp [Value.oneCell']) (by simp;unfold maxLen;omega) (by simp;omega) (by have:=HB.out.size;simp;omega) ?_)
    intro v2 w2 hown2 hg2
    have hb2:Below w.heap.size w w2:=(HB.out.alloc HB.out.size _).grown hg2 (by have:=HB.out.size;simp;omega) (fun j e=>(HO.out.lt j e).1)
    have HO2:=Away.mk hown2;have HB2:=Away.mk hb2
    clear hown2 hg2 hb2
    go_wp2
    go_roundw
    case rel=>exact HR.out z _ _ HZ.out.symm HO2.out HB2.out
    case measure=>simp [intOf];omega
   ·have hy0:y = 0:=by rw [← hy];exact getD_past (by omega)
    subst hy0
    have hzx:z = x:=by omega
    subst hzx
    clear hy
    have d1:decide (i + 1 < n) = false:=decide_eq_false hlt2
    go_wp2_with (at_builtin;refine wpList_append_sl rfl (.tmp 32) (.tmp 35) 68 rfl w.heap.size 95 (.int .u32 0) 4 Tryz.underlying68 Tryz.info95 rfl _ k _ rfl (HO.out.alloc _) _ [.int .u32 (z:Int)] rfl (SlV_one _ _ _) (by simp [Value.oneCell']) (by simp;unfold maxLen;omega) (by simp;omega) (by have:=HB.out.size;simp;omega) ?_)
    intro v2 w2 hown2 hg2
    have hb2:Below w.heap.size w w2:=(HB.out.alloc HB.out.size _).grown hg2 (by have:=HB.out.size;simp;omega) (fun j e=>(HO.out.lt j e).1)
    have HO2:=Away.mk hown2;have HB2:=Away.mk hb2
    clear hown2 hg2 hb2
    go_wp2
    go_roundw
    case rel=>exact HR.out z _ _ (by omega) HO2.out HB2.out
    case measure=>simp [intOf];omega
  ·rw [List.take_of_length_le (by omega),HI.out.1] at hval
   have hans:RA wr u3 (val W16 ds):=by
    refine ⟨ws,⟨hval,halo,fun hp=>?_⟩,SlV.ofOwn hown⟩
    have h1:=HI.out.2.2 (by have:=HIK.out;omega)
    refine Nat.le_trans ?_ h1
    rw [pow32,pow16]
    exact Nat.pow_le_pow_right (by decide) (by have:=HIK.out;omega)
   have HA:=Away.mk hans;have HB:=Away.mk hb
   clear hval hown hb hans
   go_wp2
   go_ret
   exact ⟨_,rfl,HA.out,HB.out⟩
set_option maxHeartbeats 1000000 in
theorem compare_any (va vb:Value) (xs ys:List Nat) (w:World) (ha:SlV w va (C .u64 xs)) (hb:SlV w vb (C .u64 ys)) (hx:Lo W16 xs) (hy:Lo W16 ys) (hxm:xs.length ≤ 1000000) (hym:ys.length ≤ 1000000) :
  Calls Tryz.prog 137 #[va,vb] w fun e w'=>e = .returned (.int .i64 (cmpI (val W16 xs) (val W16 ys))) ∧ w = w':=by
 obtain ⟨n1,hn1⟩:∃ n,xs.length = n:=⟨_,rfl⟩
 obtain ⟨n2,hn2⟩:∃ n,ys.length = n:=⟨_,rfl⟩
 have HA:=Away.mk (fun i hi=>digit_any va xs i w ha hxm hi);have HB:=Away.mk (fun i hi=>digit_any vb ys i w hb hym hi)
 obtain ⟨a1,c1,rfl,q1,r1⟩:=ha.shapeC hn1
 obtain ⟨a2,c2,rfl,q2,r2⟩:=hb.shapeC hn2
 obtain ⟨m,hmx,h1m,h2m,hmm⟩:∃ m:Nat,max (n1:Int) (n2:Int) = (m:Int) ∧ n1 ≤ m ∧ n2 ≤ m ∧ m ≤ 1000000:=⟨max n1 n2,by omega,by omega,by omega,by omega⟩
 clear ha hb
 go_enter Tryz.func137,Tryz.ntmps137
 go_wp2
 go_loop [5] (fun iv=>∃ k:Nat,k ≤ m ∧ iv = .int .i64 ((k:Int) - 1) ∧ ∀ j,k ≤ j → xs.getD j 0 = ys.getD j 0) (fun i=>(intOf i + 1).toNat)
 case atStart=>exact ⟨m,Nat.le_refl _,rfl,fun j hj=>by rw [getD_past (by omega),getD_past (by omega)]⟩
 case round =>
  obtain ⟨k,hk,rfl,hz⟩:=hrel
  rcases Nat.eq_zero_or_pos k with h0 | h0
  ·subst h0
   have heq:cmpI (val W16 xs) (val W16 ys) = 0:=by rw [val_ext (fun j=>hz j (Nat.zero_le _)),cmpI_eq]
   have HC:=Away.mk heq
   clear hz heq
   go_wp2
   go_ret
   exact ⟨ret_int HC.out.symm,rfl⟩
  ·obtain ⟨i,rfl⟩:∃ i,k = i + 1:=⟨k - 1,by omega⟩
   have e1:((i + 1:Nat):Int) - 1 = (i:Int):=by omega
   rw [e1]
   have hlt:=fun h=>val_cmp (B:=W16) (by decide) hx i (fun j hj=>hz j (by omega)) h
   have hgt:=fun h=>val_cmp (B:=W16) (by decide) hy i (fun j hj=>(hz j (by omega)).symm) h
   have HLT:=Away.mk hlt;have HGT:=Away.mk hgt;have HZ:=Away.mk hz
   have HA1:=Away.mk (HA.out i (by omega));have HB1:=Away.mk (HB.out i (by omega))
   obtain ⟨x,hxx⟩:∃ x,xs.getD i 0 = x:=⟨_,rfl⟩
   obtain ⟨y,hyy⟩:∃ y,ys.getD i 0 = y:=⟨_,rfl⟩
   rw [hxx] at HLT HGT HA1
   rw [hyy] at HLT HGT HB1
   have HXX:=Away.mk hxx;have HYY:=Away.mk hyy
   clear hlt hgt hz e1 h0 hxx hyy
   have im:i ≤ 1000000:=by omega
   rcases Nat.lt_trichotomy x y with h | h | h
   ·have hc:=cmpI_lt (HLT.out h)
    have HC:=Away.mk hc
    have d1:decide (x < y) = true:=decide_eq_true h
    clear hc
    go_wp2_with fail
    refine HA1.out.mono ?_
    rintro _ w1 ⟨rfl,rfl⟩
    go_wp2_with fail
    refine HB1.out.mono ?_
    rintro _ w1 ⟨rfl,rfl⟩
    go_wp2
    go_ret
    exact ⟨ret_int HC.out.symm,rfl⟩
   ·subst h
    have d1:decide (x < x) = false:=decide_eq_false (by omega)
    go_wp2_with fail
    refine HA1.out.mono ?_
    rintro _ w1 ⟨rfl,rfl⟩
    go_wp2_with fail
    refine HB1.out.mono ?_
    rintro _ w1 ⟨rfl,rfl⟩
    go_wp2_with fail
    refine HA1.out.mono ?_
    rintro _ w1 ⟨rfl,rfl⟩
    go_wp2_with fail
    refine HB1.out.mono ?_
    rintro _ w1 ⟨rfl,rfl⟩
    go_wp2
    go_round
    case rel =>
     refine ⟨i,by omega,rfl,fun j hj=>?_⟩
     by_cases h:j = i
     ·rw [h,HXX.out,HYY.out]
     ·exact HZ.out j (by omega)
    case measure=>simp [intOf]
   ·have hc:=cmpI_gt (HGT.out h)
    have HC:=Away.mk hc
    have d1:decide (x < y) = false:=decide_eq_false (by omega)
    have d2:decide (y < x) = true:=decide_eq_true h
    clear hc
    go_wp2_with fail
    refine HA1.out.mono ?_
    rintro _ w1 ⟨rfl,rfl⟩
    go_wp2_with fail
    refine HB1.out.mono ?_
    rintro _ w1 ⟨rfl,rfl⟩
    go_wp2_with fail
    refine HA1.out.mono ?_
    rintro _ w1 ⟨rfl,rfl⟩
    go_wp2_with fail
    refine HB1.out.mono ?_
    rintro _ w1 ⟨rfl,rfl⟩
    go_wp2
    go_ret
    exact ⟨ret_int HC.out.symm,rfl⟩
theorem refread_math {ds:List Nat} {T i x t:Nat} (hl:i / 2 < ds.length) (hlo:Lo W16 ds) (hv:val W16 ds = T) (hT:T < 256 ^ i) (ht:ds.getD (i / 2) 0 = t) (hx:x < 256) :
  t + x * 256 ^ (i % 2) < 65536 ∧ val W16 (ds.set (i / 2) (t + x * 256 ^ (i % 2))) = T + 256 ^ i * x:=by
 have h0:256 ^ i = W16 ^ (i / 2) * 256 ^ (i % 2):=by
  rw [show (W16:Nat) = 256 ^ 2 from rfl,← Nat.pow_mul,← Nat.pow_add];congr 1;omega
 have e2:=val_set (B:=W16) hl (x * 256 ^ (i % 2))
 rw [ht,hv] at e2
 have ht':=getD_val (B:=W16) (by decide) hlo (i / 2)
 rw [ht,hv] at ht'
 have hlt:t < 256 ^ (i % 2):=by
  rw [ht']
  refine Nat.lt_of_le_of_lt (Nat.mod_le _ _) ?_
  rw [Nat.div_lt_iff_lt_mul (Nat.pow_pos (by decide)),Nat.mul_comm,← h0]
  exact hT
 refine ⟨?_,?_⟩
 ·rcases (show i % 2 = 0 ∨ i % 2 = 1 by omega) with h | h
  ·rw [h] at hlt ⊢;simp at hlt ⊢;omega
  ·rw [h] at hlt ⊢;simp at hlt ⊢;omega
 ·rw [e2,h0]
  congr 1
  rw [Nat.mul_comm x,Nat.mul_assoc]
set_option maxHeartbeats 1000000 in
theorem refread_any (v:Value) (bs:List Nat) (w:World) (hs:SlV w v (C .u8 bs)) (hl:Lo 256 bs) (hm:bs.length ≤ 100000) :
  Calls Tryz.prog 102 #[v] w fun e w'=>∃ v',e = .returned v' ∧ RA w' v' (val 256 bs.reverse) ∧ Below w.heap.size w w':=by
 obtain ⟨i0,hi,hz0,hz1,hz2⟩:=info_parts Tryz.info30
 obtain ⟨n,hn⟩:∃ n,bs.length = n:=⟨_,rfl⟩
 obtain ⟨a,cap,rfl,q1,r1⟩:=hs.shapeC hn
 rw [hn] at hm
 obtain ⟨m,hm'⟩:∃ m,n / 2 + 1 = m:=⟨_,rfl⟩
 have e0:(n:Int) / 2 + 1 = (m:Int):=by omega
 have hmn:m ≤ 100000 ∧ n < 2 * m:=by omega
 clear hm'
 have HS:=Away.mk hs
 clear hs
 go_enter Tryz.func102,Tryz.ntmps102
 go_wp2_with (at_make;refine wpList_make_full _ rfl _ _ 103 rfl w.heap.size 30 i0 _ 1 Tryz.underlying103 hi hz0 hz1 _ _ _ _ m rfl rfl (by omega) (by omega) (by rw [hz2];omega) (by unfold maxLen;omega) (Nat.le_refl _) ?_)
 intro w3 hown hg3
 have hr3:=Row.ofOwn (own_made hown)
 rw [← C_zeros] at hr3
 have hB3:Below w.heap.size w w3:=(Below.refl _ w).grown hg3 (Nat.le_refl _) (by simp)
 have HR3:=Away.mk hr3;have HB3:=Away.mk hB3
 clear hown hg3 hr3 hB3 e0
 go_wp2
 go_loopw [4] (fun iv wr=>∃ (k:Nat) (out:List Nat),k ≤ n ∧ iv = .int .i64 (k:Int) ∧ out.length = m ∧ Lo W16 out ∧ val W16 out = val 256 (bs.reverse.take k) ∧ Row wr w.heap.size 30 (C .u64 out) ∧ Below w.heap.size w wr) (fun i _=>n - (intOf i).toNat)
 case atStart=>exact ⟨0,_,Nat.zero_le _,rfl,by simp,Lo.zeros (by decide) _,by simp [val,val_zeros],HR3.out,HB3.out⟩
 case round =>
  obtain ⟨k,out,hk,rfl,hol,holo,hval,hr,hb⟩:=hrel
  by_cases hlt:k < n
  ·obtain ⟨b,off,rfl,hbl,hcx⟩:=(HS.out.below hb).cells (by rw [C_length];omega)
   obtain ⟨p,hp⟩:∃ p,n - 1 - k = p:=⟨_,rfl⟩
   have hck:=hcx p _ (C_get _ (by omega))
   have hyb:bs.getD p 0 < 256:=hl.getD (by decide) _
   have hvs:=val_take_succ (B:=256) bs.reverse k
   rw [rev_getD _ _ (by omega),hn,hp] at hvs
   have hlt2:=val_take_lt (B:=256) (by decide) hl.reverse k
   obtain ⟨kh,hkh⟩:∃ kh,k / 2 = kh:=⟨_,rfl⟩
   have hco:=(hr.cell kh).trans (C_get _ (by omega))
   have hfo:=hr.frozen kh
   have htb:out.getD kh 0 < 65536:=holo.getD (by decide) _
   obtain ⟨x,hx⟩:∃ x,bs.getD p 0 = x:=⟨_,rfl⟩
   obtain ⟨t,ht⟩:∃ t,out.getD kh 0 = t:=⟨_,rfl⟩
   rw [hx] at hck hyb hvs
   rw [ht] at hco htb
   obtain ⟨m1,m2⟩:=refread_math (i:=k) (t:=t) (by omega) holo hval hlt2 (by rw [hkh,ht]) hyb
   rw [hkh,← hvs] at m2
   have e2:(n:Int) - 1 - k = (p:Int):=by omega
   have e3:(k:Int) / 2 = (kh:Int):=by omega
   have hpn:p < n:=by omega
   have hkm:kh < m:=by omega
   have HM1:=Away.mk m1;have HM2:=Away.mk m2;have HR:=Away.mk hr;have HB:=Away.mk hb;have HL:=Away.mk holo
   clear hcx hval hvs hlt2 hr hb holo m1 m2 hp hkh hx ht HR3 HB3
   have hfin:∀ z:Nat,z = t + x * 256 ^ (k % 2) → ∃ (k':Nat) (out':List Nat),k' ≤ n ∧ Value.int .i64 ((k:Int) + 1) = .int .i64 (k':Int) ∧ out'.length = m ∧ Lo W16 out' ∧ val W16 out' = val 256 (bs.reverse.take k') ∧ Row (wr.setCell ⟨w.heap.size,kh,none⟩ (.int .u64 (z:Int))) w.heap.size 30 (C .u64 out') ∧ Below w.heap.size w (wr.setCell ⟨w.heap.size,kh,none⟩ (.int .u64 (z:Int))):=fun z hz=>by
    refine ⟨k + 1,out.set kh z,by omega,by simp,by simp [hol],HL.out.set _ _ (by rw [hz];exact HM1.out),by rw [hz];exact HM2.out,by rw [C_set];exact HR.out.set kh _,HB.out.setCell (p:=⟨w.heap.size,kh,none⟩) (Nat.le_refl _) _⟩
   have HF:=Away.mk hfin
   clear hfin
   by_cases ho:k % 2 = 1
   ·have d1:(k:Int) % 2 = 1:=by omega
    go_wp2
    go_roundw
    case rel =>
     have:=HF.out (t + x * 256) (by rw [ho])
     rw [show ((t + x * 256:Nat):Int) = (t:Int) + (x:Int) * 256 by omega] at this
     exact this
    case measure=>simp [intOf];omega
   ·have d1:((k:Int) % 2 == 1) = false:=by simp;omega
    go_wp2
    go_roundw
    case rel =>
     have:=HF.out (t + x) (by rw [show k % 2 = 0 by omega];omega)
     rw [show ((t + x:Nat):Int) = (t:Int) + (x:Int) by omega] at this
     exact this
    case measure=>simp [intOf];omega
  ·obtain rfl:k = n:=by omega
   rw [List.take_of_length_le (by rw [List.length_reverse];omega)] at hval
   have hsl:=hr.slAll (by rw [C_length];unfold maxLen;omega)
   rw [C_length,hol] at hsl
   have HT:=Away.mk (whole_any _ out wr hsl holo (by omega))
   rw [hval] at HT
   have HBr:=Away.mk hb
   clear hval hr hb holo HR3 HB3 hsl
   go_wp2_with fail
   refine HT.out.mono ?_
   rintro _ w6 ⟨v',rfl,hans,hb6⟩
   go_wp2
   go_ret
   exact ⟨_,rfl,hans,HBr.out.trans (hb6.mono HBr.out.size)⟩
set_option maxHeartbeats 1000000 in
theorem refadd_any (va vb:Value) (xs ys:List Nat) (w:World) (ha:SlV w va (C .u32 xs)) (hb:SlV w vb (C .u32 ys)) (hx:Lo W32 xs) (hy:Lo W32 ys) (hxm:xs.length ≤ 100000) (hym:ys.length ≤ 100000) :
  Calls Tryz.prog 64 #[va,vb] w fun e w'=>∃ v',e = .returned v' ∧ RA w' v' (val W32 xs + val W32 ys) ∧ Below w.heap.size w w':=by
 have HA:=Away.mk ha;have HB:=Away.mk hb
 clear ha hb
 go_enter Tryz.func64,Tryz.ntmps64
 go_wp2_with fail
 refine (digits_any _ xs w HA.out hx hxm).mono ?_
 rintro _ w1 ⟨v1,es,rfl,hI1,hl1,hs1,hb1⟩
 go_wp2_with fail
 refine (digits_any _ ys w1 (HB.out.below hb1) hy hym).mono ?_
 rintro _ w2 ⟨v2,fs,rfl,hI2,hl2,hs2,hb2⟩
 have hs1:=hs1.below hb2
 have hb02:Below w.heap.size w w2:=hb1.trans (hb2.mono hb1.size)
 obtain ⟨n1,hn1⟩:∃ n,es.length = n:=⟨_,rfl⟩
 obtain ⟨n2,hn2⟩:∃ n,fs.length = n:=⟨_,rfl⟩
 obtain ⟨a1,c1,rfl,q1,r1⟩:=hs1.shapeC hn1
 obtain ⟨a2,c2,rfl,q2,r2⟩:=hs2.shapeC hn2
 obtain ⟨m,hmx,h1m,h2m,hmm⟩:∃ m:Nat,max (n1:Int) (n2:Int) = (m:Int) ∧ n1 ≤ m ∧ n2 ≤ m ∧ m ≤ 200000:=⟨max n1 n2,by omega,by omega,by omega,by omega⟩
 have HS1:=Away.mk hs1;have HS2:=Away.mk hs2;have HI1:=Away.mk hI1;have HI2:=Away.mk hI2;have HB2:=Away.mk hb02
 clear hs1 hs2 hI1 hI2 hb1 hb2 hb02 HA HB
 go_wp2
 go_loopw [7,8,9] (fun ov cv iv wr=>∃ (k c:Nat) (out:List Nat),k ≤ m + 1 ∧ iv = .int .i64 (k:Int) ∧ cv = .int .u64 (c:Int) ∧ c ≤ 1 ∧ out.length = k ∧ Lo W16 out ∧ val W16 out + W16 ^ k * c = val W16 (es.take k) + val W16 (fs.take k) ∧ wr.ownsRow w2.heap.size 30 1 ov k (C .u64 out) ∧ Below w2.heap.size w2 wr) (fun _ _ i _=>m + 1 - (intOf i).toNat)
 case atStart=>exact ⟨0,0,[],Nat.zero_le _,rfl,rfl,by omega,rfl,Lo.nil _,by simp [val],own_empty w2 _ _ (Nat.le_refl _),(Below.refl _ _).alloc (Nat.le_refl _) _⟩
 case round =>
  obtain ⟨k,c,out,hk,rfl,rfl,hc,hol,holo,hval,hown,hb⟩:=hrel
  by_cases hlt:k < m + 1
  ·have hd1:=digit_any _ es k wr (HS1.out.below hb) (by omega) (by omega)
   have hd2:=digit_any _ fs k wr (HS2.out.below hb) (by omega) (by omega)
   have hx1:es.getD k 0 < 65536:=HI1.out.2.1.getD (by decide) _
   have hx2:fs.getD k 0 < 65536:=HI2.out.2.1.getD (by decide) _
   have hv1:=val_take_succ (B:=W16) es k
   have hv2:=val_take_succ (B:=W16) fs k
   generalize es.getD k 0 = x at *
   generalize fs.getD k 0 = y at *
   obtain ⟨s,hs⟩:∃ s,c + x + y = s:=⟨_,rfl⟩
   obtain ⟨p,hp⟩:∃ p,s % 65536 = p:=⟨_,rfl⟩
   have e1:((c:Int) + x + y) % 65536 = (p:Int):=by omega
   have e2:(c:Int) + x + y = (s:Int):=by omega
   have hpb:p < 65536:=by omega
   have hsb:s < 131072:=by omega
   have HD1:=Away.mk hd1;have HD2:=Away.mk hd2;have HV1:=Away.mk hv1;have HV2:=Away.mk hv2;have HV:=Away.mk hval;have HO:=Away.mk hown;have HB:=Away.mk hb;have HL:=Away.mk holo;have HSS:=Away.mk hs;have HP:=Away.mk hp
   clear hd1 hd2 hv1 hv2 hval hown hb holo hs hp e1
   have e3:(s:Int) % 65536 = (p:Int):=by have:=HP.out;omega
   go_wp2_with fail
   refine HD1.out.mono ?_
   rintro _ w' ⟨rfl,rfl⟩
   go_wp2_with fail
   refine HD2.out.mono ?_
   rintro _ w' ⟨rfl,rfl⟩
   go_wp2_with (at_builtin;refine wpList_append_sl rfl (.tmp 34) (.tmp 37) 103 rfl w2.heap.size 30 (.int .u64 0) 8 Tryz.underlying103 Tryz.info30 rfl _ k _ rfl (HO.out.alloc _) _ [.int .u64 (p:Int)] rfl (SlV_one _ _ _) (by simp [Value.oneCell']) (by simp;unfold maxLen;omega) (by simp;omega) (by have:=HB.out.size;simp;omega) ?_)
   intro v2' w3 hown2 hg2
   have hb2:Below w2.heap.size w2 w3:=(HB.out.alloc HB.out.size _).grown hg2 (by have:=HB.out.size;simp;omega) (fun j e=>(HO.out.lt j e).1)
   have HO2:=Away.mk hown2;have HB3:=Away.mk hb2
   clear hown2 hg2 hb2
   go_wp2
   go_roundw
   case rel =>
    refine ⟨k + 1,s / 65536,out ++ [p],by omega,by simp,by simp,by omega,by simp [hol],HL.out.append (by intro u hu;show u < 65536;simp at hu;omega),?_,by rw [C_append];exact HO2.out,HB3.out⟩
    rw [val_append,val_one,hol,HV1.out,HV2.out,Nat.pow_succ,← HP.out]
    have h1:=HV.out
    have h2:=HSS.out
    have h3:=Nat.mod_add_div s 65536
    generalize val W16 out = A at *
    generalize val W16 (es.take k) = T1 at *
    generalize val W16 (fs.take k) = T2 at *
    generalize W16 ^ k = P at *
    simp only [W16]
    generalize s % 65536 = u at *
    generalize s / 65536 = d at *
    subst h2
    grind
   case measure=>simp [intOf];omega
  ·obtain rfl:k = m + 1:=by omega
   rw [List.take_of_length_le (by omega),List.take_of_length_le (by omega),HI1.out.1,HI2.out.1] at hval
   have hv:=no_carry hval (sum_fits (by decide) (HI1.out.val_lt (by decide) (by omega)) (HI2.out.val_lt (by decide) (by omega)))
   have HT:=Away.mk (whole_any _ out wr (SlV.ofOwn hown) holo (by omega))
   rw [hv] at HT
   have HBr:=Away.mk (HB2.out.trans (hb.mono HB2.out.size))
   clear hval hown hb holo hv
   go_wp2_with fail
   refine HT.out.mono ?_
   rintro _ w6 ⟨v',rfl,hans,hb6⟩
   go_wp2
   go_ret
   exact ⟨_,rfl,hans,HBr.out.trans (hb6.mono HBr.out.size)⟩
set_option maxHeartbeats 1000000 in
theorem times_any (v:Value) (ys:List Nat) (q:Nat) (w:World) (hs:SlV w v (C .u64 ys)) (hl:Lo W16 ys) (hm:ys.length ≤ 300000) (hq:q < 65536) :
  Calls Tryz.prog 140 #[v,.int .u64 (q:Int)] w fun e w'=>∃ v' es,e = .returned v' ∧ Is W16 (val W16 ys * q) es ∧ es.length ≤ ys.length + 1 ∧ SlV w' v' (C .u64 es) ∧ Below w.heap.size w w':=by
 obtain ⟨n,hn⟩:∃ n,ys.length = n:=⟨_,rfl⟩
 have HS:=Away.mk hs
 obtain ⟨a,cap,rfl,q1,r1⟩:=hs.shapeC hn
 rw [hn] at hm ⊢
 clear hs
 go_enter Tryz.func140,Tryz.ntmps140
 go_wp2
 go_loopw [5,6,7] (fun ov cv iv wr=>∃ (k c:Nat) (out:List Nat),k ≤ n + 1 ∧ iv = .int .i64 (k:Int) ∧ cv = .int .u64 (c:Int) ∧ c < 65536 ∧ out.length = k ∧ Lo W16 out ∧ val W16 out + W16 ^ k * c = val W16 (ys.take k) * q ∧ wr.ownsRow w.heap.size 30 1 ov k (C .u64 out) ∧ Below w.heap.size w wr) (fun _ _ i _=>n + 1 - (intOf i).toNat)
 case atStart=>exact ⟨0,0,[],Nat.zero_le _,rfl,rfl,by omega,rfl,Lo.nil _,by simp [val],own_empty w _ _ (Nat.le_refl _),(Below.refl _ _).alloc (Nat.le_refl _) _⟩
 case round =>
  obtain ⟨k,c,out,hk,rfl,rfl,hc,hol,holo,hval,hown,hb⟩:=hrel
  by_cases hlt:k < n + 1
  ·have hd1:=digit_any _ ys k wr (HS.out.below hb) (by omega) (by omega)
   have hx1:ys.getD k 0 < 65536:=hl.getD (by decide) _
   have hv1:=val_take_succ (B:=W16) ys k
   generalize ys.getD k 0 = x at *
   have hxq:x * q ≤ 65535 * 65535:=Nat.mul_le_mul (by omega) (by omega)
   obtain ⟨z,hz⟩:∃ z,x * q = z:=⟨_,rfl⟩
   have hzi:(x:Int) * (q:Int) = (z:Int):=by rw [← hz];simp
   rw [hz] at hxq
   obtain ⟨s,hs⟩:∃ s,c + z = s:=⟨_,rfl⟩
   obtain ⟨p,hp⟩:∃ p,s % 65536 = p:=⟨_,rfl⟩
   have e2:(c:Int) + z = (s:Int):=by omega
   have hpb:p < 65536:=by omega
   have hsb:s < 4294967296:=by omega
   have e3:(s:Int) % 65536 = (p:Int):=by omega
   have HD1:=Away.mk hd1;have HV1:=Away.mk hv1;have HV:=Away.mk hval;have HO:=Away.mk hown;have HB:=Away.mk hb;have HL:=Away.mk holo;have HSS:=Away.mk hs;have HP:=Away.mk hp;have HZ:=Away.mk hz
   clear hd1 hv1 hval hown hb holo hs hp hz
   go_wp2_with fail
   refine HD1.out.mono ?_
   rintro _ w' ⟨rfl,rfl⟩
   go_wp2_with (at_builtin;refine wpList_append_sl rfl (.tmp 23) (.tmp 26) 103 rfl w.heap.size 30 (.int .u64 0) 8 Tryz.underlying103 Tryz.info30 rfl _ k _ rfl (HO.out.alloc _) _ [.int .u64 (p:Int)] rfl (SlV_one _ _ _) (by simp [Value.oneCell']) (by simp;unfold maxLen;omega) (by simp;omega) (by have:=HB.out.size;simp;omega) ?_)
   intro v2' w3 hown2 hg2
   have hb2:Below w.heap.size w w3:=(HB.out.alloc HB.out.size _).grown hg2 (by have:=HB.out.size;simp;omega) (fun j e=>(HO.out.lt j e).1)
   have HO2:=Away.mk hown2;have HB3:=Away.mk hb2
   clear hown2 hg2 hb2
   go_wp2
   go_roundw
   case rel =>
    refine ⟨k + 1,s / 65536,out ++ [p],by omega,by simp,by simp,by omega,by simp [hol],HL.out.append (by intro u hu;show u < 65536;simp at hu;omega),?_,by rw [C_append];exact HO2.out,HB3.out⟩
    rw [val_append,val_one,hol,HV1.out,Nat.pow_succ,← HP.out]
    have h1:=HV.out
    have h2:=HSS.out
    have h3:=Nat.mod_add_div s 65536
    have h4:=HZ.out
    generalize val W16 out = A at *
    generalize val W16 (ys.take k) = T1 at *
    generalize W16 ^ k = P at *
    simp only [W16]
    generalize s % 65536 = u at *
    generalize s / 65536 = d at *
    subst h4
    subst h2
    grind
   case measure=>simp [intOf];omega
  ·obtain rfl:k = n + 1:=by omega
   rw [List.take_of_length_le (by omega)] at hval
   have hyl:=val_lt (B:=W16) (by decide) hl
   rw [hn] at hyl
   have hfit:val W16 ys * q < W16 ^ (n + 1):=by
    rw [Nat.pow_succ]
    exact Nat.mul_lt_mul'' hyl hq
   have hv:=no_carry hval hfit
   have HT:=Away.mk (trim_any _ out wr (SlV.ofOwn hown) holo (by omega))
   rw [hv] at HT
   have HBr:=Away.mk hb
   clear hval hown hb holo hv hyl hfit
   go_wp2_with fail
   refine HT.out.mono ?_
   rintro _ w6 ⟨v',es,rfl,hI,hle,hs6,rfl⟩
   go_wp2
   go_ret
   have hle':es.length ≤ n + 1:=by omega
   first | exact ⟨_,es,rfl,hI,hle',hs6,HBr.out⟩ | exact ⟨_,rfl,es,hI,hle',hs6,HBr.out⟩
set_option maxHeartbeats 2000000 in
theorem less_any (va vb:Value) (xs ys:List Nat) (w:World) (ha:SlV w va (C .u64 xs)) (hb:SlV w vb (C .u64 ys)) (hx:Lo W16 xs) (hy:Lo W16 ys) (hxm:xs.length ≤ 300000) (hym:ys.length ≤ 300000) (hle:val W16 ys ≤ val W16 xs) :
  Calls Tryz.prog 139 #[va,vb] w fun e w'=>∃ v' es,e = .returned v' ∧ Is W16 (val W16 xs - val W16 ys) es ∧ es.length ≤ xs.length ∧ SlV w' v' (C .u64 es) ∧ Below w.heap.size w w':=by
 obtain ⟨n,hn⟩:∃ n,xs.length = n:=⟨_,rfl⟩
 have HA:=Away.mk ha;have HB:=Away.mk hb
 obtain ⟨a,cap,rfl,q1,r1⟩:=ha.shapeC hn
 rw [hn] at hxm ⊢
 have HLE:=Away.mk hle
 clear ha hb hle
 go_enter Tryz.func139,Tryz.ntmps139
 go_wp2
 go_loopw [5,6,7] (fun ov cv iv wr=>∃ (k c:Nat) (out:List Nat),k ≤ n ∧ iv = .int .i64 (k:Int) ∧ cv = .int .u64 (c:Int) ∧ c ≤ 1 ∧ out.length = k ∧ Lo W16 out ∧ val W16 out + val W16 (ys.take k) = val W16 (xs.take k) + W16 ^ k * c ∧ wr.ownsRow w.heap.size 30 1 ov k (C .u64 out) ∧ Below w.heap.size w wr) (fun _ _ i _=>n - (intOf i).toNat)
 case atStart=>exact ⟨0,0,[],Nat.zero_le _,rfl,rfl,by omega,rfl,Lo.nil _,by simp [val],own_empty w _ _ (Nat.le_refl _),(Below.refl _ _).alloc (Nat.le_refl _) _⟩
 case round =>
  obtain ⟨k,c,out,hk,rfl,rfl,hc,hol,holo,hval,hown,hb⟩:=hrel
  by_cases hlt:k < n
  ·obtain ⟨b,off,rfl,hbl,hcx⟩:=HA.out.cells (by rw [C_length];omega)
   have hck:wr.cell? ⟨b,off + k,none⟩ = some (.int .u64 (xs.getD k 0:Nat)):=(hb.cell (p:=⟨b,off + k,none⟩) hbl).trans (hcx k _ (C_get _ (by omega)))
   have hd2:=digit_any _ ys k wr.drew ((HB.out.below hb).below ((Below.refl _ _).drew)) (by omega) (by omega)
   have hx1:xs.getD k 0 < 65536:=hx.getD (by decide) _
   have hx2:ys.getD k 0 < 65536:=hy.getD (by decide) _
   have hv1:=val_take_succ (B:=W16) xs k
   have hv2:=val_take_succ (B:=W16) ys k
   generalize xs.getD k 0 = x at *
   generalize ys.getD k 0 = y at *
   obtain ⟨s,hs⟩:∃ s,x + 65536 - y - c = s:=⟨_,rfl⟩
   obtain ⟨p,hp⟩:∃ p,s % 65536 = p:=⟨_,rfl⟩
   obtain ⟨d,hd⟩:∃ d,1 - s / 65536 = d:=⟨_,rfl⟩
   have hrel:p + y + c = x + 65536 * d ∧ d ≤ 1 ∧ s < 131072 ∧ p < 65536:=by omega
   have e1:(x:Int) + 65536 - y - c = (s:Int):=by omega
   have e2:(s:Int) % 65536 = (p:Int):=by omega
   have e3:1 - (s:Int) / 65536 = (d:Int):=by omega
   obtain ⟨r1',r2',r3',r4'⟩:=hrel
   have HD2:=Away.mk hd2;have HV1:=Away.mk hv1;have HV2:=Away.mk hv2;have HV:=Away.mk hval;have HO:=Away.mk hown;have HBB:=Away.mk hb;have HL:=Away.mk holo;have HR:=Away.mk r1';have E1:=Away.mk e1
   clear hd2 hv1 hv2 hval hown hb holo hs hp hd hcx r1' e1
   go_wp2
   refine wp_region_noPanic ?_
   refine wp_region_held_drew (S:=fun w'=>w'.cell? ⟨b,off + k,none⟩ = some (.int .u64 (x:Int))) (by kernel_rfl) (hck) (fun hHeld=>?_)
   refine tkg 0 rfl ?_
   simp only [Act.put,stA,st0,st1]
   refine tkg 1 rfl ?_
   simp only [Act.put,stA,st0,st1]
   refine tkg 2 rfl ?_
   simp only [Act.put,stA,st0,st1]
   refine tkg 3 rfl ?_
   simp only [Act.put,stA,st0,st1]
   refine tkg 4 rfl ?_
   simp only [Act.put,stA,st0,st1]
   refine tkg 5 rfl ?_
   simp only [Act.put,stA,st0,st1]
   refine tkg 6 rfl ?_
   simp only [Act.put,stA,st0,st1]
   refine tkg 9 rfl ?_
   simp only [Act.put,stA,st0,st1]
   refine ar1 7 rfl (fun K hK=>?_)
   go_simp
   refine HD2.out.mono ?_
   rintro _ w' ⟨rfl,rfl⟩
   refine hK.out _ _ (hck) (fun hHeld=>?_)
   clear hK K
   refine tkg 8 rfl ?_
   simp only [Act.put,stA,st0,st1]
   refine tkg 10 rfl ?_
   simp only [Act.put,stA,st0,st1]
   refine tkg 11 rfl ?_
   simp only [Act.put,stA,st0,st1]
   refine wpAnyH_done (by kernel_rfl) ?_ _
   refine NoPanic.normal ?_
   have eS:IntKind.u64.wrap (IntKind.u64.wrap (IntKind.u64.wrap ((x:Int) + 65536) - (y:Int)) - (c:Int)) = (s:Int):=by
    simp only [wrapU];have:=E1.out;omega
   first | rw [eS] | skip
   have hOd:wr.drew.ownsRow w.heap.size 30 1 u5 k (C .u64 out):=HO.out
   have HOd:=Away.mk hOd
   have HBd:=Away.mk HBB.out.drew
   have e4:IntKind.u64.wrap (1 - (s:Int) / 65536) = (d:Int):=by rw [wrapU,e3];omega
   clear hOd eS hHeld
   go_wp2_with (at_builtin;refine wpList_append_sl rfl (.tmp 30) (.tmp 33) 103 rfl w.heap.size 30 (.int .u64 0) 8 Tryz.underlying103 Tryz.info30 rfl _ k _ rfl (HOd.out.alloc _) _ [.int .u64 (p:Int)] rfl (SlV_one _ _ _) (by simp [Value.oneCell']) (by simp;unfold maxLen;omega) (by simp;omega) (by have:=HBB.out.size;simp;omega) ?_)
   intro v2' w3 hown2 hg2
   have hb2:Below w.heap.size w w3:=(HBd.out.alloc HBd.out.size _).grown hg2 (by have:=HBB.out.size;simp;omega) (fun j e=>(HO.out.lt j e).1)
   have HO2:=Away.mk hown2;have HB3:=Away.mk hb2
   clear hown2 hg2 hb2
   go_wp2
   go_roundw
   case rel =>
    refine ⟨k + 1,d,out ++ [p],by omega,by simp,rfl,r2',by simp [hol],HL.out.append (by intro u hu;show u < 65536;simp at hu;omega),?_,by rw [C_append];exact HO2.out,HB3.out⟩
    rw [val_append,val_one,hol,HV1.out,HV2.out,Nat.pow_succ]
    have h1:=HV.out
    have h2:=HR.out
    generalize val W16 out = A at *
    generalize val W16 (xs.take k) = T1 at *
    generalize val W16 (ys.take k) = T2 at *
    generalize W16 ^ k = P at *
    simp only [W16]
    grind
   case measure=>simp [intOf];omega
  ·obtain rfl:k = n:=by omega
   have hxl:=val_lt (B:=W16) (by decide) hx
   rw [hn] at hxl
   have hyt:val W16 (ys.take k) = val W16 ys:=val_take_all (by decide) (Nat.lt_of_le_of_lt HLE.out hxl)
   rw [List.take_of_length_le (by omega:xs.length ≤ k),hyt] at hval
   have hol':=val_lt (B:=W16) (by decide) holo
   rw [hol] at hol'
   have hv:=(no_borrow hval hol' HLE.out).2
   have HT:=Away.mk (trim_any _ out wr (SlV.ofOwn hown) holo (by omega))
   rw [hv] at HT
   have HBr:=Away.mk hb
   clear hval hown hb holo hv hxl hyt hol'
   go_wp2_with fail
   refine HT.out.mono ?_
   rintro _ w6 ⟨v',es,rfl,hI,hle,hs6,rfl⟩
   go_wp2
   go_ret
   have hle':es.length ≤ k:=by omega
   first | exact ⟨_,es,rfl,hI,hle',hs6,HBr.out⟩ | exact ⟨_,rfl,es,hI,hle',hs6,HBr.out⟩
end Go.Proofs.YtmjimilhomabfaaGreatDoor
