/-
 Texts joined:  FldF FldG FldH FldK FldP
-/
import Derived.Test.YtmjimilhomabfaaGreatDoorF13a
import Derived.BigQuiet
import Derived.Test.YtmjimilhomabfaaGreatDoorK13
import Derived.Test.YtmjimilhomabfaaGreatDoorW13
namespace Go.Proofs.YtmjimilhomabfaaGreatDoor.F
open Go.RowKit
set_option linter.unusedVariables false
set_option maxRecDepth 10000
theorem refless_any (A B:Nat) (hA:A < 115792089237316195423570985008687907853269984665640564039457584007913129639936) (hB:B < 115792089237316195423570985008687907853269984665640564039457584007913129639936) (w:World) :
  Calls Tryz.prog 87 #[el A,el B] w fun e w'=>e = .returned (.tuple #[el ((A + 115792089237316195423570985008687907853269984665640564039457584007913129639936 - B) % 115792089237316195423570985008687907853269984665640564039457584007913129639936),.bool (decide (A < B))]) ∧ Below w.heap.size w w':=by
 obtain ⟨hM,hBr⟩:=mns_four hA hB
 have hx:=wds_lo A
 have hy:=wds_lo B
 have lx:=wds_length A
 have ly:=wds_length B
 unfold el
 rw [← hM]
 have hdec:decide (A < B) = decide ((mns (wds A) (wds B) 4).2 = 1):=by rw [decide_eq_decide];exact hBr.symm
 rw [hdec]
 clear hM hBr hdec
 generalize wds A = xs at *
 generalize wds B = ys at *
 obtain ⟨w3,h3,r1,r2,r3,hL,hS⟩:=rows3 w 32 32 32 (C .u64 xs) (C .u64 ys) (C .u64 (Z 4))
 go_enter Tryz.func87,Tryz.ntmps87
 go_upto_region 1 with (refine wpList_alloc_row rfl 32 rfl _ z4 ?_)
 try simp only [Act.put,stA,st0,st1,alloc_size,h3]
 clear h3
 have r4:=Row.newAt w3 _ hS.symm 32 (C .u64 (Z 4))
 replace r1:=r1.alloc (.cells (C .u64 (Z 4)).toArray 32)
 replace r2:=r2.alloc (.cells (C .u64 (Z 4)).toArray 32)
 replace r3:=r3.alloc (.cells (C .u64 (Z 4)).toArray 32)
 replace hL:=hL.alloc (by omega) (.cells (C .u64 (Z 4)).toArray 32)
 go_wp2_with (first | refine wpList_alloc_row rfl 32 rfl _ z4 ?_ | refine wpList_build_Z rfl 32 rfl _ b4 ?_ | (refine wpList_store_R rfl 32 _ _ rfl _ (C .u64 (Z 4)) (by first | rfl | (rw [← hS];rfl)) rfl r4 i4 rfl (C_allL _ _) ?_;intro w5 r5 hg5 hz5))
 replace r1:=r1.grown hg5 (by simp;omega)
 replace r2:=r2.grown hg5 (by simp)
 replace hL:=below_grown hL hg5 (by omega) r4.lt
 replace r3:=r3.grown hg5 (by simp)
 clear r4 hg5
 go_loopw [7,8] (fun b i wr=>∃ k:Nat,k ≤ 4 ∧ i = .int .i64 k ∧ b = .int .u64 ((mns xs ys k).2:Nat) ∧ Row wr w.heap.size 32 (C .u64 xs) ∧ Row wr (w.heap.size + 1) 32 (C .u64 ys) ∧ Row wr (w.heap.size + 1 + 1) 32 (C .u64 (Z 4)) ∧ Row wr (w.heap.size + 1 + 1 + 1) 32 (C .u64 ((mns xs ys k).1 ++ Z (4 - k))) ∧ Below w.heap.size w wr) (fun _ i _=>4 - (intOf i).toNat)
 case atStart=>exact ⟨0,Nat.zero_le _,rfl,rfl,r1,r2,r3,r5,hL⟩
 case round =>
  clear r1 r2 r3 r5 hL
  obtain ⟨k,hk,rfl,rfl,r1,r2,r3,r4,hL⟩:=hrel
  by_cases hlt:k < 4
  ·have c1:=r1.cell k
   rw [C_get .u64 (by omega)] at c1
   have c2:=r2.cell k
   rw [C_get .u64 (by omega)] at c2
   have c4:=r4.cell k
   have hlen:=mns_length xs ys k
   rw [C_get .u64 (by simp [hlen,Z_length];omega)] at c4
   have hf:=r4.frozen k
   have b1:=hx.getD (by decide) k
   have b2:=hy.getD (by decide) k
   have b3:=mns_le xs ys k
   have HN:Away (mns xs ys (k + 1) = ((mns xs ys k).1 ++ [(xs.getD k 0 + 18446744073709551616 - ys.getD k 0 - (mns xs ys k).2) % 18446744073709551616],if xs.getD k 0 < ys.getD k 0 + (mns xs ys k).2 then 1 else 0)):=⟨rfl⟩
   have hki:(k:Int) < 4:=by omega
   generalize xs.getD k 0 = x at *
   generalize ys.getD k 0 = y at *
   generalize mns xs ys k = ms at *
   obtain ⟨m,b⟩:=ms
   simp only at *
   obtain ⟨z,hz⟩:∃ z,(x + 18446744073709551616 - y - b) % 18446744073709551616 = z:=⟨_,rfl⟩
   obtain ⟨y1,hy1⟩:∃ y1,(x + 18446744073709551616 - y) % 18446744073709551616 = y1:=⟨_,rfl⟩
   have e1:IntKind.u64.wrap ((x:Int) - (y:Int)) = (y1:Int):=by rw [IntKind.wrap_u64];omega
   have e2:IntKind.u64.wrap ((y1:Int) - (b:Int)) = (z:Int):=by rw [IntKind.wrap_u64];omega
   rw [hz] at HN
   clear hz hy1
   generalize (m ++ Z (4 - k)).getD k 0 = u at *
   go_wp2
   go_region_held3 (fun w'=>w'.cell? ⟨w.heap.size,k,none⟩ = some (.int .u64 (x:Int)) ∧ w'.cell? ⟨w.heap.size + 1,k,none⟩ = some (.int .u64 (y:Int)))
    (first | exact ⟨c1,c2⟩ | exact ⟨cell_other c1 (by omega),cell_other c2 (by omega)⟩)
    (fail)
   have q1:=(r1.drew.other (i:=k) (.int .u64 (z:Int)) (show w.heap.size ≠ w.heap.size + 1 + 1 + 1 by omega))
   have q2:=(r2.drew.other (i:=k) (.int .u64 (z:Int)) (show w.heap.size + 1 ≠ w.heap.size + 1 + 1 + 1 by omega))
   have q3:=(r3.drew.other (i:=k) (.int .u64 (z:Int)) (show w.heap.size + 1 + 1 ≠ w.heap.size + 1 + 1 + 1 by omega))
   have q4:=row_fill r4.drew hlen (by omega) z
   rw [show 4 - k - 1 = 4 - (k + 1) by omega] at q4
   have q5:=(below_drawn hL).setCell (p:=⟨w.heap.size + 1 + 1 + 1,k,none⟩) (by simp;omega) (.int .u64 (z:Int))
   replace c1:=cell_other (i:=k) (u:=.int .u64 (z:Int)) c1 (show w.heap.size ≠ w.heap.size + 1 + 1 + 1 by omega)
   replace c2:=cell_other (i:=k) (u:=.int .u64 (z:Int)) c2 (show w.heap.size + 1 ≠ w.heap.size + 1 + 1 + 1 by omega)
   clear r1 r2 r3 r4 hL c4 hf e1 e2
   rename_i hHeld
   clear hHeld
   obtain ⟨wn,hwn,q1,q2,q3,q4,q5,c1,c2⟩:∃ wn:World,(wr.setCell ⟨w.heap.size + 1 + 1 + 1,k,none⟩ (.int .u64 (z:Int))).drew = wn ∧ Row wn w.heap.size 32 (C .u64 xs) ∧ Row wn (w.heap.size + 1) 32 (C .u64 ys) ∧ Row wn (w.heap.size + 1 + 1) 32 (C .u64 (Z 4)) ∧ Row wn (w.heap.size + 1 + 1 + 1) 32 (C .u64 (m ++ [z] ++ Z (4 - (k + 1)))) ∧ Below w.heap.size w wn ∧ wn.cell? ⟨w.heap.size,k,none⟩ = some (.int .u64 (x:Int)) ∧ wn.cell? ⟨w.heap.size + 1,k,none⟩ = some (.int .u64 (y:Int)):=⟨_,rfl,q1,q2,q3,q4,q5,c1,c2⟩
   rw [hwn]
   clear hwn
   by_cases h1:x < y
   ·have HN':Away (mns xs ys (k + 1) = (m ++ [z],1)):=⟨by rw [HN.out,if_pos (by omega)]⟩
    have d1:(x:Int) < (y:Int):=by omega
    clear HN h1 b1 b2 b3
    go_wp2
    go_quiet (fail)
    go_wp2
    go_roundw
    case rel=>exact ⟨k + 1,by omega,by go_num,by rw [HN'.out];rfl,q1,q2,q3,by rw [HN'.out];exact q4,below_drewN q5 nq⟩
    case measure=>simp [intOf];omega
   ·by_cases h2:x = y
    ·have d1:¬ (x:Int) < (y:Int):=by omega
     have d2:(x:Int) = (y:Int):=by omega
     by_cases h3:b = 1
     ·have HN':Away (mns xs ys (k + 1) = (m ++ [z],1)):=⟨by rw [HN.out,if_pos (by omega)]⟩
      have d3:(b:Int) = 1:=by omega
      clear HN h1 h2 h3 b1 b2 b3
      go_wp2
      go_quiet (fail)
      go_wp2
      go_roundw
      case rel=>exact ⟨k + 1,by omega,by go_num,by rw [HN'.out];rfl,q1,q2,q3,by rw [HN'.out];exact q4,below_drewN q5 nq⟩
      case measure=>simp [intOf];omega
     ·have HN':Away (mns xs ys (k + 1) = (m ++ [z],0)):=⟨by rw [HN.out,if_neg (by omega)]⟩
      have d3:¬ (b:Int) = 1:=by omega
      clear HN h1 h2 h3 b1 b2 b3
      go_wp2
      go_quiet (fail)
      go_wp2
      go_roundw
      case rel=>exact ⟨k + 1,by omega,by go_num,by rw [HN'.out];rfl,q1,q2,q3,by rw [HN'.out];exact q4,below_drewN q5 nq⟩
      case measure=>simp [intOf];omega
    ·have HN':Away (mns xs ys (k + 1) = (m ++ [z],0)):=⟨by rw [HN.out,if_neg (by omega)]⟩
     have d1:decide (x < y) = false:=decide_eq_false h1
     have d2:((x:Int) == (y:Int)) = false:=by rw [beq_eq_false_iff_ne];omega
     clear HN h1 h2 b1 b2 b3
     go_wp2
     go_quiet (fail)
     go_wp2
     go_roundw
     case rel=>exact ⟨k + 1,by omega,by go_num,by rw [HN'.out];rfl,q1,q2,q3,by rw [HN'.out];exact q4,below_drewN q5 nq⟩
     case measure=>simp [intOf];omega
  ·obtain rfl:k = 4:=by omega
   have h4:=mns_length xs ys 4
   generalize hms:mns xs ys 4 = ms at *
   have HM:=Away.mk hms
   clear hms
   obtain ⟨m,b⟩:=ms
   simp only at *
   rw [show m ++ Z (4 - 4) = m by simp [Z]] at r4
   have hi:=h4
   rw [← C_length .u64 m] at hi
   have hi4:(Tryz.prog.info? 32).map (·.size) = some (C .u64 m).length:=by rw [hi];exact i4
   have db:((b:Int) == 1) = decide (b = 1):=by rw [Bool.eq_iff_iff];simp;omega
   clear h4
   go_wp2_with (first | refine wpList_load_row rfl 32 _ rfl _ rfl _ _ _ _ r4 Tryz.underlying32 rfl hi4 ?_ | (refine wpList_store_R rfl 32 _ _ rfl _ _ rfl rfl r3 hi4 (by rw [hi];rfl) (C_allL _ _) ?_;intro w5 hR5 hg5 hz5))
   exact result_row2 Tryz.results87 (v:=.bool (decide (b = 1))) rfl rfl hR5 Tryz.underlying32 rfl hi4 rfl ⟨by rw [HM.out],below_grown hL hg5 (by omega) r3.lt⟩
theorem refmore_any11 (A B:Nat) (hA:A < 115792089237316195423570985008687907853269984665640564039457584007913129639936) (hB:B < 115792089237316195423570985008687907853269984665640564039457584007913129639936) (w:World) :
  Calls Tryz.prog 96 #[el A,el B] w fun e w'=>e = .returned (.tuple #[el ((A + B) % 115792089237316195423570985008687907853269984665640564039457584007913129639936),.bool (decide ((A + B) / 115792089237316195423570985008687907853269984665640564039457584007913129639936 = 1))]) ∧ Below w.heap.size w w':=by
 obtain ⟨hM,hBr⟩:=pls_four hA hB
 have hx:=wds_lo A
 have hy:=wds_lo B
 have lx:=wds_length A
 have ly:=wds_length B
 unfold el
 rw [← hM,← hBr]
 clear hM hBr
 generalize wds A = xs at *
 generalize wds B = ys at *
 obtain ⟨w3,h3,r1,r2,r3,hL,hS⟩:=rows3 w 32 32 32 (C .u64 xs) (C .u64 ys) (C .u64 (Z 4))
 go_enter Tryz.func96,Tryz.ntmps96
 go_upto_region 1 with (refine wpList_alloc_row rfl 32 rfl _ z4 ?_)
 try simp only [Act.put,stA,st0,st1,alloc_size,h3]
 clear h3
 have r4:=Row.newAt w3 _ hS.symm 32 (C .u64 (Z 4))
 replace r1:=r1.alloc (.cells (C .u64 (Z 4)).toArray 32)
 replace r2:=r2.alloc (.cells (C .u64 (Z 4)).toArray 32)
 replace r3:=r3.alloc (.cells (C .u64 (Z 4)).toArray 32)
 replace hL:=hL.alloc (by omega) (.cells (C .u64 (Z 4)).toArray 32)
 go_wp2_with (first | refine wpList_alloc_row rfl 32 rfl _ z4 ?_ | refine wpList_build_Z rfl 32 rfl _ b4 ?_ | (refine wpList_store_R rfl 32 _ _ rfl _ (C .u64 (Z 4)) (by first | rfl | (rw [← hS];rfl)) rfl r4 i4 rfl (C_allL _ _) ?_;intro w5 r5 hg5 hz5))
 replace r1:=r1.grown hg5 (by simp;omega)
 replace r2:=r2.grown hg5 (by simp)
 replace hL:=below_grown hL hg5 (by omega) r4.lt
 replace r3:=r3.grown hg5 (by simp)
 clear r4 hg5
 go_loopw [7,8] (fun b i wr=>∃ k:Nat,k ≤ 4 ∧ i = .int .i64 k ∧ b = .int .u64 ((pls xs ys k).2:Nat) ∧ Row wr w.heap.size 32 (C .u64 xs) ∧ Row wr (w.heap.size + 1) 32 (C .u64 ys) ∧ Row wr (w.heap.size + 1 + 1) 32 (C .u64 (Z 4)) ∧ Row wr (w.heap.size + 1 + 1 + 1) 32 (C .u64 ((pls xs ys k).1 ++ Z (4 - k))) ∧ Below w.heap.size w wr) (fun _ i _=>4 - (intOf i).toNat)
 case atStart=>exact ⟨0,Nat.zero_le _,rfl,rfl,r1,r2,r3,r5,hL⟩
 case round =>
  clear r1 r2 r3 r5 hL
  obtain ⟨k,hk,rfl,rfl,r1,r2,r3,r4,hL⟩:=hrel
  by_cases hlt:k < 4
  ·have c1:=r1.cell k
   rw [C_get .u64 (by omega)] at c1
   have c2:=r2.cell k
   rw [C_get .u64 (by omega)] at c2
   have c4:=r4.cell k
   have hlen:=pls_length xs ys k
   rw [C_get .u64 (by simp [hlen,Z_length];omega)] at c4
   have hf:=r4.frozen k
   have b1:=hx.getD (by decide) k
   have b2:=hy.getD (by decide) k
   have b3:=pls_le hx hy k
   have HN:Away (pls xs ys (k + 1) = ((pls xs ys k).1 ++ [(xs.getD k 0 + ys.getD k 0 + (pls xs ys k).2) % 18446744073709551616],(xs.getD k 0 + ys.getD k 0 + (pls xs ys k).2) / 18446744073709551616)):=⟨rfl⟩
   have hki:(k:Int) < 4:=by omega
   generalize xs.getD k 0 = x at *
   generalize ys.getD k 0 = y at *
   generalize pls xs ys k = ms at *
   obtain ⟨m,b⟩:=ms
   simp only at *
   obtain ⟨z,hz⟩:∃ z,(x + y + b) % 18446744073709551616 = z:=⟨_,rfl⟩
   obtain ⟨y1,hy1⟩:∃ y1,(x + y) % 18446744073709551616 = y1:=⟨_,rfl⟩
   have e1:IntKind.u64.wrap ((x:Int) + (y:Int)) = (y1:Int):=by rw [IntKind.wrap_u64];omega
   have e2:IntKind.u64.wrap ((y1:Int) + (b:Int)) = (z:Int):=by rw [IntKind.wrap_u64];omega
   rw [hz] at HN
   generalize (m ++ Z (4 - k)).getD k 0 = u at *
   have HD:Away ((x + y + b) / 18446744073709551616 = if y1 < x ∨ z < y1 then 1 else 0):=⟨by split <;> omega⟩
   rw [HD.out] at HN
   clear hz hy1 HD
   go_wp2
   go_quiet (fail)
   obtain ⟨wn,hwn,r1,r2,r3,r4,hL,c1,c2,c4,hf⟩:∃ wn:World,wr.drewN nq = wn ∧ Row wn w.heap.size 32 (C .u64 xs) ∧ Row wn (w.heap.size + 1) 32 (C .u64 ys) ∧ Row wn (w.heap.size + 1 + 1) 32 (C .u64 (Z 4)) ∧ Row wn (w.heap.size + 1 + 1 + 1) 32 (C .u64 (m ++ Z (4 - k))) ∧ Below w.heap.size w wn ∧ wn.cell? ⟨w.heap.size,k,none⟩ = some (.int .u64 (x:Int)) ∧ wn.cell? ⟨w.heap.size + 1,k,none⟩ = some (.int .u64 (y:Int)) ∧ wn.cell? ⟨w.heap.size + 1 + 1 + 1,k,none⟩ = some (.int .u64 (u:Int)) ∧ wn.frozen? ⟨w.heap.size + 1 + 1 + 1,k,none⟩ = false:=⟨_,rfl,r1,r2,r3,r4,below_drewN hL nq,c1,c2,c4,hf⟩
   rw [hwn]
   clear hwn
   have q1:=(r1.other (i:=k) (.int .u64 (z:Int)) (show w.heap.size ≠ w.heap.size + 1 + 1 + 1 by omega))
   have q2:=(r2.other (i:=k) (.int .u64 (z:Int)) (show w.heap.size + 1 ≠ w.heap.size + 1 + 1 + 1 by omega))
   have q3:=(r3.other (i:=k) (.int .u64 (z:Int)) (show w.heap.size + 1 + 1 ≠ w.heap.size + 1 + 1 + 1 by omega))
   have q4:=row_fill r4 hlen (by omega) z
   rw [show 4 - k - 1 = 4 - (k + 1) by omega] at q4
   have q5:=hL.setCell (p:=⟨w.heap.size + 1 + 1 + 1,k,none⟩) (by simp;omega) (.int .u64 (z:Int))
   clear r1 r2 r3 r4 hL
   by_cases h1:y1 < x
   ·have HN':Away (pls xs ys (k + 1) = (m ++ [z],1)):=⟨by rw [HN.out,if_pos (.inl h1)]⟩
    have d1:(y1:Int) < (x:Int):=by omega
    clear HN h1 b1 b2 b3
    go_wp2
    go_roundw
    case rel=>exact ⟨k + 1,by omega,by go_num,by rw [HN'.out];rfl,q1,q2,q3,by rw [HN'.out];exact q4,q5⟩
    case measure=>simp [intOf];omega
   ·have d1:¬ (y1:Int) < (x:Int):=by omega
    by_cases h2:z < y1
    ·have HN':Away (pls xs ys (k + 1) = (m ++ [z],1)):=⟨by rw [HN.out,if_pos (.inr h2)]⟩
     have d2:(z:Int) < (y1:Int):=by omega
     clear HN h1 h2 b1 b2 b3
     go_wp2
     go_roundw
     case rel=>exact ⟨k + 1,by omega,by go_num,by rw [HN'.out];rfl,q1,q2,q3,by rw [HN'.out];exact q4,q5⟩
     case measure=>simp [intOf];omega
    ·have HN':Away (pls xs ys (k + 1) = (m ++ [z],0)):=⟨by rw [HN.out,if_neg (by omega)]⟩
     have d2:¬ (z:Int) < (y1:Int):=by omega
     clear HN h1 h2 b1 b2 b3
     go_wp2
     go_roundw
     case rel=>exact ⟨k + 1,by omega,by go_num,by rw [HN'.out];rfl,q1,q2,q3,by rw [HN'.out];exact q4,q5⟩
     case measure=>simp [intOf];omega
  ·obtain rfl:k = 4:=by omega
   have h4:=pls_length xs ys 4
   generalize hms:pls xs ys 4 = ms at *
   have HM:=Away.mk hms
   clear hms
   obtain ⟨m,b⟩:=ms
   simp only at *
   rw [show m ++ Z (4 - 4) = m by simp [Z]] at r4
   have hi:=h4
   rw [← C_length .u64 m] at hi
   have hi4:(Tryz.prog.info? 32).map (·.size) = some (C .u64 m).length:=by rw [hi];exact i4
   have db:((b:Int) == 1) = decide (b = 1):=by rw [Bool.eq_iff_iff];simp;omega
   clear h4
   go_wp2_with (first | refine wpList_load_row rfl 32 _ rfl _ rfl _ _ _ _ r4 Tryz.underlying32 rfl hi4 ?_ | (refine wpList_store_R rfl 32 _ _ rfl _ _ rfl rfl r3 hi4 (by rw [hi];rfl) (C_allL _ _) ?_;intro w5 hR5 hg5 hz5))
   exact result_row2 Tryz.results96 (v:=.bool (decide (b = 1))) rfl rfl hR5 Tryz.underlying32 rfl hi4 rfl ⟨by rw [HM.out],below_grown hL hg5 (by omega) r3.lt⟩
theorem bP:Tryz.prog.built 32 [(0,.int .u64 18446744073709551597),(1,.int .u64 18446744073709551615),(2,.int .u64 18446744073709551615),(3,.int .u64 9223372036854775807)] = some (C .u64 (wds P)).toArray:=by kernel_rfl
theorem prime_any (w:World):Calls Tryz.prog 93 #[] w fun e w'=>e = .returned (el P) ∧ Below w.heap.size w w':=by
 have r1:=Row.new w 32 (C .u64 (Z 4))
 have hL:=(Below.more (Below.refl w.heap.size w) (Nat.le_refl _) (.cells (C .u64 (Z 4)).toArray 32)).1
 go_enter Tryz.func93,Tryz.ntmps93
 go_wp2_with (first | refine wpList_alloc_row rfl 32 rfl _ z4 ?_ | refine wpList_build_C rfl 32 _ rfl _ bP ?_ | (refine wpList_store_R rfl 32 _ _ rfl _ (C .u64 (wds P)) rfl rfl r1 (ie4 _) (ze4 _) (C_allL _ _) ?_;intro w5 hR5 hg5 hz5))
 exact result_row Tryz.results93 rfl hR5 Tryz.underlying32 rfl (ie4 _) rfl ⟨rfl,below_grown hL hg5 (by omega) r1.lt⟩
set_option maxHeartbeats 1000000 in
theorem below_any (A M:Nat) (hA:A < 115792089237316195423570985008687907853269984665640564039457584007913129639936) (hM:M < 115792089237316195423570985008687907853269984665640564039457584007913129639936) (h0:0 < M) (w:World):Calls Tryz.prog 120 #[el A,el M] w fun e w'=>e = .returned (el (A % M)) ∧ Below w.heap.size w w':=by
 obtain ⟨w4,h4,h⟩:=H2.begin w (C .u64 (wds A)) (C .u64 (wds M)) (C .u64 (Z 4))
 unfold el
 go_enter Tryz.func120,Tryz.ntmps120
 go_upto_region 1 with (refine wpList_alloc_row rfl 32 rfl _ z4 ?_)
 try simp only [Act.put,stA,st0,st1,alloc_size,h4]
 clear h4
 go_loopg [5] A (fun k v wr=>k < 115792089237316195423570985008687907853269984665640564039457584007913129639936 ∧ Away (k % M = A % M) ∧ H2 w.heap.size w wr (C .u64 (wds k)) (C .u64 (wds M)) (C .u64 (Z 4)))
 case atStart=>exact ⟨hA,⟨rfl⟩,h⟩
 case round =>
  clear h
  obtain ⟨hX,HX,h⟩:=hrel
  have hm:=refless_any gk M hX hM
  obtain ⟨D,hD⟩:∃ D,(gk + 115792089237316195423570985008687907853269984665640564039457584007913129639936 - M) % 115792089237316195423570985008687907853269984665640564039457584007913129639936 = D:=⟨_,rfl⟩
  rw [hD] at hm
  have hDl:D < 115792089237316195423570985008687907853269984665640564039457584007913129639936:=by rw [← hD];exact Nat.mod_lt _ (by decide)
  have hDv:Away (¬ gk < M → D = gk - M):=⟨fun h=>by omega⟩
  clear hD
  go_wp2_with (first | refine wpList_load_row rfl 32 _ rfl _ rfl _ _ _ _ h.r1 Tryz.underlying32 rfl (ie4 _) ?_ | refine wpList_load_row rfl 32 _ rfl _ rfl _ _ _ _ h.r2 Tryz.underlying32 rfl (ie4 _) ?_)
  refine (hm _).mono ?_
  rintro _ wn ⟨rfl,hb⟩
  replace h:=h.below hb
  clear hb hm
  obtain ⟨g3,hg3,q,hq⟩:=new_row h
  replace h:=h.alloc (.cells (C .u64 (Z 4)).toArray 32)
  by_cases hlt:gk < M
  ·rw [decide_eq_true hlt]
   go_wp2_with (first | refine wpList_alloc_row rfl 32 rfl _ z4 ?_ | (refine wpList_store_R rfl 32 _ _ rfl _ (C .u64 (wds D)) (by rw [← hg3];rfl) rfl q (ie4 _) (ze4 _) (C_allL _ _) ?_;intro w5 r5 hg5 hz5;have h5:=h.grown hg5 hq.1) | refine wpList_load_row rfl 32 _ rfl _ rfl _ _ _ _ h5.r1 Tryz.underlying32 rfl (ie4 _) ?_ | (refine wpList_store_R rfl 32 _ _ rfl _ (C .u64 (wds gk)) rfl rfl h5.r3 (ie4 _) (ze4 _) (C_allL _ _) ?_;intro w6 r6 hg6 hz6))
   exact result_row Tryz.results120 rfl r6 Tryz.underlying32 rfl (ie4 _) rfl ⟨by rw [← HX.out,Nat.mod_eq_of_lt hlt],below_grown h5.bel hg6 (by omega) h5.r3.lt⟩
  ·rw [decide_eq_false hlt]
   go_wp2_with (first | refine wpList_alloc_row rfl 32 rfl _ z4 ?_ | (refine wpList_store_R rfl 32 _ _ rfl _ (C .u64 (wds D)) (by rw [← hg3];rfl) rfl q (ie4 _) (ze4 _) (C_allL _ _) ?_;intro w5 r5 hg5 hz5;have h5:=h.grown hg5 hq.1) | refine wpList_load_row rfl 32 _ rfl _ rfl _ _ _ _ r5 Tryz.underlying32 rfl (ie4 _) ?_ | (refine wpList_store_R rfl 32 _ _ rfl _ (C .u64 (wds D)) rfl rfl h5.r1 (ie4 _) (ee4 _ _) (C_allL _ _) ?_;intro w6 r6 hg6 hz6))
   have h6:H2 w.heap.size w w6 (C .u64 (wds D)) (C .u64 (wds M)) (C .u64 (Z 4)):=⟨r6,h5.r2.grown hg6 (by simp),h5.r3.grown hg6 (by simp;omega),below_grown h5.bel hg6 (Nat.le_refl _) h5.r1.lt,by have:=h5.lt;omega⟩
   have hDe:=hDv.out hlt
   clear h h5 r6 hg6 hg5 r5 q
   go_roundg D
   case measure=>omega
   case rel=>exact ⟨hDl,⟨by rw [hDe,← HX.out];exact (Nat.mod_eq_sub_mod (by omega)).symm⟩,h6⟩
theorem refreduce_any (A:Nat) (hA:A < 115792089237316195423570985008687907853269984665640564039457584007913129639936) (w:World):Calls Tryz.prog 92 #[el A] w fun e w'=>e = .returned (el (A % P)) ∧ Below w.heap.size w w':=by
 obtain ⟨w4,h4,h⟩:=H1.begin w (C .u64 (wds A)) (C .u64 (Z 4))
 unfold el
 go_enter Tryz.func92,Tryz.ntmps92
 go_upto_region 1 with (refine wpList_alloc_row rfl 32 rfl _ z4 ?_)
 try simp only [Act.put,stA,st0,st1,alloc_size,h4]
 clear h4
 replace h:=h.drew
 refine wp_region_noPanic ?_
 refine wp_region_held_drew (S:=fun w'=>Row w' w.heap.size 32 (C .u64 (wds A))) (by kernel_rfl) h.r1 (fun hHeld=>?_)
 refine tkL 0 (.agg (C .u64 (wds A)).toArray) rfl (fun w hSw=>exec_load_R 32 _ rfl rfl hSw Tryz.underlying32 (ie4 A)) ?_
 simp only [Act.put,stA,st0,st1]
 refine ar1 1 rfl (fun K hK=>?_)
 go_simp
 refine (prime_any _).mono ?_
 rintro _ wn ⟨rfl,hb⟩
 replace h:=h.below hb
 refine hK.out _ _ h.r1 (fun hHeld=>?_)
 clear hK K hb
 refine ar1 2 rfl (fun K hK=>?_)
 go_simp
 refine (below_any A P hA P_lt P_pos _).mono ?_
 rintro _ wn2 ⟨rfl,hb⟩
 replace h:=h.below hb
 refine hK.out _ _ h.r1 (fun hHeld=>?_)
 clear hK K hb
 refine ar1 3 rfl (fun K hK=>?_)
 refine wp_store_R 32 _ _ rfl _ (C .u64 (wds (A % P))) rfl rfl h.r3 (ie4 _) (ze4 _) (C_allL _ _) ?_
 intro w5 r5 hg5 hz5
 refine hK.out _ _ (h.r1.grown hg5 (by simp)) (fun hHeld=>?_)
 clear hK K
 refine wpAnyH_done (by kernel_rfl) ?_ _
 refine NoPanic.normal ?_
 go_wp2
 exact result_row Tryz.results92 rfl r5 Tryz.underlying32 rfl (ie4 _) rfl ⟨rfl,below_grown h.bel hg5 (by omega) h.r3.lt⟩
theorem wp_value {P:Program} {w:World} {o:Oper} {a:Act} {K:Act → World → Prop} {Q:Exit → Act → World → Prop} (v:Value) (h:(execOp a.eval o).run P w = .ok (.value v) w) (hk:K (a.put o.dst v) w):o.wp P a w K Q:=by
 unfold Oper.wp
 rw [h]
 exact hk
set_option maxHeartbeats 4000000 in
theorem frefadd_any (A B:Nat) (hA:A < 115792089237316195423570985008687907853269984665640564039457584007913129639936) (hB:B < 115792089237316195423570985008687907853269984665640564039457584007913129639936) (w:World):Calls Tryz.prog 82 #[el A,el B] w fun e w'=>e = .returned (el ((A + B) % P)) ∧ Below w.heap.size w w':=by
 obtain ⟨w4,h4,h⟩:=H2.begin w (C .u64 (wds A)) (C .u64 (wds B)) (C .u64 (Z 4))
 have lA:=mod_lt_T A
 have lB:=mod_lt_T B
 obtain ⟨M,hM⟩:∃ M,(A % P + B % P) % 115792089237316195423570985008687907853269984665640564039457584007913129639936 = M:=⟨_,rfl⟩
 have lM:M < 115792089237316195423570985008687907853269984665640564039457584007913129639936:=by rw [← hM];exact Nat.mod_lt _ (by decide)
 have HM:Away (M % P = (A + B) % P):=⟨by rw [← hM,Nat.mod_eq_of_lt (by have:=mod_lt_P A;have:=mod_lt_P B;have:=T_P;omega:A % P + B % P < 115792089237316195423570985008687907853269984665640564039457584007913129639936),← Nat.add_mod]⟩
 unfold el
 go_enter Tryz.func82,Tryz.ntmps82
 go_upto_region 1 with (refine wpList_alloc_row rfl 32 rfl _ z4 ?_)
 simp only [Act.put,stA,st0,st1,alloc_size,h4]
 clear h4
 replace h:=h.drew
 go_cut [5,6] (fun v5 v6 wc=>∃ g3,v5 = .pointer (some ⟨g3,0,none⟩) ∧ True ∧ Row wc g3 32 (C .u64 (wds M)) ∧ w.heap.size + 1 + 1 < g3 ∧ H2 w.heap.size w wc (C .u64 (wds A)) (C .u64 (wds B)) (C .u64 (Z 4)))
 case first =>
  refine wp_region_noPanic ?_
  refine wp_region_held_drew (S:=fun w'=>H2 w.heap.size w w' (C .u64 (wds A)) (C .u64 (wds B)) (C .u64 (Z 4))) (by kernel_rfl) h (fun hHeld=>?_)
  refine tkL 0 (.agg (C .u64 (wds A)).toArray) rfl (fun w hSw=>exec_load_R 32 _ rfl rfl hSw.r1 Tryz.underlying32 (ie4 A)) ?_
  simp only [Act.put,stA,st0,st1]
  refine tkL 2 (.agg (C .u64 (wds B)).toArray) rfl (fun w hSw=>exec_load_R 32 _ rfl rfl hSw.r2 Tryz.underlying32 (ie4 B)) ?_
  simp only [Act.put,stA,st0,st1]
  refine ar2 1 8 rfl rfl (fun K hK=>?_) (fun K hK=>?_)
  ·go_simp
   refine (refreduce_any A hA _).mono ?_
   rintro _ wn ⟨rfl,hb⟩
   replace h:=h.below hb
   clear hb
   refine hK.out _ _ h (fun hHeld=>?_)
   clear hK K
   refine ar2 3 8 rfl rfl (fun K hK=>?_) (fun K hK=>?_)
   ·go_simp
    refine (refreduce_any B hB _).mono ?_
    rintro _ wn ⟨rfl,hb⟩
    replace h:=h.below hb
    clear hb
    refine hK.out _ _ h (fun hHeld=>?_)
    clear hK K
    refine ar2 4 8 rfl rfl (fun K hK=>?_) (fun K hK=>?_)
    ·go_simp
     refine (refmore_any11 (A % P) (B % P) lA lB _).mono ?_
     rintro _ wn ⟨rfl,hb⟩
     replace h:=h.below hb
     clear hb
     rw [hM]
     refine hK.out _ _ h (fun hHeld=>?_)
     clear hK K
     refine tkg 5 rfl ?_
     simp only [Act.put,stA,st0,st1]
     refine tkg 6 rfl ?_
     simp only [Act.put,stA,st0,st1]
     refine tkg 7 rfl ?_
     simp only [Act.put,stA,st0,st1]
     refine ar1 8 rfl (fun K hK=>?_)
     refine wp_alloc_R 32 rfl (C .u64 (Z 4)) z4 ?_
     obtain ⟨g3,hg3,q,hq⟩:=new_row h
     replace h:=h.alloc (.cells (C .u64 (Z 4)).toArray 32)
     rw [hg3]
     clear hg3
     refine hK.out _ _ h (fun hHeld=>?_)
     clear hK K
     refine ar1 9 rfl (fun K hK=>?_)
     refine wp_store_R 32 _ _ rfl _ (C .u64 (wds M)) rfl rfl q (ie4 M) (ze4 M) (C_allL _ _) ?_
     intro wn q5 hg5 hz5
     replace h:=h.grown hg5 hq.1
     have hq1:=hq.1
     clear q hg5 hz5 hq
     refine hK.out _ _ h (fun hHeld=>?_)
     clear hK K
     refine tkg 10 rfl ?_
     simp only [Act.put,stA,st0,st1]
     refine wpAnyH_done (by kernel_rfl) ?_ _
     refine NoPanic.normal ?_
     go_wp2
     go_meet
     case rel=>exact ⟨g3,rfl,trivial,q5,hq1,h⟩
    ·refine wp_alloc_R 32 rfl (C .u64 (Z 4)) z4 ?_
     obtain ⟨g3,hg3,q,hq⟩:=new_row h
     replace h:=h.alloc (.cells (C .u64 (Z 4)).toArray 32)
     rw [hg3]
     clear hg3
     refine hK.out _ _ h (fun hHeld=>?_)
     clear hK K
     refine ar1 4 rfl (fun K hK=>?_)
     go_simp
     refine (refmore_any11 (A % P) (B % P) lA lB _).mono ?_
     rintro _ wn ⟨rfl,hb⟩
     replace q:=q.belowS hb
     replace hq:w.heap.size + 1 + 1 < g3 ∧ g3 < wn.heap.size:=⟨hq.1,Nat.lt_of_lt_of_le hq.2 hb.size⟩
     replace h:=h.below hb
     clear hb
     rw [hM]
     refine hK.out _ _ h (fun hHeld=>?_)
     clear hK K
     refine tkg 5 rfl ?_
     simp only [Act.put,stA,st0,st1]
     refine tkg 6 rfl ?_
     simp only [Act.put,stA,st0,st1]
     refine tkg 7 rfl ?_
     simp only [Act.put,stA,st0,st1]
     refine ar1 9 rfl (fun K hK=>?_)
     refine wp_store_R 32 _ _ rfl _ (C .u64 (wds M)) rfl rfl q (ie4 M) (ze4 M) (C_allL _ _) ?_
     intro wn q5 hg5 hz5
     replace h:=h.grown hg5 hq.1
     have hq1:=hq.1
     clear q hg5 hz5 hq
     refine hK.out _ _ h (fun hHeld=>?_)
     clear hK K
     refine tkg 10 rfl ?_
     simp only [Act.put,stA,st0,st1]
     refine wpAnyH_done (by kernel_rfl) ?_ _
     refine NoPanic.normal ?_
     go_wp2
     go_meet
     case rel=>exact ⟨g3,rfl,trivial,q5,hq1,h⟩
   ·refine wp_alloc_R 32 rfl (C .u64 (Z 4)) z4 ?_
    obtain ⟨g3,hg3,q,hq⟩:=new_row h
    replace h:=h.alloc (.cells (C .u64 (Z 4)).toArray 32)
    rw [hg3]
    clear hg3
    refine hK.out _ _ h (fun hHeld=>?_)
    clear hK K
    refine ar1 3 rfl (fun K hK=>?_)
    go_simp
    refine (refreduce_any B hB _).mono ?_
    rintro _ wn ⟨rfl,hb⟩
    replace q:=q.belowS hb
    replace hq:w.heap.size + 1 + 1 < g3 ∧ g3 < wn.heap.size:=⟨hq.1,Nat.lt_of_lt_of_le hq.2 hb.size⟩
    replace h:=h.below hb
    clear hb
    refine hK.out _ _ h (fun hHeld=>?_)
    clear hK K
    refine ar1 4 rfl (fun K hK=>?_)
    go_simp
    refine (refmore_any11 (A % P) (B % P) lA lB _).mono ?_
    rintro _ wn ⟨rfl,hb⟩
    replace q:=q.belowS hb
    replace hq:w.heap.size + 1 + 1 < g3 ∧ g3 < wn.heap.size:=⟨hq.1,Nat.lt_of_lt_of_le hq.2 hb.size⟩
    replace h:=h.below hb
    clear hb
    rw [hM]
    refine hK.out _ _ h (fun hHeld=>?_)
    clear hK K
    refine tkg 5 rfl ?_
    simp only [Act.put,stA,st0,st1]
    refine tkg 6 rfl ?_
    simp only [Act.put,stA,st0,st1]
    refine tkg 7 rfl ?_
    simp only [Act.put,stA,st0,st1]
    refine ar1 9 rfl (fun K hK=>?_)
    refine wp_store_R 32 _ _ rfl _ (C .u64 (wds M)) rfl rfl q (ie4 M) (ze4 M) (C_allL _ _) ?_
    intro wn q5 hg5 hz5
    replace h:=h.grown hg5 hq.1
    have hq1:=hq.1
    clear q hg5 hz5 hq
    refine hK.out _ _ h (fun hHeld=>?_)
    clear hK K
    refine tkg 10 rfl ?_
    simp only [Act.put,stA,st0,st1]
    refine wpAnyH_done (by kernel_rfl) ?_ _
    refine NoPanic.normal ?_
    go_wp2
    go_meet
    case rel=>exact ⟨g3,rfl,trivial,q5,hq1,h⟩
  ·refine wp_alloc_R 32 rfl (C .u64 (Z 4)) z4 ?_
   obtain ⟨g3,hg3,q,hq⟩:=new_row h
   replace h:=h.alloc (.cells (C .u64 (Z 4)).toArray 32)
   rw [hg3]
   clear hg3
   refine hK.out _ _ h (fun hHeld=>?_)
   clear hK K
   refine ar1 1 rfl (fun K hK=>?_)
   go_simp
   refine (refreduce_any A hA _).mono ?_
   rintro _ wn ⟨rfl,hb⟩
   replace q:=q.belowS hb
   replace hq:w.heap.size + 1 + 1 < g3 ∧ g3 < wn.heap.size:=⟨hq.1,Nat.lt_of_lt_of_le hq.2 hb.size⟩
   replace h:=h.below hb
   clear hb
   refine hK.out _ _ h (fun hHeld=>?_)
   clear hK K
   refine ar1 3 rfl (fun K hK=>?_)
   go_simp
   refine (refreduce_any B hB _).mono ?_
   rintro _ wn ⟨rfl,hb⟩
   replace q:=q.belowS hb
   replace hq:w.heap.size + 1 + 1 < g3 ∧ g3 < wn.heap.size:=⟨hq.1,Nat.lt_of_lt_of_le hq.2 hb.size⟩
   replace h:=h.below hb
   clear hb
   refine hK.out _ _ h (fun hHeld=>?_)
   clear hK K
   refine ar1 4 rfl (fun K hK=>?_)
   go_simp
   refine (refmore_any11 (A % P) (B % P) lA lB _).mono ?_
   rintro _ wn ⟨rfl,hb⟩
   replace q:=q.belowS hb
   replace hq:w.heap.size + 1 + 1 < g3 ∧ g3 < wn.heap.size:=⟨hq.1,Nat.lt_of_lt_of_le hq.2 hb.size⟩
   replace h:=h.below hb
   clear hb
   rw [hM]
   refine hK.out _ _ h (fun hHeld=>?_)
   clear hK K
   refine tkg 5 rfl ?_
   simp only [Act.put,stA,st0,st1]
   refine tkg 6 rfl ?_
   simp only [Act.put,stA,st0,st1]
   refine tkg 7 rfl ?_
   simp only [Act.put,stA,st0,st1]
   refine ar1 9 rfl (fun K hK=>?_)
   refine wp_store_R 32 _ _ rfl _ (C .u64 (wds M)) rfl rfl q (ie4 M) (ze4 M) (C_allL _ _) ?_
   intro wn q5 hg5 hz5
   replace h:=h.grown hg5 hq.1
   have hq1:=hq.1
   clear q hg5 hz5 hq
   refine hK.out _ _ h (fun hHeld=>?_)
   clear hK K
   refine tkg 10 rfl ?_
   simp only [Act.put,stA,st0,st1]
   refine wpAnyH_done (by kernel_rfl) ?_ _
   refine NoPanic.normal ?_
   go_wp2
   go_meet
   case rel=>exact ⟨g3,rfl,trivial,q5,hq1,h⟩
 case rest =>
  clear h
  obtain ⟨g3,rfl,-,q5,hq1,h⟩:=hcut
  go_wp2_with (refine wpList_load_row rfl 32 _ rfl _ rfl _ _ _ _ q5 Tryz.underlying32 rfl (ie4 M) ?_)
  refine (refreduce_any M lM _).mono ?_
  rintro _ wn ⟨rfl,hb⟩
  rw [HM.out]
  replace h:=h.below hb
  go_wp2_with (refine wpList_store_R rfl 32 _ _ rfl _ (C .u64 (wds ((A + B) % P))) rfl rfl h.r3 (ie4 _) (ze4 _) (C_allL _ _) ?_;intro w7 q7 hg7 hz7)
  exact result_row Tryz.results82 rfl q7 Tryz.underlying32 rfl (ie4 _) rfl ⟨rfl,below_grown h.bel hg7 (by omega) h.r3.lt⟩
set_option maxHeartbeats 4000000 in
theorem frefsub_any (A B:Nat) (hA:A < 115792089237316195423570985008687907853269984665640564039457584007913129639936) (hB:B < 115792089237316195423570985008687907853269984665640564039457584007913129639936) (w:World):Calls Tryz.prog 81 #[el A,el B] w fun e w'=>e = .returned (el ((A % P + (P - B % P)) % P)) ∧ Below w.heap.size w w':=by
 obtain ⟨w4,h4,h⟩:=H2.begin w (C .u64 (wds A)) (C .u64 (wds B)) (C .u64 (Z 4))
 have lA:=mod_lt_T A
 have lB:=mod_lt_T B
 have hP:=P_lt
 have aP:=mod_lt_P A
 have bP':=mod_lt_P B
 obtain ⟨M,hM⟩:∃ M,(A % P + 115792089237316195423570985008687907853269984665640564039457584007913129639936 - B % P) % 115792089237316195423570985008687907853269984665640564039457584007913129639936 = M:=⟨_,rfl⟩
 have lM:M < 115792089237316195423570985008687907853269984665640564039457584007913129639936:=by rw [← hM];exact Nat.mod_lt _ (by decide)
 obtain ⟨b,hb0⟩:∃ b,decide (A % P < B % P) = b:=⟨_,rfl⟩
 have HM:Away ((b = true → (M + P) % 115792089237316195423570985008687907853269984665640564039457584007913129639936 = (A % P + (P - B % P)) % P) ∧ (b = false → M = (A % P + (P - B % P)) % P)):=by
  have e1:=T_P
  refine ⟨⟨fun h=>?_,fun h=>?_⟩⟩
  ·rw [h] at hb0;have:=of_decide_eq_true hb0;rw [Nat.mod_eq_of_lt (show A % P + (P - B % P) < P by omega)];omega
  ·rw [h] at hb0;have:=of_decide_eq_false hb0;rw [Nat.mod_eq_sub_mod (show P ≤ A % P + (P - B % P) by omega),Nat.mod_eq_of_lt (by omega)];omega
 have hNl:(M + P) % 115792089237316195423570985008687907853269984665640564039457584007913129639936 < 115792089237316195423570985008687907853269984665640564039457584007913129639936:=Nat.mod_lt _ (by decide)
 obtain ⟨R,hR⟩:∃ R,(A % P + (P - B % P)) % P = R:=⟨_,rfl⟩
 rw [hR] at HM ⊢
 clear hR
 unfold el
 go_enter Tryz.func81,Tryz.ntmps81
 go_upto_region 1 with (refine wpList_alloc_row rfl 32 rfl _ z4 ?_)
 simp only [Act.put,stA,st0,st1,alloc_size,h4]
 clear h4
 replace h:=h.drew
 go_cut [5,6] (fun v5 v6 wc=>∃ g3,v5 = .pointer (some ⟨g3,0,none⟩) ∧ v6 = .bool b ∧ Row wc g3 32 (C .u64 (wds M)) ∧ w.heap.size + 1 + 1 < g3 ∧ H2 w.heap.size w wc (C .u64 (wds A)) (C .u64 (wds B)) (C .u64 (Z 4)))
 case first =>
  refine wp_region_noPanic ?_
  refine wp_region_held_drew (S:=fun w'=>H2 w.heap.size w w' (C .u64 (wds A)) (C .u64 (wds B)) (C .u64 (Z 4))) (by kernel_rfl) h (fun hHeld=>?_)
  refine tkL 0 (.agg (C .u64 (wds A)).toArray) rfl (fun w hSw=>exec_load_R 32 _ rfl rfl hSw.r1 Tryz.underlying32 (ie4 A)) ?_
  simp only [Act.put,stA,st0,st1]
  refine tkL 2 (.agg (C .u64 (wds B)).toArray) rfl (fun w hSw=>exec_load_R 32 _ rfl rfl hSw.r2 Tryz.underlying32 (ie4 B)) ?_
  simp only [Act.put,stA,st0,st1]
  refine ar2 1 8 rfl rfl (fun K hK=>?_) (fun K hK=>?_)
  ·go_simp
   refine (refreduce_any A hA _).mono ?_
   rintro _ wn ⟨rfl,hb⟩
   replace h:=h.below hb
   clear hb
   refine hK.out _ _ h (fun hHeld=>?_)
   clear hK K
   refine ar2 3 8 rfl rfl (fun K hK=>?_) (fun K hK=>?_)
   ·go_simp
    refine (refreduce_any B hB _).mono ?_
    rintro _ wn ⟨rfl,hb⟩
    replace h:=h.below hb
    clear hb
    refine hK.out _ _ h (fun hHeld=>?_)
    clear hK K
    refine ar2 4 8 rfl rfl (fun K hK=>?_) (fun K hK=>?_)
    ·go_simp
     refine (refless_any (A % P) (B % P) lA lB _).mono ?_
     rintro _ wn ⟨rfl,hb⟩
     replace h:=h.below hb
     clear hb
     rw [hM,hb0]
     refine hK.out _ _ h (fun hHeld=>?_)
     clear hK K
     refine tkg 5 rfl ?_
     simp only [Act.put,stA,st0,st1]
     refine tkg 6 rfl ?_
     simp only [Act.put,stA,st0,st1]
     refine tkg 7 rfl ?_
     simp only [Act.put,stA,st0,st1]
     refine ar1 8 rfl (fun K hK=>?_)
     refine wp_alloc_R 32 rfl (C .u64 (Z 4)) z4 ?_
     obtain ⟨g3,hg3,q,hq⟩:=new_row h
     replace h:=h.alloc (.cells (C .u64 (Z 4)).toArray 32)
     rw [hg3]
     clear hg3
     refine hK.out _ _ h (fun hHeld=>?_)
     clear hK K
     refine ar1 9 rfl (fun K hK=>?_)
     refine wp_store_R 32 _ _ rfl _ (C .u64 (wds M)) rfl rfl q (ie4 M) (ze4 M) (C_allL _ _) ?_
     intro wn q5 hg5 hz5
     replace h:=h.grown hg5 hq.1
     have hq1:=hq.1
     clear q hg5 hz5 hq
     refine hK.out _ _ h (fun hHeld=>?_)
     clear hK K
     refine tkg 10 rfl ?_
     simp only [Act.put,stA,st0,st1]
     refine wpAnyH_done (by kernel_rfl) ?_ _
     refine NoPanic.normal ?_
     go_wp2
     go_meet
     case rel=>exact ⟨g3,rfl,rfl,q5,hq1,h⟩
    ·refine wp_alloc_R 32 rfl (C .u64 (Z 4)) z4 ?_
     obtain ⟨g3,hg3,q,hq⟩:=new_row h
     replace h:=h.alloc (.cells (C .u64 (Z 4)).toArray 32)
     rw [hg3]
     clear hg3
     refine hK.out _ _ h (fun hHeld=>?_)
     clear hK K
     refine ar1 4 rfl (fun K hK=>?_)
     go_simp
     refine (refless_any (A % P) (B % P) lA lB _).mono ?_
     rintro _ wn ⟨rfl,hb⟩
     replace q:=q.belowS hb
     replace hq:w.heap.size + 1 + 1 < g3 ∧ g3 < wn.heap.size:=⟨hq.1,Nat.lt_of_lt_of_le hq.2 hb.size⟩
     replace h:=h.below hb
     clear hb
     rw [hM,hb0]
     refine hK.out _ _ h (fun hHeld=>?_)
     clear hK K
     refine tkg 5 rfl ?_
     simp only [Act.put,stA,st0,st1]
     refine tkg 6 rfl ?_
     simp only [Act.put,stA,st0,st1]
     refine tkg 7 rfl ?_
     simp only [Act.put,stA,st0,st1]
     refine ar1 9 rfl (fun K hK=>?_)
     refine wp_store_R 32 _ _ rfl _ (C .u64 (wds M)) rfl rfl q (ie4 M) (ze4 M) (C_allL _ _) ?_
     intro wn q5 hg5 hz5
     replace h:=h.grown hg5 hq.1
     have hq1:=hq.1
     clear q hg5 hz5 hq
     refine hK.out _ _ h (fun hHeld=>?_)
     clear hK K
     refine tkg 10 rfl ?_
     simp only [Act.put,stA,st0,st1]
     refine wpAnyH_done (by kernel_rfl) ?_ _
     refine NoPanic.normal ?_
     go_wp2
     go_meet
     case rel=>exact ⟨g3,rfl,rfl,q5,hq1,h⟩
   ·refine wp_alloc_R 32 rfl (C .u64 (Z 4)) z4 ?_
    obtain ⟨g3,hg3,q,hq⟩:=new_row h
    replace h:=h.alloc (.cells (C .u64 (Z 4)).toArray 32)
    rw [hg3]
    clear hg3
    refine hK.out _ _ h (fun hHeld=>?_)
    clear hK K
    refine ar1 3 rfl (fun K hK=>?_)
    go_simp
    refine (refreduce_any B hB _).mono ?_
    rintro _ wn ⟨rfl,hb⟩
    replace q:=q.belowS hb
    replace hq:w.heap.size + 1 + 1 < g3 ∧ g3 < wn.heap.size:=⟨hq.1,Nat.lt_of_lt_of_le hq.2 hb.size⟩
    replace h:=h.below hb
    clear hb
    refine hK.out _ _ h (fun hHeld=>?_)
    clear hK K
    refine ar1 4 rfl (fun K hK=>?_)
    go_simp
    refine (refless_any (A % P) (B % P) lA lB _).mono ?_
    rintro _ wn ⟨rfl,hb⟩
    replace q:=q.belowS hb
    replace hq:w.heap.size + 1 + 1 < g3 ∧ g3 < wn.heap.size:=⟨hq.1,Nat.lt_of_lt_of_le hq.2 hb.size⟩
    replace h:=h.below hb
    clear hb
    rw [hM,hb0]
    refine hK.out _ _ h (fun hHeld=>?_)
    clear hK K
    refine tkg 5 rfl ?_
    simp only [Act.put,stA,st0,st1]
    refine tkg 6 rfl ?_
    simp only [Act.put,stA,st0,st1]
    refine tkg 7 rfl ?_
    simp only [Act.put,stA,st0,st1]
    refine ar1 9 rfl (fun K hK=>?_)
    refine wp_store_R 32 _ _ rfl _ (C .u64 (wds M)) rfl rfl q (ie4 M) (ze4 M) (C_allL _ _) ?_
    intro wn q5 hg5 hz5
    replace h:=h.grown hg5 hq.1
    have hq1:=hq.1
    clear q hg5 hz5 hq
    refine hK.out _ _ h (fun hHeld=>?_)
    clear hK K
    refine tkg 10 rfl ?_
    simp only [Act.put,stA,st0,st1]
    refine wpAnyH_done (by kernel_rfl) ?_ _
    refine NoPanic.normal ?_
    go_wp2
    go_meet
    case rel=>exact ⟨g3,rfl,rfl,q5,hq1,h⟩
  ·refine wp_alloc_R 32 rfl (C .u64 (Z 4)) z4 ?_
   obtain ⟨g3,hg3,q,hq⟩:=new_row h
   replace h:=h.alloc (.cells (C .u64 (Z 4)).toArray 32)
   rw [hg3]
   clear hg3
   refine hK.out _ _ h (fun hHeld=>?_)
   clear hK K
   refine ar1 1 rfl (fun K hK=>?_)
   go_simp
   refine (refreduce_any A hA _).mono ?_
   rintro _ wn ⟨rfl,hb⟩
   replace q:=q.belowS hb
   replace hq:w.heap.size + 1 + 1 < g3 ∧ g3 < wn.heap.size:=⟨hq.1,Nat.lt_of_lt_of_le hq.2 hb.size⟩
   replace h:=h.below hb
   clear hb
   refine hK.out _ _ h (fun hHeld=>?_)
   clear hK K
   refine ar1 3 rfl (fun K hK=>?_)
   go_simp
   refine (refreduce_any B hB _).mono ?_
   rintro _ wn ⟨rfl,hb⟩
   replace q:=q.belowS hb
   replace hq:w.heap.size + 1 + 1 < g3 ∧ g3 < wn.heap.size:=⟨hq.1,Nat.lt_of_lt_of_le hq.2 hb.size⟩
   replace h:=h.below hb
   clear hb
   refine hK.out _ _ h (fun hHeld=>?_)
   clear hK K
   refine ar1 4 rfl (fun K hK=>?_)
   go_simp
   refine (refless_any (A % P) (B % P) lA lB _).mono ?_
   rintro _ wn ⟨rfl,hb⟩
   replace q:=q.belowS hb
   replace hq:w.heap.size + 1 + 1 < g3 ∧ g3 < wn.heap.size:=⟨hq.1,Nat.lt_of_lt_of_le hq.2 hb.size⟩
   replace h:=h.below hb
   clear hb
   rw [hM,hb0]
   refine hK.out _ _ h (fun hHeld=>?_)
   clear hK K
   refine tkg 5 rfl ?_
   simp only [Act.put,stA,st0,st1]
   refine tkg 6 rfl ?_
   simp only [Act.put,stA,st0,st1]
   refine tkg 7 rfl ?_
   simp only [Act.put,stA,st0,st1]
   refine ar1 9 rfl (fun K hK=>?_)
   refine wp_store_R 32 _ _ rfl _ (C .u64 (wds M)) rfl rfl q (ie4 M) (ze4 M) (C_allL _ _) ?_
   intro wn q5 hg5 hz5
   replace h:=h.grown hg5 hq.1
   have hq1:=hq.1
   clear q hg5 hz5 hq
   refine hK.out _ _ h (fun hHeld=>?_)
   clear hK K
   refine tkg 10 rfl ?_
   simp only [Act.put,stA,st0,st1]
   refine wpAnyH_done (by kernel_rfl) ?_ _
   refine NoPanic.normal ?_
   go_wp2
   go_meet
   case rel=>exact ⟨g3,rfl,rfl,q5,hq1,h⟩
 case rest =>
  clear h
  obtain ⟨g3,rfl,rfl,q5,hq1,h⟩:=hcut
  cases b
  ·have HR:=HM.out.2 rfl
   go_wp2_with (first | refine wpList_load_row rfl 32 _ rfl _ rfl _ _ _ _ q5 Tryz.underlying32 rfl (ie4 _) ?_ | (refine wpList_store_R rfl 32 _ _ rfl _ (C .u64 (wds M)) rfl rfl h.r3 (ie4 _) (ze4 _) (C_allL _ _) ?_;intro w7 q7 hg7 hz7))
   exact result_row Tryz.results81 rfl q7 Tryz.underlying32 rfl (ie4 _) rfl ⟨by rw [HR],below_grown h.bel hg7 (by omega) h.r3.lt⟩
  ·have HR:=HM.out.1 rfl
   go_upto_region 3 with fail
   replace h:=h.drew
   replace q5:=q5.drew
   go_cut [5] (fun v5 wc=>v5 = .pointer (some ⟨g3,0,none⟩) ∧ Row wc g3 32 (C .u64 (wds R)) ∧ H2 w.heap.size w wc (C .u64 (wds A)) (C .u64 (wds B)) (C .u64 (Z 4)))
   case first =>
    refine wp_region_noPanic ?_
    refine wp_region_held_drew (S:=fun _=>True) (by kernel_rfl) trivial (fun hHeld=>?_)
    refine ar2 0 1 rfl rfl (fun K hK=>?_) (fun K hK=>?_)
    ·refine wp_value (.agg (C .u64 (wds M)).toArray) (exec_load_R 32 _ rfl rfl q5 Tryz.underlying32 (ie4 M)) ?_
     refine hK.out _ _ trivial (fun hHeld=>?_)
     clear hK K
     refine ar1 1 rfl (fun K hK=>?_)
     go_simp
     refine (prime_any _).mono ?_
     rintro _ wp ⟨rfl,hb⟩
     replace h:=h.below hb
     replace q5:=q5.belowS hb
     clear hb
     refine hK.out _ _ trivial (fun hHeld=>?_)
     clear hK K
     refine ar1 2 rfl (fun K hK=>?_)
     go_simp
     refine (refmore_any11 M P lM hP _).mono ?_
     rintro _ wn2 ⟨rfl,hb⟩
     rw [HR]
     generalize decide ((M + P) / 115792089237316195423570985008687907853269984665640564039457584007913129639936 = 1) = c2
     clear HR hM hb0 HM
     replace h:=h.below hb
     replace q5:=q5.belowS hb
     clear hb
     refine hK.out _ _ trivial (fun hHeld=>?_)
     clear hK K
     refine tkg 3 rfl ?_
     simp only [Act.put,stA,st0,st1]
     refine tkg 4 rfl ?_
     simp only [Act.put,stA,st0,st1]
     refine tkg 5 rfl ?_
     simp only [Act.put,stA,st0,st1]
     refine ar1 6 rfl (fun K hK=>?_)
     refine wp_store_R 32 _ _ rfl _ (C .u64 (wds R)) rfl rfl q5 (ie4 _) (ee4 _ _) (C_allL _ _) ?_
     intro w6 q6b hg6 hz6
     have h6:=h.grown hg6 hq1
     refine hK.out _ _ trivial (fun hHeld=>?_)
     clear hK K
     refine wpAnyH_done (by kernel_rfl) ?_ _
     refine NoPanic.normal ?_
     go_wp2
     go_meet
     case rel=>exact ⟨rfl,q6b,h6⟩
    ·go_simp
     refine (prime_any _).mono ?_
     rintro _ wp ⟨rfl,hb⟩
     replace h:=h.below hb
     replace q5:=q5.belowS hb
     clear hb
     refine hK.out _ _ trivial (fun hHeld=>?_)
     clear hK K
     refine ar1 0 rfl (fun K hK=>?_)
     refine wp_value (.agg (C .u64 (wds M)).toArray) (exec_load_R 32 _ rfl rfl q5 Tryz.underlying32 (ie4 M)) ?_
     refine hK.out _ _ trivial (fun hHeld=>?_)
     clear hK K
     refine ar1 2 rfl (fun K hK=>?_)
     go_simp
     refine (refmore_any11 M P lM hP _).mono ?_
     rintro _ wn2 ⟨rfl,hb⟩
     rw [HR]
     generalize decide ((M + P) / 115792089237316195423570985008687907853269984665640564039457584007913129639936 = 1) = c2
     clear HR hM hb0 HM
     replace h:=h.below hb
     replace q5:=q5.belowS hb
     clear hb
     refine hK.out _ _ trivial (fun hHeld=>?_)
     clear hK K
     refine tkg 3 rfl ?_
     simp only [Act.put,stA,st0,st1]
     refine tkg 4 rfl ?_
     simp only [Act.put,stA,st0,st1]
     refine tkg 5 rfl ?_
     simp only [Act.put,stA,st0,st1]
     refine ar1 6 rfl (fun K hK=>?_)
     refine wp_store_R 32 _ _ rfl _ (C .u64 (wds R)) rfl rfl q5 (ie4 _) (ee4 _ _) (C_allL _ _) ?_
     intro w6 q6b hg6 hz6
     have h6:=h.grown hg6 hq1
     refine hK.out _ _ trivial (fun hHeld=>?_)
     clear hK K
     refine wpAnyH_done (by kernel_rfl) ?_ _
     refine NoPanic.normal ?_
     go_wp2
     go_meet
     case rel=>exact ⟨rfl,q6b,h6⟩
   case rest =>
    clear q5 h
    obtain ⟨rfl,q6b,h6⟩:=hcut
    go_wp2_with (first | refine wpList_load_row rfl 32 _ rfl _ rfl _ _ _ _ q6b Tryz.underlying32 rfl (ie4 _) ?_ | (refine wpList_store_R rfl 32 _ _ rfl _ (C .u64 (wds R)) rfl rfl h6.r3 (ie4 _) (ze4 _) (C_allL _ _) ?_;intro w7 q7 hg7 hz7))
    exact result_row Tryz.results81 rfl q7 Tryz.underlying32 rfl (ie4 _) rfl ⟨rfl,below_grown h6.bel hg7 (by omega) h6.r3.lt⟩
theorem halves_any (A:Nat) (hA:A < 115792089237316195423570985008687907853269984665640564039457584007913129639936) (w:World):Calls Tryz.prog 121 #[el A] w fun e w'=>e = .returned (.agg (C .u64 (dig 4294967296 8 A)).toArray) ∧ Below w.heap.size w w':=by
 obtain ⟨w2,h2,r1,r2,hL,hS⟩:=rows2 w 32 86 (C .u64 (wds A)) (C .u64 (Z 8))
 have hdl:=dig_length 4294967296 8 A
 have hx:=wds_lo A
 unfold el
 go_enter Tryz.func121,Tryz.ntmps121
 go_upto_region 1 with (refine wpList_alloc_row rfl 86 rfl _ z4' ?_)
 try simp only [Act.put,stA,st0,st1,alloc_size,h2]
 clear h2
 have r4:=Row.newAt w2 _ hS.symm 86 (C .u64 (Z 8))
 replace r1:=r1.alloc (.cells (C .u64 (Z 8)).toArray 86)
 replace r2:=r2.alloc (.cells (C .u64 (Z 8)).toArray 86)
 replace hL:=hL.alloc (by omega) (.cells (C .u64 (Z 8)).toArray 86)
 go_wp2_with (first | refine wpList_alloc_row rfl 86 rfl _ z4' ?_ | refine wpList_build_Z rfl 86 rfl _ b8 ?_ | (refine wpList_store_R rfl 86 _ _ rfl _ (C .u64 (Z 8)) (by first | rfl | (rw [← hS];rfl)) rfl r4 i8 rfl (C_allL _ _) ?_;intro w5 r5 hg5 hz5))
 replace r1:=r1.grown hg5 (by simp;omega)
 replace r2:=r2.grown hg5 (by simp)
 replace hL:=below_grown hL hg5 (by omega) r4.lt
 clear r4 hg5
 rw [← upto_zero (dig 4294967296 8 A) 8] at r5
 go_loopw [4] (fun i wr=>∃ k:Nat,k ≤ 8 ∧ i = .int .i64 k ∧ Row wr w.heap.size 32 (C .u64 (wds A)) ∧ Row wr (w.heap.size + 1) 86 (C .u64 (Z 8)) ∧ Row wr (w.heap.size + 1 + 1) 86 (C .u64 (upto (dig 4294967296 8 A) 8 k)) ∧ Below w.heap.size w wr) (fun i _=>8 - (intOf i).toNat)
 case atStart=>exact ⟨0,Nat.zero_le _,rfl,r1,r2,r5,hL⟩
 case round =>
  clear r1 r2 r5 hL
  obtain ⟨k,hk,rfl,r1,r2,r5,hL⟩:=hrel
  by_cases hlt:k < 8
  ·have c1:=r1.cell (k / 2)
   rw [C_get .u64 (by rw [wds_length];omega)] at c1
   have bx:=hx.getD (by decide) (k / 2)
   have he:=half_of A k
   rw [← dig_getD hlt,← wds_getD hA] at he
   have c5:=r5.cell k
   rw [C_get .u64 (by rw [upto_length hdl (by omega)];omega)] at c5
   have hf:=r5.frozen k
   generalize (upto (dig 4294967296 8 A) 8 k).getD k 0 = u at *
   generalize (wds A).getD (k / 2) 0 = x at *
   obtain ⟨q,hq⟩:∃ q,k / 2 = q:=⟨_,rfl⟩
   obtain ⟨r,hr⟩:∃ r,k % 2 = r:=⟨_,rfl⟩
   rw [hq] at c1
   rw [hr] at he
   obtain ⟨s,hs⟩:∃ s,32 * r = s:=⟨_,rfl⟩
   rw [hs] at he
   obtain ⟨y,hy⟩:∃ y,x / 2 ^ s = y:=⟨_,rfl⟩
   rw [hy] at he
   have ey:(x:Int) / 2 ^ s = (y:Int):=by rw [← hy];simp
   have hyl:y < 18446744073709551616:=by rw [← hy];exact Nat.lt_of_le_of_lt (Nat.div_le_self _ _) bx
   obtain ⟨z,hz⟩:∃ z,y % 4294967296 = z:=⟨_,rfl⟩
   have ez:bits .and .u64 (y:Int) 4294967295 = (z:Int):=by
    have:=u64_and_nat y 4294967295 hyl (by decide)
    rw [show ((4294967295:Nat):Int) = 4294967295 from rfl] at this
    rw [this,show (4294967295:Nat) = 2 ^ 32 - 1 from rfl,Nat.and_two_pow_sub_one_eq_mod,← hz]
   rw [hz] at he
   have q5:=upto_row (z:=(z:Int)) r5 hdl hlt (by rw [he])
   have q1:=r1.other (i:=k) (.int .u64 (z:Int)) (show w.heap.size ≠ w.heap.size + 1 + 1 by omega)
   have q2:=r2.other (i:=k) (.int .u64 (z:Int)) (show w.heap.size + 1 ≠ w.heap.size + 1 + 1 by omega)
   have qL:=hL.setCell (p:=⟨w.heap.size + 1 + 1,k,none⟩) (by simp;omega) (.int .u64 (z:Int))
   have dq:(k:Int).tdiv 2 = (q:Int):=by rw [Int.tdiv_eq_ediv_of_nonneg (by omega)];omega
   have dq':(k:Int) / 2 = (q:Int):=by omega
   have bq:(q:Int) < 4:=by omega
   have dr:(k:Int).tmod 2 = (r:Int):=by rw [Int.tmod_eq_emod_of_nonneg (by omega)];omega
   have dr':(k:Int) % 2 = (r:Int):=by omega
   have ds:IntKind.i64.wrap (32 * (r:Int)) = (s:Int):=by rw [IntWalk.i64_in _ ⟨by omega,by omega⟩];omega
   have ds':(32:Int) * (r:Int) = (s:Int):=by omega
   have du:IntKind.u64.wrap (s:Int) = (s:Int):=by rw [IntKind.wrap_u64];omega
   have bs:(s:Int) < 64:=by omega
   have bk:(k:Int) < 8:=by omega
   clear hq hr hs hy hyl bx hz he r1 r2 r5 hL
   go_wp2
   go_roundw
   case rel=>exact ⟨k + 1,by omega,by go_num,q1,q2,q5,qL⟩
   case measure=>simp [intOf];omega
  ·have HK:Away (k = 8):=⟨by omega⟩
   have dk:decide ((k:Int) < 8) = false:=decide_eq_false (by omega)
   rw [HK.out,upto_all hdl] at r5
   have hi:(C .u64 (dig 4294967296 8 A)).length = 8:=by rw [C_length,hdl]
   have hi8:(Tryz.prog.info? 86).map (·.size) = some (C .u64 (dig 4294967296 8 A)).length:=by rw [hi];exact i8
   clear hlt hk
   go_wp2_with (first | refine wpList_load_row rfl 86 _ rfl _ rfl _ _ _ _ r5 Tryz.underlying86 rfl hi8 ?_ | (refine wpList_store_R rfl 86 _ _ rfl _ (C .u64 (dig 4294967296 8 A)) rfl rfl r2 hi8 (by rw [hi];rfl) (C_allL _ _) ?_;intro w7 q7 hg7 hz7))
   exact result_row Tryz.results121 rfl q7 Tryz.underlying86 rfl hi8 rfl ⟨rfl,below_grown hL hg7 (by omega) r2.lt⟩
theorem ready_threeL {P:Program} {md:Region.Mode} {L:List Oper} {Q:Exit → Act → World → Prop} {S:World → Prop} {fuel:Nat} {listed:Array Bool} {a:Act} {w:World} {i j k:Nat} {o p q:Oper} (hr:Region.ready md L.toArray listed = [i,j,k]) (ho:L[i]? = some o) (hp:L[j]? = some p) (hq:L[k]? = some q) (hw:Region.wanted o (yielded L.toArray a.tmps) = true) (hv:Region.wanted p (yielded L.toArray a.tmps) = true) (hu:Region.wanted q (yielded L.toArray a.tmps) = true)
  (h:∀ K':Act → World → Prop,Shut (∀ a w,S w → (S w → wpAnyH P md L.toArray Q S fuel (listed.setIfInBounds i true) a w) → K' a w) → Oper.wp P o a w K' Q)
  (h2:∀ K':Act → World → Prop,Shut (∀ a w,S w → (S w → wpAnyH P md L.toArray Q S fuel (listed.setIfInBounds j true) a w) → K' a w) → Oper.wp P p a w K' Q)
  (h3:∀ K':Act → World → Prop,Shut (∀ a w,S w → (S w → wpAnyH P md L.toArray Q S fuel (listed.setIfInBounds k true) a w) → K' a w) → Oper.wp P q a w K' Q):wpAnyH P md L.toArray Q S (fuel + 1) listed a w :=
 wpAnyH_ready hr (by simp) (AllReadyH.cons (getL ho) (fun K hK=>by rw [if_pos hw];exact h K hK) (AllReadyH.cons (getL hp) (fun K hK=>by rw [if_pos hv];exact h2 K hK) (AllReadyH.cons (getL hq) (fun K hK=>by rw [if_pos hu];exact h3 K hK) AllReadyH.nil)))
theorem id8 (N:Nat):(Tryz.prog.info? 86).map (·.size) = some (C .u64 (dig 4294967296 8 N)).length:=by rw [C_length,dig_length];exact i8
theorem zd8 (N:Nat):(C .u64 (Z 8)).length = (C .u64 (dig 4294967296 8 N)).length:=by rw [C_length,C_length,dig_length];rfl
structure HP (g:Nat) (w0 w:World) (us vs xs:List Value):Prop where
 r1:Row w g 32 us
 r2:Row w (g + 1) 32 vs
 r3:Row w (g + 1 + 1) 91 xs
 bel:Below g w0 w
 lt:g + 1 + 1 < w.heap.size
section
variable {g:Nat} {w0 w w':World} {us vs xs:List Value}
theorem HP.begin (w:World) (us vs xs:List Value):∃ w4:World,((w.alloc (.cells us.toArray 32)).alloc (.cells vs.toArray 32)).alloc (.cells xs.toArray 91) = w4 ∧ HP w.heap.size w w4 us vs xs:=by
 obtain ⟨w4,h4,r1,r2,r3,hL,hS⟩:=rows3 w 32 32 91 us vs xs
 exact ⟨w4,h4,r1,r2,r3,hL,by omega⟩
theorem HP.below (h:HP g w0 w us vs xs) (hb:Below w.heap.size w w'):HP g w0 w' us vs xs :=
 ⟨h.r1.belowS hb,h.r2.belowS hb,h.r3.belowS hb,h.bel.trans (hb.mono (by have:=h.lt;omega)),by have:=h.lt;have:=hb.size;omega⟩
theorem HP.drew (h:HP g w0 w us vs xs):HP g w0 w.drew us vs xs:=⟨h.r1,h.r2,h.r3,below_drawn h.bel,h.lt⟩
theorem HP.drewN (h:HP g w0 w us vs xs) (n:Nat):HP g w0 (w.drewN n) us vs xs:=⟨h.r1,h.r2,h.r3,below_drewN h.bel n,h.lt⟩
theorem HP.alloc (h:HP g w0 w us vs xs) (o:Obj):HP g w0 (w.alloc o) us vs xs :=
 ⟨h.r1.alloc o,h.r2.alloc o,h.r3.alloc o,h.bel.alloc (by have:=h.lt;omega) o,by have:=h.lt;rw [alloc_size];omega⟩
theorem HP.grown (h:HP g w0 w us vs xs) {k:Nat} (hg:w.grownBy w' (some k)) (hk:g + 1 + 1 < k):HP g w0 w' us vs xs :=
 ⟨h.r1.grown hg (by simp;omega),h.r2.grown hg (by simp;omega),h.r3.grown hg (by simp;omega),h.bel.grown hg (by have:=h.lt;omega) (fun k' hk'=>by simp only [Option.some.injEq] at hk';omega),by have:=h.lt;have:=hg.size;omega⟩
theorem HP.cell (h:HP g w0 w us vs xs) {k i:Nat} (u:Value) (hk:g + 1 + 1 < k):HP g w0 (w.setCell ⟨k,i,none⟩ u) us vs xs:=h.grown (grown_set w k i u) hk
theorem new_rowP (h:HP g w0 w us vs xs):∃ g3:Nat,w.heap.size = g3 ∧ Row (w.alloc (.cells (C .u64 (Z 8)).toArray 86)) g3 86 (C .u64 (Z 8)) ∧ g + 1 + 1 < g3 :=
 ⟨_,rfl,Row.new w _ _,h.lt⟩
end
set_option maxHeartbeats 8000000 in
theorem refproduct_any (A B:Nat) (hA:A < 115792089237316195423570985008687907853269984665640564039457584007913129639936) (hB:B < 115792089237316195423570985008687907853269984665640564039457584007913129639936) (w:World):Calls Tryz.prog 95 #[el A,el B] w fun e w'=>(∃ p:List Nat,e = .returned (.agg (C .u64 p).toArray) ∧ p.length = 16 ∧ Lo 4294967296 p ∧ val 4294967296 p = A * B) ∧ Below w.heap.size w w':=by
 obtain ⟨w4,h4,h⟩:=HP.begin w (C .u64 (wds A)) (C .u64 (wds B)) (C .u64 (Z 16))
 unfold el
 go_enter Tryz.func95,Tryz.ntmps95
 go_upto_region 1 with (refine wpList_alloc_row rfl 91 rfl _ z16 ?_)
 try simp only [Act.put,stA,st0,st1,alloc_size,h4]
 clear h4
 replace h:=h.drew
 go_cut [5,6] (fun v5 v6 wc=>∃ g4 g5,v5 = .pointer (some ⟨g4,0,none⟩) ∧ v6 = .pointer (some ⟨g5,0,none⟩) ∧ Row wc g4 86 (C .u64 (dig 4294967296 8 A)) ∧ Row wc g5 86 (C .u64 (dig 4294967296 8 B)) ∧ g4 ≠ g5 ∧ w.heap.size + 1 + 1 < g4 ∧ w.heap.size + 1 + 1 < g5 ∧ HP w.heap.size w wc (C .u64 (wds A)) (C .u64 (wds B)) (C .u64 (Z 16)))
 case first =>
  refine wp_region_noPanic ?_
  refine wp_region_held_drew (S:=fun w'=>HP w.heap.size w w' (C .u64 (wds A)) (C .u64 (wds B)) (C .u64 (Z 16))) (by kernel_rfl) h (fun hHeld=>?_)
  refine tkL 0 (.agg (C .u64 (wds A)).toArray) rfl (fun w hSw=>exec_load_R 32 _ rfl rfl hSw.r1 Tryz.underlying32 (ie4 A)) ?_
  simp only [Act.put,stA,st0,st1]
  refine tkL 2 (.agg (C .u64 (wds B)).toArray) rfl (fun w hSw=>exec_load_R 32 _ rfl rfl hSw.r2 Tryz.underlying32 (ie4 B)) ?_
  simp only [Act.put,stA,st0,st1]
  refine ready_threeL (i:=1) (j:=4) (k:=5) (by kernel_rfl) rfl rfl rfl (by rfl) (by rfl) (by rfl) (fun K hK=>?_) (fun K hK=>?_) (fun K hK=>?_)
  ·go_simp
   refine (halves_any A hA _).mono ?_
   rintro _ wn ⟨rfl,hb⟩
   replace h:=h.below hb
   clear hb
   refine hK.out _ _ h (fun hHeld=>?_)
   clear hK K
   refine ready_threeL (i:=3) (j:=4) (k:=5) (by kernel_rfl) rfl rfl rfl (by rfl) (by rfl) (by rfl) (fun K hK=>?_) (fun K hK=>?_) (fun K hK=>?_)
   ·go_simp
    refine (halves_any B hB _).mono ?_
    rintro _ wn ⟨rfl,hb⟩
    replace h:=h.below hb
    clear hb
    refine hK.out _ _ h (fun hHeld=>?_)
    clear hK K
    refine ar2 4 5 rfl rfl (fun K hK=>?_) (fun K hK=>?_)
    ·refine wp_alloc_R 86 rfl (C .u64 (Z 8)) z4' ?_
     obtain ⟨g4,hg4,q4,hq4⟩:=new_rowP h
     replace h:=h.alloc (.cells (C .u64 (Z 8)).toArray 86)
     rw [hg4]
     clear hg4
     refine hK.out _ _ h (fun hHeld=>?_)
     clear hK K
     refine ar1 5 rfl (fun K hK=>?_)
     refine wp_alloc_R 86 rfl (C .u64 (Z 8)) z4' ?_
     have n45:=q4.lt
     obtain ⟨g5,hg5,q5,hq5⟩:=new_rowP h
     rw [hg5] at n45
     replace q4:=q4.alloc (.cells (C .u64 (Z 8)).toArray 86)
     replace h:=h.alloc (.cells (C .u64 (Z 8)).toArray 86)
     rw [hg5]
     clear hg5
     refine hK.out _ _ h (fun hHeld=>?_)
     clear hK K
     refine ar1 6 rfl (fun K hK=>?_)
     refine wp_store_R 86 _ _ rfl _ (C .u64 (dig 4294967296 8 A)) rfl rfl q4 (id8 _) (zd8 _) (C_allL _ _) ?_
     intro ws4 p4 hg hz
     replace q5:=q5.grown hg (by simp;omega)
     replace h:=h.grown hg hq4
     clear q4 hg hz
     refine hK.out _ _ h (fun hHeld=>?_)
     clear hK K
     refine ar1 7 rfl (fun K hK=>?_)
     refine wp_store_R 86 _ _ rfl _ (C .u64 (dig 4294967296 8 B)) rfl rfl q5 (id8 _) (zd8 _) (C_allL _ _) ?_
     intro ws5 p5 hg hz
     replace p4:=p4.grown hg (by simp;omega)
     replace h:=h.grown hg hq5
     clear q5 hg hz
     refine hK.out _ _ h (fun hHeld=>?_)
     clear hK K
     refine wpAnyH_done (by kernel_rfl) ?_ _
     refine NoPanic.normal ?_
     go_wp2
     go_meet
     case rel=>exact ⟨g4,g5,rfl,rfl,p4,p5,by omega,by omega,by omega,h⟩
    ·refine wp_alloc_R 86 rfl (C .u64 (Z 8)) z4' ?_
     obtain ⟨g5,hg5,q5,hq5⟩:=new_rowP h
     replace h:=h.alloc (.cells (C .u64 (Z 8)).toArray 86)
     rw [hg5]
     clear hg5
     refine hK.out _ _ h (fun hHeld=>?_)
     clear hK K
     refine ar1 4 rfl (fun K hK=>?_)
     refine wp_alloc_R 86 rfl (C .u64 (Z 8)) z4' ?_
     have n54:=q5.lt
     obtain ⟨g4,hg4,q4,hq4⟩:=new_rowP h
     rw [hg4] at n54
     replace q5:=q5.alloc (.cells (C .u64 (Z 8)).toArray 86)
     replace h:=h.alloc (.cells (C .u64 (Z 8)).toArray 86)
     rw [hg4]
     clear hg4
     refine hK.out _ _ h (fun hHeld=>?_)
     clear hK K
     refine ar1 6 rfl (fun K hK=>?_)
     refine wp_store_R 86 _ _ rfl _ (C .u64 (dig 4294967296 8 A)) rfl rfl q4 (id8 _) (zd8 _) (C_allL _ _) ?_
     intro ws4 p4 hg hz
     replace q5:=q5.grown hg (by simp;omega)
     replace h:=h.grown hg hq4
     clear q4 hg hz
     refine hK.out _ _ h (fun hHeld=>?_)
     clear hK K
     refine ar1 7 rfl (fun K hK=>?_)
     refine wp_store_R 86 _ _ rfl _ (C .u64 (dig 4294967296 8 B)) rfl rfl q5 (id8 _) (zd8 _) (C_allL _ _) ?_
     intro ws5 p5 hg hz
     replace p4:=p4.grown hg (by simp;omega)
     replace h:=h.grown hg hq5
     clear q5 hg hz
     refine hK.out _ _ h (fun hHeld=>?_)
     clear hK K
     refine wpAnyH_done (by kernel_rfl) ?_ _
     refine NoPanic.normal ?_
     go_wp2
     go_meet
     case rel=>exact ⟨g4,g5,rfl,rfl,p4,p5,by omega,by omega,by omega,h⟩
   ·refine wp_alloc_R 86 rfl (C .u64 (Z 8)) z4' ?_
    obtain ⟨g4,hg4,q4,hq4⟩:=new_rowP h
    replace h:=h.alloc (.cells (C .u64 (Z 8)).toArray 86)
    rw [hg4]
    clear hg4
    refine hK.out _ _ h (fun hHeld=>?_)
    clear hK K
    refine ar2 3 5 rfl rfl (fun K hK=>?_) (fun K hK=>?_)
    ·go_simp
     refine (halves_any B hB _).mono ?_
     rintro _ wn ⟨rfl,hb⟩
     replace q4:=q4.belowS hb
     replace h:=h.below hb
     clear hb
     refine hK.out _ _ h (fun hHeld=>?_)
     clear hK K
     refine ar1 5 rfl (fun K hK=>?_)
     refine wp_alloc_R 86 rfl (C .u64 (Z 8)) z4' ?_
     have n45:=q4.lt
     obtain ⟨g5,hg5,q5,hq5⟩:=new_rowP h
     rw [hg5] at n45
     replace q4:=q4.alloc (.cells (C .u64 (Z 8)).toArray 86)
     replace h:=h.alloc (.cells (C .u64 (Z 8)).toArray 86)
     rw [hg5]
     clear hg5
     refine hK.out _ _ h (fun hHeld=>?_)
     clear hK K
     refine ar1 6 rfl (fun K hK=>?_)
     refine wp_store_R 86 _ _ rfl _ (C .u64 (dig 4294967296 8 A)) rfl rfl q4 (id8 _) (zd8 _) (C_allL _ _) ?_
     intro ws4 p4 hg hz
     replace q5:=q5.grown hg (by simp;omega)
     replace h:=h.grown hg hq4
     clear q4 hg hz
     refine hK.out _ _ h (fun hHeld=>?_)
     clear hK K
     refine ar1 7 rfl (fun K hK=>?_)
     refine wp_store_R 86 _ _ rfl _ (C .u64 (dig 4294967296 8 B)) rfl rfl q5 (id8 _) (zd8 _) (C_allL _ _) ?_
     intro ws5 p5 hg hz
     replace p4:=p4.grown hg (by simp;omega)
     replace h:=h.grown hg hq5
     clear q5 hg hz
     refine hK.out _ _ h (fun hHeld=>?_)
     clear hK K
     refine wpAnyH_done (by kernel_rfl) ?_ _
     refine NoPanic.normal ?_
     go_wp2
     go_meet
     case rel=>exact ⟨g4,g5,rfl,rfl,p4,p5,by omega,by omega,by omega,h⟩
    ·refine wp_alloc_R 86 rfl (C .u64 (Z 8)) z4' ?_
     have n45:=q4.lt
     obtain ⟨g5,hg5,q5,hq5⟩:=new_rowP h
     rw [hg5] at n45
     replace q4:=q4.alloc (.cells (C .u64 (Z 8)).toArray 86)
     replace h:=h.alloc (.cells (C .u64 (Z 8)).toArray 86)
     rw [hg5]
     clear hg5
     refine hK.out _ _ h (fun hHeld=>?_)
     clear hK K
     refine ar1 3 rfl (fun K hK=>?_)
     go_simp
     refine (halves_any B hB _).mono ?_
     rintro _ wn ⟨rfl,hb⟩
     replace q4:=q4.belowS hb
     replace q5:=q5.belowS hb
     replace h:=h.below hb
     clear hb
     refine hK.out _ _ h (fun hHeld=>?_)
     clear hK K
     refine ar1 6 rfl (fun K hK=>?_)
     refine wp_store_R 86 _ _ rfl _ (C .u64 (dig 4294967296 8 A)) rfl rfl q4 (id8 _) (zd8 _) (C_allL _ _) ?_
     intro ws4 p4 hg hz
     replace q5:=q5.grown hg (by simp;omega)
     replace h:=h.grown hg hq4
     clear q4 hg hz
     refine hK.out _ _ h (fun hHeld=>?_)
     clear hK K
     refine ar1 7 rfl (fun K hK=>?_)
     refine wp_store_R 86 _ _ rfl _ (C .u64 (dig 4294967296 8 B)) rfl rfl q5 (id8 _) (zd8 _) (C_allL _ _) ?_
     intro ws5 p5 hg hz
     replace p4:=p4.grown hg (by simp;omega)
     replace h:=h.grown hg hq5
     clear q5 hg hz
     refine hK.out _ _ h (fun hHeld=>?_)
     clear hK K
     refine wpAnyH_done (by kernel_rfl) ?_ _
     refine NoPanic.normal ?_
     go_wp2
     go_meet
     case rel=>exact ⟨g4,g5,rfl,rfl,p4,p5,by omega,by omega,by omega,h⟩
   ·refine wp_alloc_R 86 rfl (C .u64 (Z 8)) z4' ?_
    obtain ⟨g5,hg5,q5,hq5⟩:=new_rowP h
    replace h:=h.alloc (.cells (C .u64 (Z 8)).toArray 86)
    rw [hg5]
    clear hg5
    refine hK.out _ _ h (fun hHeld=>?_)
    clear hK K
    refine ar2 3 4 rfl rfl (fun K hK=>?_) (fun K hK=>?_)
    ·go_simp
     refine (halves_any B hB _).mono ?_
     rintro _ wn ⟨rfl,hb⟩
     replace q5:=q5.belowS hb
     replace h:=h.below hb
     clear hb
     refine hK.out _ _ h (fun hHeld=>?_)
     clear hK K
     refine ar1 4 rfl (fun K hK=>?_)
     refine wp_alloc_R 86 rfl (C .u64 (Z 8)) z4' ?_
     have n54:=q5.lt
     obtain ⟨g4,hg4,q4,hq4⟩:=new_rowP h
     rw [hg4] at n54
     replace q5:=q5.alloc (.cells (C .u64 (Z 8)).toArray 86)
     replace h:=h.alloc (.cells (C .u64 (Z 8)).toArray 86)
     rw [hg4]
     clear hg4
     refine hK.out _ _ h (fun hHeld=>?_)
     clear hK K
     refine ar1 6 rfl (fun K hK=>?_)
     refine wp_store_R 86 _ _ rfl _ (C .u64 (dig 4294967296 8 A)) rfl rfl q4 (id8 _) (zd8 _) (C_allL _ _) ?_
     intro ws4 p4 hg hz
     replace q5:=q5.grown hg (by simp;omega)
     replace h:=h.grown hg hq4
     clear q4 hg hz
     refine hK.out _ _ h (fun hHeld=>?_)
     clear hK K
     refine ar1 7 rfl (fun K hK=>?_)
     refine wp_store_R 86 _ _ rfl _ (C .u64 (dig 4294967296 8 B)) rfl rfl q5 (id8 _) (zd8 _) (C_allL _ _) ?_
     intro ws5 p5 hg hz
     replace p4:=p4.grown hg (by simp;omega)
     replace h:=h.grown hg hq5
     clear q5 hg hz
     refine hK.out _ _ h (fun hHeld=>?_)
     clear hK K
     refine wpAnyH_done (by kernel_rfl) ?_ _
     refine NoPanic.normal ?_
     go_wp2
     go_meet
     case rel=>exact ⟨g4,g5,rfl,rfl,p4,p5,by omega,by omega,by omega,h⟩
    ·refine wp_alloc_R 86 rfl (C .u64 (Z 8)) z4' ?_
     have n54:=q5.lt
     obtain ⟨g4,hg4,q4,hq4⟩:=new_rowP h
     rw [hg4] at n54
     replace q5:=q5.alloc (.cells (C .u64 (Z 8)).toArray 86)
     replace h:=h.alloc (.cells (C .u64 (Z 8)).toArray 86)
     rw [hg4]
     clear hg4
     refine hK.out _ _ h (fun hHeld=>?_)
     clear hK K
     refine ar1 3 rfl (fun K hK=>?_)
     go_simp
     refine (halves_any B hB _).mono ?_
     rintro _ wn ⟨rfl,hb⟩
     replace q5:=q5.belowS hb
     replace q4:=q4.belowS hb
     replace h:=h.below hb
     clear hb
     refine hK.out _ _ h (fun hHeld=>?_)
     clear hK K
     refine ar1 6 rfl (fun K hK=>?_)
     refine wp_store_R 86 _ _ rfl _ (C .u64 (dig 4294967296 8 A)) rfl rfl q4 (id8 _) (zd8 _) (C_allL _ _) ?_
     intro ws4 p4 hg hz
     replace q5:=q5.grown hg (by simp;omega)
     replace h:=h.grown hg hq4
     clear q4 hg hz
     refine hK.out _ _ h (fun hHeld=>?_)
     clear hK K
     refine ar1 7 rfl (fun K hK=>?_)
     refine wp_store_R 86 _ _ rfl _ (C .u64 (dig 4294967296 8 B)) rfl rfl q5 (id8 _) (zd8 _) (C_allL _ _) ?_
     intro ws5 p5 hg hz
     replace p4:=p4.grown hg (by simp;omega)
     replace h:=h.grown hg hq5
     clear q5 hg hz
     refine hK.out _ _ h (fun hHeld=>?_)
     clear hK K
     refine wpAnyH_done (by kernel_rfl) ?_ _
     refine NoPanic.normal ?_
     go_wp2
     go_meet
     case rel=>exact ⟨g4,g5,rfl,rfl,p4,p5,by omega,by omega,by omega,h⟩
  ·refine wp_alloc_R 86 rfl (C .u64 (Z 8)) z4' ?_
   obtain ⟨g4,hg4,q4,hq4⟩:=new_rowP h
   replace h:=h.alloc (.cells (C .u64 (Z 8)).toArray 86)
   rw [hg4]
   clear hg4
   refine hK.out _ _ h (fun hHeld=>?_)
   clear hK K
   refine ar2 1 5 rfl rfl (fun K hK=>?_) (fun K hK=>?_)
   ·go_simp
    refine (halves_any A hA _).mono ?_
    rintro _ wn ⟨rfl,hb⟩
    replace q4:=q4.belowS hb
    replace h:=h.below hb
    clear hb
    refine hK.out _ _ h (fun hHeld=>?_)
    clear hK K
    refine ar2 3 5 rfl rfl (fun K hK=>?_) (fun K hK=>?_)
    ·go_simp
     refine (halves_any B hB _).mono ?_
     rintro _ wn ⟨rfl,hb⟩
     replace q4:=q4.belowS hb
     replace h:=h.below hb
     clear hb
     refine hK.out _ _ h (fun hHeld=>?_)
     clear hK K
     refine ar1 5 rfl (fun K hK=>?_)
     refine wp_alloc_R 86 rfl (C .u64 (Z 8)) z4' ?_
     have n45:=q4.lt
     obtain ⟨g5,hg5,q5,hq5⟩:=new_rowP h
     rw [hg5] at n45
     replace q4:=q4.alloc (.cells (C .u64 (Z 8)).toArray 86)
     replace h:=h.alloc (.cells (C .u64 (Z 8)).toArray 86)
     rw [hg5]
     clear hg5
     refine hK.out _ _ h (fun hHeld=>?_)
     clear hK K
     refine ar1 6 rfl (fun K hK=>?_)
     refine wp_store_R 86 _ _ rfl _ (C .u64 (dig 4294967296 8 A)) rfl rfl q4 (id8 _) (zd8 _) (C_allL _ _) ?_
     intro ws4 p4 hg hz
     replace q5:=q5.grown hg (by simp;omega)
     replace h:=h.grown hg hq4
     clear q4 hg hz
     refine hK.out _ _ h (fun hHeld=>?_)
     clear hK K
     refine ar1 7 rfl (fun K hK=>?_)
     refine wp_store_R 86 _ _ rfl _ (C .u64 (dig 4294967296 8 B)) rfl rfl q5 (id8 _) (zd8 _) (C_allL _ _) ?_
     intro ws5 p5 hg hz
     replace p4:=p4.grown hg (by simp;omega)
     replace h:=h.grown hg hq5
     clear q5 hg hz
     refine hK.out _ _ h (fun hHeld=>?_)
     clear hK K
     refine wpAnyH_done (by kernel_rfl) ?_ _
     refine NoPanic.normal ?_
     go_wp2
     go_meet
     case rel=>exact ⟨g4,g5,rfl,rfl,p4,p5,by omega,by omega,by omega,h⟩
    ·refine wp_alloc_R 86 rfl (C .u64 (Z 8)) z4' ?_
     have n45:=q4.lt
     obtain ⟨g5,hg5,q5,hq5⟩:=new_rowP h
     rw [hg5] at n45
     replace q4:=q4.alloc (.cells (C .u64 (Z 8)).toArray 86)
     replace h:=h.alloc (.cells (C .u64 (Z 8)).toArray 86)
     rw [hg5]
     clear hg5
     refine hK.out _ _ h (fun hHeld=>?_)
     clear hK K
     refine ar1 3 rfl (fun K hK=>?_)
     go_simp
     refine (halves_any B hB _).mono ?_
     rintro _ wn ⟨rfl,hb⟩
     replace q4:=q4.belowS hb
     replace q5:=q5.belowS hb
     replace h:=h.below hb
     clear hb
     refine hK.out _ _ h (fun hHeld=>?_)
     clear hK K
     refine ar1 6 rfl (fun K hK=>?_)
     refine wp_store_R 86 _ _ rfl _ (C .u64 (dig 4294967296 8 A)) rfl rfl q4 (id8 _) (zd8 _) (C_allL _ _) ?_
     intro ws4 p4 hg hz
     replace q5:=q5.grown hg (by simp;omega)
     replace h:=h.grown hg hq4
     clear q4 hg hz
     refine hK.out _ _ h (fun hHeld=>?_)
     clear hK K
     refine ar1 7 rfl (fun K hK=>?_)
     refine wp_store_R 86 _ _ rfl _ (C .u64 (dig 4294967296 8 B)) rfl rfl q5 (id8 _) (zd8 _) (C_allL _ _) ?_
     intro ws5 p5 hg hz
     replace p4:=p4.grown hg (by simp;omega)
     replace h:=h.grown hg hq5
     clear q5 hg hz
     refine hK.out _ _ h (fun hHeld=>?_)
     clear hK K
     refine wpAnyH_done (by kernel_rfl) ?_ _
     refine NoPanic.normal ?_
     go_wp2
     go_meet
     case rel=>exact ⟨g4,g5,rfl,rfl,p4,p5,by omega,by omega,by omega,h⟩
   ·refine wp_alloc_R 86 rfl (C .u64 (Z 8)) z4' ?_
    have n45:=q4.lt
    obtain ⟨g5,hg5,q5,hq5⟩:=new_rowP h
    rw [hg5] at n45
    replace q4:=q4.alloc (.cells (C .u64 (Z 8)).toArray 86)
    replace h:=h.alloc (.cells (C .u64 (Z 8)).toArray 86)
    rw [hg5]
    clear hg5
    refine hK.out _ _ h (fun hHeld=>?_)
    clear hK K
    refine ar1 1 rfl (fun K hK=>?_)
    go_simp
    refine (halves_any A hA _).mono ?_
    rintro _ wn ⟨rfl,hb⟩
    replace q4:=q4.belowS hb
    replace q5:=q5.belowS hb
    replace h:=h.below hb
    clear hb
    refine hK.out _ _ h (fun hHeld=>?_)
    clear hK K
    refine ar1 3 rfl (fun K hK=>?_)
    go_simp
    refine (halves_any B hB _).mono ?_
    rintro _ wn ⟨rfl,hb⟩
    replace q4:=q4.belowS hb
    replace q5:=q5.belowS hb
    replace h:=h.below hb
    clear hb
    refine hK.out _ _ h (fun hHeld=>?_)
    clear hK K
    refine ar1 6 rfl (fun K hK=>?_)
    refine wp_store_R 86 _ _ rfl _ (C .u64 (dig 4294967296 8 A)) rfl rfl q4 (id8 _) (zd8 _) (C_allL _ _) ?_
    intro ws4 p4 hg hz
    replace q5:=q5.grown hg (by simp;omega)
    replace h:=h.grown hg hq4
    clear q4 hg hz
    refine hK.out _ _ h (fun hHeld=>?_)
    clear hK K
    refine ar1 7 rfl (fun K hK=>?_)
    refine wp_store_R 86 _ _ rfl _ (C .u64 (dig 4294967296 8 B)) rfl rfl q5 (id8 _) (zd8 _) (C_allL _ _) ?_
    intro ws5 p5 hg hz
    replace p4:=p4.grown hg (by simp;omega)
    replace h:=h.grown hg hq5
    clear q5 hg hz
    refine hK.out _ _ h (fun hHeld=>?_)
    clear hK K
    refine wpAnyH_done (by kernel_rfl) ?_ _
    refine NoPanic.normal ?_
    go_wp2
    go_meet
    case rel=>exact ⟨g4,g5,rfl,rfl,p4,p5,by omega,by omega,by omega,h⟩
  ·refine wp_alloc_R 86 rfl (C .u64 (Z 8)) z4' ?_
   obtain ⟨g5,hg5,q5,hq5⟩:=new_rowP h
   replace h:=h.alloc (.cells (C .u64 (Z 8)).toArray 86)
   rw [hg5]
   clear hg5
   refine hK.out _ _ h (fun hHeld=>?_)
   clear hK K
   refine ar2 1 4 rfl rfl (fun K hK=>?_) (fun K hK=>?_)
   ·go_simp
    refine (halves_any A hA _).mono ?_
    rintro _ wn ⟨rfl,hb⟩
    replace q5:=q5.belowS hb
    replace h:=h.below hb
    clear hb
    refine hK.out _ _ h (fun hHeld=>?_)
    clear hK K
    refine ar2 3 4 rfl rfl (fun K hK=>?_) (fun K hK=>?_)
    ·go_simp
     refine (halves_any B hB _).mono ?_
     rintro _ wn ⟨rfl,hb⟩
     replace q5:=q5.belowS hb
     replace h:=h.below hb
     clear hb
     refine hK.out _ _ h (fun hHeld=>?_)
     clear hK K
     refine ar1 4 rfl (fun K hK=>?_)
     refine wp_alloc_R 86 rfl (C .u64 (Z 8)) z4' ?_
     have n54:=q5.lt
     obtain ⟨g4,hg4,q4,hq4⟩:=new_rowP h
     rw [hg4] at n54
     replace q5:=q5.alloc (.cells (C .u64 (Z 8)).toArray 86)
     replace h:=h.alloc (.cells (C .u64 (Z 8)).toArray 86)
     rw [hg4]
     clear hg4
     refine hK.out _ _ h (fun hHeld=>?_)
     clear hK K
     refine ar1 6 rfl (fun K hK=>?_)
     refine wp_store_R 86 _ _ rfl _ (C .u64 (dig 4294967296 8 A)) rfl rfl q4 (id8 _) (zd8 _) (C_allL _ _) ?_
     intro ws4 p4 hg hz
     replace q5:=q5.grown hg (by simp;omega)
     replace h:=h.grown hg hq4
     clear q4 hg hz
     refine hK.out _ _ h (fun hHeld=>?_)
     clear hK K
     refine ar1 7 rfl (fun K hK=>?_)
     refine wp_store_R 86 _ _ rfl _ (C .u64 (dig 4294967296 8 B)) rfl rfl q5 (id8 _) (zd8 _) (C_allL _ _) ?_
     intro ws5 p5 hg hz
     replace p4:=p4.grown hg (by simp;omega)
     replace h:=h.grown hg hq5
     clear q5 hg hz
     refine hK.out _ _ h (fun hHeld=>?_)
     clear hK K
     refine wpAnyH_done (by kernel_rfl) ?_ _
     refine NoPanic.normal ?_
     go_wp2
     go_meet
     case rel=>exact ⟨g4,g5,rfl,rfl,p4,p5,by omega,by omega,by omega,h⟩
    ·refine wp_alloc_R 86 rfl (C .u64 (Z 8)) z4' ?_
     have n54:=q5.lt
     obtain ⟨g4,hg4,q4,hq4⟩:=new_rowP h
     rw [hg4] at n54
     replace q5:=q5.alloc (.cells (C .u64 (Z 8)).toArray 86)
     replace h:=h.alloc (.cells (C .u64 (Z 8)).toArray 86)
     rw [hg4]
     clear hg4
     refine hK.out _ _ h (fun hHeld=>?_)
     clear hK K
     refine ar1 3 rfl (fun K hK=>?_)
     go_simp
     refine (halves_any B hB _).mono ?_
     rintro _ wn ⟨rfl,hb⟩
     replace q5:=q5.belowS hb
     replace q4:=q4.belowS hb
     replace h:=h.below hb
     clear hb
     refine hK.out _ _ h (fun hHeld=>?_)
     clear hK K
     refine ar1 6 rfl (fun K hK=>?_)
     refine wp_store_R 86 _ _ rfl _ (C .u64 (dig 4294967296 8 A)) rfl rfl q4 (id8 _) (zd8 _) (C_allL _ _) ?_
     intro ws4 p4 hg hz
     replace q5:=q5.grown hg (by simp;omega)
     replace h:=h.grown hg hq4
     clear q4 hg hz
     refine hK.out _ _ h (fun hHeld=>?_)
     clear hK K
     refine ar1 7 rfl (fun K hK=>?_)
     refine wp_store_R 86 _ _ rfl _ (C .u64 (dig 4294967296 8 B)) rfl rfl q5 (id8 _) (zd8 _) (C_allL _ _) ?_
     intro ws5 p5 hg hz
     replace p4:=p4.grown hg (by simp;omega)
     replace h:=h.grown hg hq5
     clear q5 hg hz
     refine hK.out _ _ h (fun hHeld=>?_)
     clear hK K
     refine wpAnyH_done (by kernel_rfl) ?_ _
     refine NoPanic.normal ?_
     go_wp2
     go_meet
     case rel=>exact ⟨g4,g5,rfl,rfl,p4,p5,by omega,by omega,by omega,h⟩
   ·refine wp_alloc_R 86 rfl (C .u64 (Z 8)) z4' ?_
    have n54:=q5.lt
    obtain ⟨g4,hg4,q4,hq4⟩:=new_rowP h
    rw [hg4] at n54
    replace q5:=q5.alloc (.cells (C .u64 (Z 8)).toArray 86)
    replace h:=h.alloc (.cells (C .u64 (Z 8)).toArray 86)
    rw [hg4]
    clear hg4
    refine hK.out _ _ h (fun hHeld=>?_)
    clear hK K
    refine ar1 1 rfl (fun K hK=>?_)
    go_simp
    refine (halves_any A hA _).mono ?_
    rintro _ wn ⟨rfl,hb⟩
    replace q5:=q5.belowS hb
    replace q4:=q4.belowS hb
    replace h:=h.below hb
    clear hb
    refine hK.out _ _ h (fun hHeld=>?_)
    clear hK K
    refine ar1 3 rfl (fun K hK=>?_)
    go_simp
    refine (halves_any B hB _).mono ?_
    rintro _ wn ⟨rfl,hb⟩
    replace q5:=q5.belowS hb
    replace q4:=q4.belowS hb
    replace h:=h.below hb
    clear hb
    refine hK.out _ _ h (fun hHeld=>?_)
    clear hK K
    refine ar1 6 rfl (fun K hK=>?_)
    refine wp_store_R 86 _ _ rfl _ (C .u64 (dig 4294967296 8 A)) rfl rfl q4 (id8 _) (zd8 _) (C_allL _ _) ?_
    intro ws4 p4 hg hz
    replace q5:=q5.grown hg (by simp;omega)
    replace h:=h.grown hg hq4
    clear q4 hg hz
    refine hK.out _ _ h (fun hHeld=>?_)
    clear hK K
    refine ar1 7 rfl (fun K hK=>?_)
    refine wp_store_R 86 _ _ rfl _ (C .u64 (dig 4294967296 8 B)) rfl rfl q5 (id8 _) (zd8 _) (C_allL _ _) ?_
    intro ws5 p5 hg hz
    replace p4:=p4.grown hg (by simp;omega)
    replace h:=h.grown hg hq5
    clear q5 hg hz
    refine hK.out _ _ h (fun hHeld=>?_)
    clear hK K
    refine wpAnyH_done (by kernel_rfl) ?_ _
    refine NoPanic.normal ?_
    go_wp2
    go_meet
    case rel=>exact ⟨g4,g5,rfl,rfl,p4,p5,by omega,by omega,by omega,h⟩
 case rest =>
  clear h
  obtain ⟨g4,g5,rfl,rfl,p4,p5,hne,hg4,hg5,h⟩:=hcut
  have lx:=dig_length 4294967296 8 A
  have ly:=dig_length 4294967296 8 B
  have hx:=dig_lo (B:=4294967296) (by decide) 8 A
  have hy:=dig_lo (B:=4294967296) (by decide) 8 B
  have HE:Away (val 4294967296 (dig 4294967296 8 A) * val 4294967296 (dig 4294967296 8 B) = A * B):=⟨by rw [dig_val (by decide) (by rw [B32_pow];exact hA),dig_val (by decide) (by rw [B32_pow];exact hB)]⟩
  generalize dig 4294967296 8 A = xs at *
  generalize dig 4294967296 8 B = ys at *
  have hq:=h.lt
  have r7:=Row.new wc 91 (C .u64 (Z 16))
  have k4:=p4.lt
  have k5:=p5.lt
  replace p4:=p4.alloc (.cells (C .u64 (Z 16)).toArray 91)
  replace p5:=p5.alloc (.cells (C .u64 (Z 16)).toArray 91)
  replace h:=h.alloc (.cells (C .u64 (Z 16)).toArray 91)
  generalize hg7:wc.heap.size = g7 at *
  go_upto_region 3 with (first | refine wpList_alloc_row rfl 91 rfl _ z16 ?_ | refine wpList_build_Z rfl 91 rfl _ b16 ?_ | (refine wpList_store_R rfl 91 _ _ rfl _ (C .u64 (Z 16)) (by rw [← hg7];rfl) rfl r7 i16 rfl (C_allL _ _) ?_;intro w5 q7 hg hz))
  replace p4:=p4.grown hg (by simp;omega)
  replace p5:=p5.grown hg (by simp;omega)
  replace h:=h.grown hg hq
  clear r7 hg hz
  go_wp2
  try rw [hg7]
  clear hg7
  go_loopw [8] (fun i wr=>∃ (k:Nat) (l:List Nat),k ≤ 8 ∧ i = .int .i64 k ∧ Away (Pout 4294967296 8 xs ys l k) ∧ Row wr g4 86 (C .u64 xs) ∧ Row wr g5 86 (C .u64 ys) ∧ Row wr g7 91 (C .u64 l) ∧ HP w.heap.size w wr (C .u64 (wds A)) (C .u64 (wds B)) (C .u64 (Z 16))) (fun i _=>8 - (intOf i).toNat)
  case atStart=>exact ⟨0,Z 16,Nat.zero_le _,rfl,⟨Pout.begin (by decide) xs ys⟩,p4,p5,q7,h⟩
  case round =>
   clear p4 p5 q7 h
   obtain ⟨k,l,hk,rfl,ho,p4,p5,q7,h⟩:=hrel
   by_cases hlt:k < 8
   ·have c4:=p4.cell k
    rw [C_get .u64 (by omega)] at c4
    have bx:=hx.getD (by decide) k
    have hki:(k:Int) < 8:=by omega
    have HP':=Away.mk (ho.out.inner (by decide))
    obtain ⟨x,hxe⟩:∃ x,xs.getD k 0 = x:=⟨_,rfl⟩
    rw [hxe] at bx
    have HX:=Away.mk hxe
    clear hxe ho c4
    go_wp2
    go_loopw [9,10] (fun cv i wr=>∃ (j c:Nat) (l:List Nat),j ≤ 8 ∧ i = .int .i64 j ∧ cv = .int .u64 (c:Int) ∧ Away (Pin 4294967296 8 xs ys l k j c) ∧ Row wr g4 86 (C .u64 xs) ∧ Row wr g5 86 (C .u64 ys) ∧ Row wr g7 91 (C .u64 l) ∧ HP w.heap.size w wr (C .u64 (wds A)) (C .u64 (wds B)) (C .u64 (Z 16))) (fun _ i _=>8 - (intOf i).toNat)
    case atStart=>exact ⟨0,0,l,Nat.zero_le _,rfl,rfl,HP',p4,p5,q7,h⟩
    case round =>
     clear p4 p5 q7 h HP' l
     obtain ⟨j,c,l,hj,rfl,rfl,HP',p4,p5,q7,h⟩:=hrel
     have hc:=HP'.out.small
     have hlen:=HP'.out.len
     by_cases hlt2:j < 8
     ·have c4:=p4.cell k
      rw [C_get .u64 (by omega),HX.out] at c4
      have c5:=p5.cell j
      rw [C_get .u64 (by omega)] at c5
      have by':=hy.getD (by decide) j
      have bl:=HP'.out.lo.getD (by decide) (k + j)
      have HN:=Away.mk (HP'.out.step (by decide) hx hy hlt2 hlt)
      rw [HX.out] at HN
      have c7:=q7.cell (k + j)
      rw [C_get .u64 (by omega)] at c7
      have hf:=q7.frozen (k + j)
      clear HP'
      generalize ys.getD j 0 = y at *
      generalize l.getD (k + j) 0 = v at *
      have hji:(j:Int) < 8:=by omega
      obtain ⟨n,hn⟩:∃ n,k + j = n:=⟨_,rfl⟩
      rw [hn] at HN c7 hf
      have en:(k:Int) + (j:Int) = (n:Int):=by omega
      have wn:IntKind.i64.wrap (n:Int) = (n:Int):=by rw [IntWalk.i64_in _ ⟨by omega,by omega⟩]
      have bn:(n:Int) < 16:=by omega
      have hp:x * y ≤ 18446744065119617025:=Nat.le_trans (Nat.mul_le_mul (Nat.le_pred_of_lt bx) (Nat.le_pred_of_lt by')) (by decide)
      have cp:(x:Int) * (y:Int) = ((x * y:Nat):Int):=by simp
      generalize x * y = p at *
      obtain ⟨s1,hs1⟩:∃ s1,c + v = s1:=⟨_,rfl⟩
      obtain ⟨t,ht⟩:∃ t,p + v + c = t:=⟨_,rfl⟩
      have e1:IntKind.u64.wrap ((c:Int) + (v:Int)) = (s1:Int):=by rw [IntKind.wrap_u64];omega
      have e2:IntKind.u64.wrap ((x:Int) * (y:Int)) = (p:Int):=by rw [cp,IntKind.wrap_u64];omega
      have e3:IntKind.u64.wrap ((s1:Int) + (p:Int)) = (t:Int):=by rw [IntKind.wrap_u64];omega
      rw [ht] at HN
      have htl:t < 18446744073709551616:=by omega
      obtain ⟨z,hz⟩:∃ z,t % 4294967296 = z:=⟨_,rfl⟩
      obtain ⟨d,hd⟩:∃ d,t / 4294967296 = d:=⟨_,rfl⟩
      rw [hz,hd] at HN
      have e4:bits .and .u64 (t:Int) 4294967295 = (z:Int):=by
       have:=u64_and_nat t 4294967295 htl (by decide)
       rw [show ((4294967295:Nat):Int) = 4294967295 from rfl] at this
       rw [this,show (4294967295:Nat) = 2 ^ 32 - 1 from rfl,Nat.and_two_pow_sub_one_eq_mod,← hz]
      have e5:(t:Int) / 4294967296 = (d:Int):=by omega
      clear hn hp cp hs1 ht htl hz hd bx by' bl hc
      go_wp2
      go_quiet (fail)
      obtain ⟨wn',hwn,p4,p5,q7,h,c7,hf⟩:∃ wn':World,wr.drewN nq = wn' ∧ Row wn' g4 86 (C .u64 xs) ∧ Row wn' g5 86 (C .u64 ys) ∧ Row wn' g7 91 (C .u64 l) ∧ HP w.heap.size w wn' (C .u64 (wds A)) (C .u64 (wds B)) (C .u64 (Z 16)) ∧ wn'.cell? ⟨g7,n,none⟩ = some (.int .u64 (v:Int)) ∧ wn'.frozen? ⟨g7,n,none⟩ = false:=⟨_,rfl,p4,p5,q7,h.drewN nq,c7,hf⟩
      rw [hwn]
      clear hwn
      have m4:=p4.other (i:=n) (.int .u64 (z:Int)) (show g4 ≠ g7 by omega)
      have m5:=p5.other (i:=n) (.int .u64 (z:Int)) (show g5 ≠ g7 by omega)
      have m7:=row_set q7 n z
      have mh:=h.cell (k:=g7) (i:=n) (.int .u64 (z:Int)) hq
      clear p4 p5 q7 h
      go_wp2
      go_roundw
      case rel=>exact ⟨j + 1,d,_,by omega,by go_num,rfl,HN,m4,m5,m7,mh⟩
      case measure=>simp [intOf];omega
     ·obtain rfl:j = 8:=by omega
      have HN:=Away.mk (HP'.out.out ly hlt)
      have hf:=q7.frozen (k + 8)
      have c7:=q7.cell (k + 8)
      rw [C_get .u64 (by omega)] at c7
      generalize l.getD (k + 8) 0 = v at *
      obtain ⟨n,hn⟩:∃ n,k + 8 = n:=⟨_,rfl⟩
      rw [hn] at HN c7 hf
      have en:(k:Int) + 8 = (n:Int):=by omega
      have wn:IntKind.i64.wrap (n:Int) = (n:Int):=by rw [IntWalk.i64_in _ ⟨by omega,by omega⟩]
      have bn:(n:Int) < 16:=by omega
      have m4:=p4.other (i:=n) (.int .u64 (c:Int)) (show g4 ≠ g7 by omega)
      have m5:=p5.other (i:=n) (.int .u64 (c:Int)) (show g5 ≠ g7 by omega)
      have m7:=row_set q7 n c
      have mh:=h.cell (k:=g7) (i:=n) (.int .u64 (c:Int)) hq
      clear hn HP' p4 p5 q7 h
      go_wp2
      go_roundw
      case rel=>exact ⟨k + 1,_,by omega,by go_num,HN,m4,m5,m7,mh⟩
      case measure=>simp [intOf];omega
   ·have HK:Away (k = 8):=⟨by omega⟩
    have dk:decide ((k:Int) < 8) = false:=decide_eq_false (by omega)
    rw [HK.out] at ho
    have hi:=ho.out.len
    have HL:=ho.out.lo
    have HA:=Away.mk (ho.out.all lx)
    have HLn:=Away.mk hi
    rw [← C_length .u64 l] at hi
    have hi16:(Tryz.prog.info? 91).map (·.size) = some (C .u64 l).length:=by rw [hi];exact i16
    clear hlt hk ho
    go_wp2_with (first | refine wpList_load_row rfl 91 _ rfl _ rfl _ _ _ _ q7 Tryz.underlying91 rfl hi16 ?_ | (refine wpList_store_R rfl 91 _ _ rfl _ (C .u64 l) rfl rfl h.r3 hi16 (by rw [hi];rfl) (C_allL _ _) ?_;intro w7 q8 hg8 hz8))
    exact result_row Tryz.results95 rfl q8 Tryz.underlying91 rfl hi16 rfl ⟨⟨l,rfl,HLn.out,HL,by rw [HA.out,HE.out]⟩,below_grown h.bel hg8 (by omega) h.r3.lt⟩
end Go.Proofs.YtmjimilhomabfaaGreatDoor.F
