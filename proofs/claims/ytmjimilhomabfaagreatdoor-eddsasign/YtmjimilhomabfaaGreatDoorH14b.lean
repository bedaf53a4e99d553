/-
 SHA-512 of the document (affiantref08). Conditions: each as it says.
-/
import Derived.Test.YtmjimilhomabfaaGreatDoorH14a
import Derived.Test.YtmjimilhomabfaaGreatDoorK13
namespace Go.Proofs.YtmjimilhomabfaaGreatDoor.S3
open Go.RowKit
set_option linter.unusedVariables false
set_option maxRecDepth 10000
theorem ror_eq' (x n:Nat) (hx:x < 18446744073709551616) (hn:n ≤ 64):bits .or .u64 ((x:Int) / 2 ^ n) ((x:Int) * 2 ^ (64 - n) % 18446744073709551616) = (ror n x:Nat):=by
 have e1:(x:Int) * 2 ^ (64 - n) % 18446744073709551616 = ((x * 2 ^ (64 - n) % 18446744073709551616:Nat):Int):=by simp
 have e2:(x:Int) / 2 ^ n = ((x / 2 ^ n:Nat):Int):=by simp
 rw [e1,e2,u64_or_nat _ _ (shr_lt64 hx _) (mod_lt64 _),ror,Nat.or_comm]
theorem refturn_any (x n:Nat) (hx:x < 18446744073709551616) (hn:n < 64) (w:World) :
  Calls Tryz.prog 117 #[.int .u64 (x:Int),.int .u64 (n:Int)] w fun e w'=>e = .returned (.int .u64 (ror n x:Nat)) ∧ w = w':=by
 have ho:=ror_eq' x n hx (by omega)
 rw [← IntKind.wrap_u64] at ho
 go_enter Tryz.func117,Tryz.ntmps117
 go_wp2
 go_ret
 exact ⟨rfl,rfl⟩
theorem inf64r:(Tryz.prog.info? 30).map (fun i=>(i.zero,i.size,i.bytes)) = some (some (.int .u64 0),1,8):=by kernel_rfl
theorem refstart_any (b:Bool) (w:World):Calls Tryz.prog 88 #[.bool b] w fun e w'=>e = .returned (.agg (C .u64 (start3 b).list).toArray) ∧ Below w.heap.size w w':=by
 have hC:=Row.new w 86 (C .u64 (Z 8))
 have hL:=(Below.more (Below.refl w.heap.size w) (Nat.le_refl _) (.cells (C .u64 (Z 8)).toArray 86)).1
 cases b
 ·go_enter Tryz.func88,Tryz.ntmps88
  go_wp2_with (first | refine wpList_alloc_row rfl 86 rfl _ z8 ?_ | (refine wpList_store_R rfl 86 _ _ rfl _ _ rfl rfl hC i8 rfl rfl ?_;intro w5 hR5 hg5 hz5))
  exact result_row Tryz.results88 rfl hR5 Tryz.underlying86 rfl i8 rfl ⟨rfl,below_grown hL hg5 (by omega) hC.lt⟩
 ·go_enter Tryz.func88,Tryz.ntmps88
  go_wp2_with (first | refine wpList_alloc_row rfl 86 rfl _ z8 ?_ | (refine wpList_store_R rfl 86 _ _ rfl _ _ rfl rfl hC i8 rfl rfl ?_;intro w5 hR5 hg5 hz5))
  exact result_row Tryz.results88 rfl hR5 Tryz.underlying86 rfl i8 rfl ⟨rfl,below_grown hL hg5 (by omega) hC.lt⟩
theorem out3_getr (s:S8) (q r:Nat) (hq:q < 8) (hr:r < 8):(out3 s).getD (8 * q + r) 0 = s.list.getD q 0 / 2 ^ (8 * (7 - r)) % 256:=by
 have hq':q = 0 ∨ q = 1 ∨ q = 2 ∨ q = 3 ∨ q = 4 ∨ q = 5 ∨ q = 6 ∨ q = 7:=by omega
 have hr':r = 0 ∨ r = 1 ∨ r = 2 ∨ r = 3 ∨ r = 4 ∨ r = 5 ∨ r = 6 ∨ r = 7:=by omega
 rcases hq' with rfl | rfl | rfl | rfl | rfl | rfl | rfl | rfl <;> rcases hr' with rfl | rfl | rfl | rfl | rfl | rfl | rfl | rfl <;> rfl
theorem list_ltr {s:S8} (h:s.ok) (q:Nat):s.list.getD q 0 < 18446744073709551616:=by
 have hl:Lo 18446744073709551616 s.list:=by
  obtain ⟨h1,h2,h3,h4,h5,h6,h7,h8⟩:=h
  intro x hx
  simp only [S8.list,List.mem_cons,List.not_mem_nil,or_false] at hx
  rcases hx with rfl | rfl | rfl | rfl | rfl | rfl | rfl | rfl <;> assumption
 exact hl.getD (by decide) q
theorem be_ltr (c i:Nat):be c i < 256:=Nat.mod_lt _ (by decide)
theorem be8_lor (c:Nat):Lo 256 (be8 c):=by
 intro x hx
 simp only [be8,List.mem_cons,List.not_mem_nil,or_false] at hx
 rcases hx with rfl | rfl | rfl | rfl | rfl | rfl | rfl | rfl <;> exact be_ltr _ _
theorem cnt_lo2 (c:Nat):Lo 256 (cnt c):=by
 refine Lo.append ?_ (be8_lor c)
 intro x hx
 simp only [List.mem_cons,List.not_mem_nil,or_false,or_self] at hx
 subst hx;decide
def nz (n:Nat):Nat:=(239 - n % 128) % 128
theorem nz_stop {n j:Nat} (h:j ≤ nz n) (hs:(n + 1 + j) % 128 = 112):j = nz n:=by unfold nz at *;omega
theorem nz_go {n j:Nat} (h:j ≤ nz n) (hs:(n + 1 + j) % 128 ≠ 112):j < nz n:=by unfold nz at *;omega
def bx (c i:Nat):Nat:=if i < 8 then be c i else 0
theorem cnt_next (c i:Nat) (hi:i < 16):(cnt c).take (16 - (i + 1)) ++ [bx c i] = (cnt c).take (16 - i):=by
 have hi':i = 0 ∨ i = 1 ∨ i = 2 ∨ i = 3 ∨ i = 4 ∨ i = 5 ∨ i = 6 ∨ i = 7 ∨ i = 8 ∨ i = 9 ∨ i = 10 ∨ i = 11 ∨ i = 12 ∨ i = 13 ∨ i = 14 ∨ i = 15:=by omega
 rcases hi' with rfl | rfl | rfl | rfl | rfl | rfl | rfl | rfl | rfl | rfl | rfl | rfl | rfl | rfl | rfl | rfl <;> rfl
theorem Z_snoc (n:Nat):Z n ++ [0] = Z (n + 1):=by rw [Z,Z,← List.replicate_succ']
theorem C_snoc (k:IntKind) (l:List Nat) (x:Nat):C k l ++ [.int k (x:Int)] = C k (l ++ [x]):=by rw [C_append];rfl
set_option maxHeartbeats 800000 in
theorem padded_any (v:Value) (xs:List Nat) (w:World) (hv:SlV w v (C .u8 xs)) (hx:Lo 256 xs) (hm:xs.length ≤ 1000000000000) :
  Calls Tryz.prog 89 #[v,.int .i64 128,.int .i64 16] w fun e w'=>∃ v' n,e = .returned v' ∧ w'.ownsRow w.heap.size 5 1 v' n (C .u8 (pad3 xs)) ∧ Below w.heap.size w w':=by
 obtain ⟨N,hN⟩:∃ N,xs.length = N:=⟨_,rfl⟩
 obtain ⟨sa,sc,rfl,h1,h2⟩:=hv.shp hN
 rw [hN] at hm
 have hNm:(N:Int) ≤ 9223372036854775807:=by omega
 have hA:Below w.heap.size w (w.alloc (.cells #[] 5)):=(Below.refl _ _).alloc (Nat.le_refl _) _
 have hsA:=hv.below hA
 have hoA:=own_empty w w.heap.size 5 (Nat.le_refl _)
 go_enter Tryz.func89,Tryz.ntmps89
 go_wp2_with (at_builtin;refine wpList_append_sl rfl (.tmp 11) (.tmp 12) 23 rfl w.heap.size 5 _ 1 Tryz.underlying23 inf8 rfl _ 0 [] rfl hoA _ (C .u8 xs) rfl hsA (C_one _ _) (by rw [C_length];unfold maxLen;omega) (by rw [C_length];omega) hA.size ?_)
 intro v1 w1 ho1 hg1
 have hb1:Below w.heap.size w w1:=hA.grown hg1 hA.size (fun k hk=>(hoA.lt k hk).1)
 have ho1:w1.ownsRow w.heap.size 5 1 v1 N (C .u8 xs):=by simpa [C_length,hN] using ho1
 clear hg1 hoA hsA hA
 have HB1:=Away.mk hb1
 go_wp2_with (at_builtin;refine wpList_append_sl rfl (.tmp 14) (.tmp 15) 23 rfl w.heap.size 5 _ 1 Tryz.underlying23 inf8 rfl _ N _ rfl (ho1.alloc _) _ [.int .u8 128] rfl (SlV_one _ _ _) (by simp [Value.oneCell']) (by simp;unfold maxLen;omega) (by simp;omega) (by have:=HB1.out.size;simp;omega) ?_)
 intro v2 w2 ho2 hg2
 have hb2:Below w.heap.size w w2:=(HB1.out.alloc HB1.out.size _).grown hg2 (by have:=HB1.out.size;simp;omega) (fun k hk=>(ho1.lt k hk).1)
 have ho2:w2.ownsRow w.heap.size 5 1 v2 (N + 1 + 0) (C .u8 (xs ++ 128 :: Z 0)):=by
  rw [C_append];simpa [C,Z] using ho2
 clear hg2 HB1 ho1 hb1
 go_wp2
 go_loopw [7] (fun v wr=>∃ j:Nat,j ≤ nz N ∧ wr.ownsRow w.heap.size 5 1 v (N + 1 + j) (C .u8 (xs ++ 128 :: Z j)) ∧ Below w.heap.size w wr) (fun v _=>N + 1 + nz N - lenS v)
 case atStart=>exact ⟨0,Nat.zero_le _,ho2,hb2⟩
 case round =>
  clear ho2 hb2
  obtain ⟨j,hj,ho,hb⟩:=hrel
  have hz64:nz N < 128:=Nat.mod_lt _ (by decide)
  obtain ⟨g,cap,rfl,hbg,hgl,hnc,hcm⟩:=own_shape ho (by omega)
  obtain ⟨M,hM⟩:∃ M,N + 1 + j = M:=⟨_,rfl⟩
  have hMm:(M:Int) ≤ 9223372036854775807:=by omega
  rw [hM] at ho hnc ⊢
  by_cases hstop:M % 128 = 112
  ·have hmod:(M:Int) % 128 = 112:=by omega
   have hj':=nz_stop hj (by rw [hM];exact hstop)
   obtain ⟨c,hc⟩:∃ c,8 * N = c:=⟨_,rfl⟩
   have hci:(N:Int) * 8 = (c:Int):=by omega
   have hcm:c < 18446744073709551616:=by omega
   have HE:Away (pad3 xs = (xs ++ 128 :: Z j) ++ (cnt c).take 16):=⟨by
    rw [pad3,hN,hc,Nat.mod_eq_of_lt hcm,show zs3 N = j from hj'.symm]
    simp [Z,cnt,be8]⟩
   have hlP:(xs ++ 128 :: Z j).length = M:=by simp [Z_length];omega
   generalize xs ++ 128 :: Z j = P at *
   have HC:=Away.mk hc
   clear hc
   go_upto_region 6 with fail
   rw [hmod]
   clear hmod hci hstop
   go_wp2
   go_loopw [7,9] (fun v i wr=>∃ k:Nat,k ≤ 16 ∧ i = .int .i64 ((k:Int) - 1) ∧ wr.ownsRow w.heap.size 5 1 v (M + (16 - k)) (C .u8 (P ++ (cnt c).take (16 - k))) ∧ Below w.heap.size w wr) (fun _ i _=>((intOf i) + 1).toNat)
   case atStart=>exact ⟨16,Nat.le_refl _,rfl,by simpa using ho,hb⟩
   case round =>
    clear ho hb
    obtain ⟨k,hk,rfl,ho,hb⟩:=hrel
    have HB:=Away.mk hb
    have HO:=Away.mk ho
    clear hb ho
    obtain ⟨L,hL⟩:∃ L,M + (16 - k) = L:=⟨_,rfl⟩
    rw [hL] at HO
    obtain ⟨g4,cap4,rfl,hbg4,hgl4,hnc4,hcm4⟩:=own_shape HO.out (by omega)
    cases k with
    | zero =>
     go_wp2
     go_ret
     refine ⟨_,L,rfl,?_,HB.out⟩
     rw [HE.out]
     exact HO.out
    | succ i =>
     have hi:((i + 1:Nat):Int) - 1 = (i:Int):=by omega
     rw [hi]
     have hi16:i < 16:=by omega
     have HN:=Away.mk (cnt_next c i hi16)
     rw [show 16 - (i + 1) = 15 - i by omega] at HN
     clear hi
     have hiw:IntKind.i64.wrap ((i:Int) - 1) = (i:Int) - 1:=IntWalk.i64_in _ ⟨by omega,by omega⟩
     by_cases hi8:i < 8
     ·have hi8':(i:Int) < 8:=by omega
      have HV:Away ((c:Int) / 2 ^ (8 * i) % 256 = (bx c i:Nat)):=⟨by rw [bx,if_pos hi8,be];simp⟩
      go_upto_region 12 with fail
      rw [HV.out]
      go_wp2_with (at_builtin;refine wpList_append_sl rfl (.tmp 46) (.tmp 48) 23 rfl w.heap.size 5 _ 1 Tryz.underlying23 inf8 rfl _ L _ rfl (HO.out.alloc _) _ [.int .u8 (bx c i:Nat)] rfl (SlV_one _ _ _) (by simp [Value.oneCell']) (by simp;unfold maxLen;omega) (by simp;omega) (by have:=HB.out.size;simp;omega) ?_)
      intro v3 w3 ho3 hg3
      have hb3:Below w.heap.size w w3:=(HB.out.alloc HB.out.size _).grown hg3 (by have:=HB.out.size;simp;omega) (fun k hk=>(HO.out.lt k hk).1)
      have ho3:w3.ownsRow w.heap.size 5 1 v3 (M + (16 - i)) (C .u8 (P ++ (cnt c).take (16 - i))):=by
       have:=ho3
       rw [C_snoc,List.append_assoc] at this
       rw [HN.out] at this
       rwa [show M + (16 - i) = L + 1 by omega]
      clear HB HO hg3
      go_wp2
      go_roundw
      case rel=>exact ⟨i,by omega,rfl,ho3,hb3⟩
      case measure=>simp [intOf]
     ·have hi8':¬ (i:Int) < 8:=by omega
      rw [show bx c i = 0 by rw [bx,if_neg hi8]] at HN
      go_wp2_with (at_builtin;refine wpList_append_sl rfl (.tmp 46) (.tmp 48) 23 rfl w.heap.size 5 _ 1 Tryz.underlying23 inf8 rfl _ L _ rfl (HO.out.alloc _) _ [.int .u8 0] rfl (SlV_one _ _ _) (by simp [Value.oneCell']) (by simp;unfold maxLen;omega) (by simp;omega) (by have:=HB.out.size;simp;omega) ?_)
      intro v3 w3 ho3 hg3
      have hb3:Below w.heap.size w w3:=(HB.out.alloc HB.out.size _).grown hg3 (by have:=HB.out.size;simp;omega) (fun k hk=>(HO.out.lt k hk).1)
      have ho3:w3.ownsRow w.heap.size 5 1 v3 (M + (16 - i)) (C .u8 (P ++ (cnt c).take (16 - i))):=by
       have:=ho3
       rw [show Value.int .u8 0 = .int .u8 ((0:Nat):Int) from rfl,C_snoc,List.append_assoc] at this
       rw [HN.out] at this
       rwa [show M + (16 - i) = L + 1 by omega]
      clear HB HO hg3
      go_wp2
      go_roundw
      case rel=>exact ⟨i,by omega,rfl,ho3,hb3⟩
      case measure=>simp [intOf]
  ·obtain ⟨r,hr⟩:∃ r,M % 128 = r:=⟨_,rfl⟩
   have hmod:(M:Int) % 128 = (r:Int):=by omega
   have hne:((r:Int) == 112) = false:=by simp;omega
   have hj':=nz_go hj (by rw [hM];exact hstop)
   have HB:=Away.mk hb
   have HO:=Away.mk ho
   clear hb ho
   go_wp2_with (at_builtin;refine wpList_append_sl rfl (.tmp 25) (.tmp 26) 23 rfl w.heap.size 5 _ 1 Tryz.underlying23 inf8 rfl _ M _ rfl (HO.out.alloc _) _ [.int .u8 0] rfl (SlV_one _ _ _) (by simp [Value.oneCell']) (by simp;unfold maxLen;omega) (by simp;omega) (by have:=HB.out.size;simp;omega) ?_)
   intro v3 w3 ho3 hg3
   have hb3:Below w.heap.size w w3:=(HB.out.alloc HB.out.size _).grown hg3 (by have:=HB.out.size;simp;omega) (fun k hk=>(HO.out.lt k hk).1)
   have ho3:w3.ownsRow w.heap.size 5 1 v3 (N + 1 + (j + 1)) (C .u8 (xs ++ 128 :: Z (j + 1))):=by
    have:=ho3
    rw [show Value.int .u8 0 = .int .u8 ((0:Nat):Int) from rfl,C_snoc,List.append_assoc,List.cons_append,Z_snoc] at this
    rwa [show N + 1 + (j + 1) = M + 1 by omega]
   obtain ⟨g3,cap3,rfl,_,_,_,_⟩:=own_shape ho3 (by omega)
   clear HB HO hg3
   go_wp2
   refine ⟨⟨j + 1,by omega,ho3,hb3⟩,by simp only [lenS];omega⟩
set_option maxRecDepth 20000 in
set_option maxHeartbeats 1600000 in
theorem refsteps_any (w:World):Calls Tryz.prog 118 #[] w fun e w'=>e = .returned (.slice (some ⟨w.heap.size,0,none⟩) 80 80) ∧ w' = w.alloc (.cells (C .u64 K3L).toArray 30):=by
 go_enter Tryz.func118,Tryz.ntmps118
 go_wp2
 go_ret
 exact ⟨rfl,rfl⟩
theorem or64 (n a b:Nat) (hb:b < 2 ^ n) (h:a * 2 ^ n + b < 18446744073709551616):bits .or .u64 ((a * 2 ^ n:Nat):Int) (b:Int) = ((a * 2 ^ n + b:Nat):Int):=by
 rw [u64_or_nat _ _ (by omega) (by omega),Nat.mul_comm a,Nat.two_pow_add_eq_or_of_lt hb]
set_option maxRecDepth 10000 in
theorem or8 (x0 x1 x2 x3 x4 x5 x6 x7:Nat) (h0:x0 < 256) (h1:x1 < 256) (h2:x2 < 256) (h3:x3 < 256) (h4:x4 < 256) (h5:x5 < 256) (h6:x6 < 256) (h7:x7 < 256) :
  ∃ p0 p1 p2 p3 p4 p5 p6 z1 z2 z3 z4 z5 z6 z7:Nat,z7 = x0 * 72057594037927936 + x1 * 281474976710656 + x2 * 1099511627776 + x3 * 4294967296 + x4 * 16777216 + x5 * 65536 + x6 * 256 + x7 ∧ IntKind.u64.wrap ((x0:Int) * 72057594037927936) = (p0:Int) ∧ IntKind.u64.wrap ((x1:Int) * 281474976710656) = (p1:Int) ∧ IntKind.u64.wrap ((x2:Int) * 1099511627776) = (p2:Int) ∧ IntKind.u64.wrap ((x3:Int) * 4294967296) = (p3:Int) ∧ IntKind.u64.wrap ((x4:Int) * 16777216) = (p4:Int) ∧ IntKind.u64.wrap ((x5:Int) * 65536) = (p5:Int) ∧ IntKind.u64.wrap ((x6:Int) * 256) = (p6:Int) ∧
   bits .or .u64 (p0:Int) (p1:Int) = (z1:Int) ∧ bits .or .u64 (z1:Int) (p2:Int) = (z2:Int) ∧ bits .or .u64 (z2:Int) (p3:Int) = (z3:Int) ∧ bits .or .u64 (z3:Int) (p4:Int) = (z4:Int) ∧ bits .or .u64 (z4:Int) (p5:Int) = (z5:Int) ∧ bits .or .u64 (z5:Int) (p6:Int) = (z6:Int) ∧ bits .or .u64 (z6:Int) (x7:Int) = (z7:Int):=by
 refine ⟨x0 * 72057594037927936,x1 * 281474976710656,x2 * 1099511627776,x3 * 4294967296,x4 * 16777216,x5 * 65536,x6 * 256,x0 * 72057594037927936 + x1 * 281474976710656,x0 * 72057594037927936 + x1 * 281474976710656 + x2 * 1099511627776,x0 * 72057594037927936 + x1 * 281474976710656 + x2 * 1099511627776 + x3 * 4294967296,x0 * 72057594037927936 + x1 * 281474976710656 + x2 * 1099511627776 + x3 * 4294967296 + x4 * 16777216,x0 * 72057594037927936 + x1 * 281474976710656 + x2 * 1099511627776 + x3 * 4294967296 + x4 * 16777216 + x5 * 65536,x0 * 72057594037927936 + x1 * 281474976710656 + x2 * 1099511627776 + x3 * 4294967296 + x4 * 16777216 + x5 * 65536 + x6 * 256,_,rfl,?_,?_,?_,?_,?_,?_,?_,?_,?_,?_,?_,?_,?_,?_⟩
 ·rw [IntKind.wrap_u64];omega
 ·rw [IntKind.wrap_u64];omega
 ·rw [IntKind.wrap_u64];omega
 ·rw [IntKind.wrap_u64];omega
 ·rw [IntKind.wrap_u64];omega
 ·rw [IntKind.wrap_u64];omega
 ·rw [IntKind.wrap_u64];omega
 ·have:=or64 56 (x0) (x1 * 281474976710656) (by omega) (by omega)
  rw [show (2:Nat) ^ 56 = 72057594037927936 from rfl,show (x0) * 72057594037927936 = x0 * 72057594037927936 by omega] at this
  exact this
 ·have:=or64 48 (x0 * 256 + x1) (x2 * 1099511627776) (by omega) (by omega)
  rw [show (2:Nat) ^ 48 = 281474976710656 from rfl,show (x0 * 256 + x1) * 281474976710656 = x0 * 72057594037927936 + x1 * 281474976710656 by omega] at this
  exact this
 ·have:=or64 40 (x0 * 65536 + x1 * 256 + x2) (x3 * 4294967296) (by omega) (by omega)
  rw [show (2:Nat) ^ 40 = 1099511627776 from rfl,show (x0 * 65536 + x1 * 256 + x2) * 1099511627776 = x0 * 72057594037927936 + x1 * 281474976710656 + x2 * 1099511627776 by omega] at this
  exact this
 ·have:=or64 32 (x0 * 16777216 + x1 * 65536 + x2 * 256 + x3) (x4 * 16777216) (by omega) (by omega)
  rw [show (2:Nat) ^ 32 = 4294967296 from rfl,show (x0 * 16777216 + x1 * 65536 + x2 * 256 + x3) * 4294967296 = x0 * 72057594037927936 + x1 * 281474976710656 + x2 * 1099511627776 + x3 * 4294967296 by omega] at this
  exact this
 ·have:=or64 24 (x0 * 4294967296 + x1 * 16777216 + x2 * 65536 + x3 * 256 + x4) (x5 * 65536) (by omega) (by omega)
  rw [show (2:Nat) ^ 24 = 16777216 from rfl,show (x0 * 4294967296 + x1 * 16777216 + x2 * 65536 + x3 * 256 + x4) * 16777216 = x0 * 72057594037927936 + x1 * 281474976710656 + x2 * 1099511627776 + x3 * 4294967296 + x4 * 16777216 by omega] at this
  exact this
 ·have:=or64 16 (x0 * 1099511627776 + x1 * 4294967296 + x2 * 16777216 + x3 * 65536 + x4 * 256 + x5) (x6 * 256) (by omega) (by omega)
  rw [show (2:Nat) ^ 16 = 65536 from rfl,show (x0 * 1099511627776 + x1 * 4294967296 + x2 * 16777216 + x3 * 65536 + x4 * 256 + x5) * 65536 = x0 * 72057594037927936 + x1 * 281474976710656 + x2 * 1099511627776 + x3 * 4294967296 + x4 * 16777216 + x5 * 65536 by omega] at this
  exact this
 ·have:=or64 8 (x0 * 281474976710656 + x1 * 1099511627776 + x2 * 4294967296 + x3 * 16777216 + x4 * 65536 + x5 * 256 + x6) (x7) (by omega) (by omega)
  rw [show (2:Nat) ^ 8 = 256 from rfl,show (x0 * 281474976710656 + x1 * 1099511627776 + x2 * 4294967296 + x3 * 16777216 + x4 * 65536 + x5 * 256 + x6) * 256 = x0 * 72057594037927936 + x1 * 281474976710656 + x2 * 1099511627776 + x3 * 4294967296 + x4 * 16777216 + x5 * 65536 + x6 * 256 by omega] at this
  exact this
theorem wrap8 (x:Nat) (h:x < 256):IntKind.u64.wrap (x:Int) = (x:Int):=by rw [IntKind.wrap_u64];omega
def mixl (s S:S8) (k:Nat):List Nat:=(add3 s S).list.take k ++ S.list.drop k
theorem mixl_length (s S:S8) (k:Nat):(mixl s S k).length = 8:=by simp [mixl,S8.list];omega
theorem mixl_all (s S:S8):mixl s S 8 = (add3 s S).list:=rfl
theorem mixl_get (s S:S8) (k:Nat) (h:k < 8):(mixl s S k).getD k 0 = S.list.getD k 0:=by
 have h':k = 0 ∨ k = 1 ∨ k = 2 ∨ k = 3 ∨ k = 4 ∨ k = 5 ∨ k = 6 ∨ k = 7:=by omega
 rcases h' with rfl | rfl | rfl | rfl | rfl | rfl | rfl | rfl <;> rfl
theorem mixl_succ (s S:S8) (k:Nat) (h:k < 8):(mixl s S k).set k ((s.list.getD k 0 + S.list.getD k 0) % 18446744073709551616) = mixl s S (k + 1):=by
 have h':k = 0 ∨ k = 1 ∨ k = 2 ∨ k = 3 ∨ k = 4 ∨ k = 5 ∨ k = 6 ∨ k = 7:=by omega
 rcases h' with rfl | rfl | rfl | rfl | rfl | rfl | rfl | rfl <;> rfl
theorem sch3_first (b:List Nat) (t:Nat) (h:t < 16):sch3 b (t + 1) = sch3 b t ++ [wd8 b t]:=by rw [sch3,if_pos h]
theorem sch3_next (b:List Nat) (t:Nat) (h:16 ≤ t):sch3 b (t + 1) = sch3 b t ++ [nxt3 (sch3 b t) t]:=by rw [sch3,if_neg (by omega)]
set_option maxRecDepth 10000 in
set_option maxHeartbeats 16000000 in
theorem refblock_any (s:S8) (hs:s.ok) (v:Value) (b:List Nat) (w:World) (hv:SlV w v (C .u8 b)) (hb:Lo 256 b) (hl:b.length = 128) :
  Calls Tryz.prog 90 #[.agg (C .u64 s.list).toArray,v] w fun e w'=>e = .returned (.agg (C .u64 (blk3 s b).list).toArray) ∧ Below w.heap.size w w':=by
 obtain ⟨sa,sc,rfl,h1,h2⟩:=hv.shp hl
 obtain ⟨bb,off,rfl,hbl,hcx⟩:=hv.cells (by rw [C_length];omega)
 have hA:=((Row.new w 86 (C .u64 s.list)).alloc (.cells (C .u64 (Z 8)).toArray 86)).alloc (.cells #[] 30)
 have hB:=(Row.newAt (w.alloc (.cells (C .u64 s.list).toArray 86)) (w.heap.size + 1) (by simp) 86 (C .u64 (Z 8))).alloc (.cells #[] 30)
 have hO:=own_empty_at ((w.alloc (.cells (C .u64 s.list).toArray 86)).alloc (.cells (C .u64 (Z 8)).toArray 86)) (w.heap.size + 1 + 1) (w.heap.size + 1 + 1) 30 (by simp) (by simp)
 have hL0:=Below.more (Below.refl w.heap.size w) (Nat.le_refl _) (.cells (C .u64 s.list).toArray 86)
 have hL1:=Below.more hL0.1 hL0.2 (.cells (C .u64 (Z 8)).toArray 86)
 have hL:=(Below.more hL1.1 hL1.2 (.cells #[] 30)).1
 clear hL0 hL1
 go_enter Tryz.func90,Tryz.ntmps90
 go_wp2_with (refine wpList_alloc_row rfl 86 rfl _ z8 ?_)
 generalize ((w.alloc (.cells (C .u64 s.list).toArray 86)).alloc (.cells (C .u64 (Z 8)).toArray 86)).alloc (.cells #[] 30) = w3 at *
 go_loopw [5,6] (fun v i wr=>∃ k:Nat,k ≤ 80 ∧ i = .int .i64 k ∧ wr.ownsRow (w.heap.size + 1 + 1) 30 1 v k (C .u64 (sch3 b k)) ∧ Row wr w.heap.size 86 (C .u64 s.list) ∧ Row wr (w.heap.size + 1) 86 (C .u64 (Z 8)) ∧ Below w.heap.size w wr) (fun _ i _=>80 - (intOf i).toNat)
 case atStart=>exact ⟨0,Nat.zero_le _,rfl,hO,hA,hB,hL⟩
 case round =>
  clear hO hA hB hL
  obtain ⟨k,hk,rfl,hO,hA,hB,hL⟩:=hrel
  by_cases h16:k < 16
  ·have hc:∀ i,i < 128 → wr.cell? ⟨bb,off + i,none⟩ = some (.int .u8 (b.getD i 0:Nat)):=fun i hi=>by
    have h:=hcx i _ (C_get .u8 (show i < b.length by omega))
    exact (hL.cell (p:=⟨bb,off + i,none⟩) hbl).trans h
   obtain ⟨n0,hn0⟩:∃ n,8 * k = n:=⟨_,rfl⟩
   have c0:=hc n0 (by omega)
   have c1:=hc (n0 + 1) (by omega)
   have c2:=hc (n0 + 2) (by omega)
   have c3:=hc (n0 + 3) (by omega)
   have c4:=hc (n0 + 4) (by omega)
   have c5:=hc (n0 + 5) (by omega)
   have c6:=hc (n0 + 6) (by omega)
   have c7:=hc (n0 + 7) (by omega)
   have x0:=hb.getD (by decide) n0
   have x1:=hb.getD (by decide) (n0 + 1)
   have x2:=hb.getD (by decide) (n0 + 2)
   have x3:=hb.getD (by decide) (n0 + 3)
   have x4:=hb.getD (by decide) (n0 + 4)
   have x5:=hb.getD (by decide) (n0 + 5)
   have x6:=hb.getD (by decide) (n0 + 6)
   have x7:=hb.getD (by decide) (n0 + 7)
   have HW:Away (wd8 b k = b.getD n0 0 * 72057594037927936 + b.getD (n0 + 1) 0 * 281474976710656 + b.getD (n0 + 2) 0 * 1099511627776 + b.getD (n0 + 3) 0 * 4294967296 + b.getD (n0 + 4) 0 * 16777216 + b.getD (n0 + 5) 0 * 65536 + b.getD (n0 + 6) 0 * 256 + b.getD (n0 + 7) 0):=⟨by rw [← hn0];rfl⟩
   generalize b.getD n0 0 = y0 at *
   generalize b.getD (n0 + 1) 0 = y1 at *
   generalize b.getD (n0 + 2) 0 = y2 at *
   generalize b.getD (n0 + 3) 0 = y3 at *
   generalize b.getD (n0 + 4) 0 = y4 at *
   generalize b.getD (n0 + 5) 0 = y5 at *
   generalize b.getD (n0 + 6) 0 = y6 at *
   generalize b.getD (n0 + 7) 0 = y7 at *
   obtain ⟨p0,p1,p2,p3,p4,p5,p6,z1,z2,z3,z4,z5,z6,z7,hz,r0,r1,r2,r3,r4,r5,r6,o1,o2,o3,o4,o5,o6,o7⟩:=or8 y0 y1 y2 y3 y4 y5 y6 y7 x0 x1 x2 x3 x4 x5 x6 x7
   have vv0:=wrap8 y0 x0
   have vv1:=wrap8 y1 x1
   have vv2:=wrap8 y2 x2
   have vv3:=wrap8 y3 x3
   have vv4:=wrap8 y4 x4
   have vv5:=wrap8 y5 x5
   have vv6:=wrap8 y6 x6
   have vv7:=wrap8 y7 x7
   rw [← hz] at HW
   obtain ⟨n1,hn1⟩:∃ n,n0 + 1 = n:=⟨_,rfl⟩
   obtain ⟨n2,hn2⟩:∃ n,n0 + 2 = n:=⟨_,rfl⟩
   obtain ⟨n3,hn3⟩:∃ n,n0 + 3 = n:=⟨_,rfl⟩
   obtain ⟨n4,hn4⟩:∃ n,n0 + 4 = n:=⟨_,rfl⟩
   obtain ⟨n5,hn5⟩:∃ n,n0 + 5 = n:=⟨_,rfl⟩
   obtain ⟨n6,hn6⟩:∃ n,n0 + 6 = n:=⟨_,rfl⟩
   obtain ⟨n7,hn7⟩:∃ n,n0 + 7 = n:=⟨_,rfl⟩
   rw [hn1] at c1;rw [hn2] at c2;rw [hn3] at c3;rw [hn4] at c4;rw [hn5] at c5;rw [hn6] at c6;rw [hn7] at c7
   have d0:IntKind.i64.wrap (8 * (k:Int)) = (n0:Int):=by rw [IntWalk.i64_in _ ⟨by omega,by omega⟩];omega
   have dz:IntKind.i64.wrap (n0:Int) = (n0:Int):=by rw [IntWalk.i64_in _ ⟨by omega,by omega⟩]
   have d1:IntKind.i64.wrap ((n0:Int) + 1) = (n1:Int):=by rw [IntWalk.i64_in _ ⟨by omega,by omega⟩];omega
   have d2:IntKind.i64.wrap ((n0:Int) + 2) = (n2:Int):=by rw [IntWalk.i64_in _ ⟨by omega,by omega⟩];omega
   have d3:IntKind.i64.wrap ((n0:Int) + 3) = (n3:Int):=by rw [IntWalk.i64_in _ ⟨by omega,by omega⟩];omega
   have d4:IntKind.i64.wrap ((n0:Int) + 4) = (n4:Int):=by rw [IntWalk.i64_in _ ⟨by omega,by omega⟩];omega
   have d5:IntKind.i64.wrap ((n0:Int) + 5) = (n5:Int):=by rw [IntWalk.i64_in _ ⟨by omega,by omega⟩];omega
   have d6:IntKind.i64.wrap ((n0:Int) + 6) = (n6:Int):=by rw [IntWalk.i64_in _ ⟨by omega,by omega⟩];omega
   have d7:IntKind.i64.wrap ((n0:Int) + 7) = (n7:Int):=by rw [IntWalk.i64_in _ ⟨by omega,by omega⟩];omega
   have b0:(n0:Int) < 128:=by omega
   have b1:(n1:Int) < 128:=by omega
   have b2:(n2:Int) < 128:=by omega
   have b3:(n3:Int) < 128:=by omega
   have b4:(n4:Int) < 128:=by omega
   have b5:(n5:Int) < 128:=by omega
   have b6:(n6:Int) < 128:=by omega
   have b7:(n7:Int) < 128:=by omega
   have h16i:(k:Int) < 16:=by omega
   have h64i:(k:Int) < 80:=by omega
   clear hn0 hn1 hn2 hn3 hn4 hn5 hn6 hn7 hz hc
   have HO:=Away.mk hO
   have HL:=Away.mk hL
   have HA:=Away.mk hA
   have HB:=Away.mk hB
   clear hO hL hA hB
   go_wp2
   have hsz:=HL.out.size
   have hcw:∀ (n y:Nat),wr.cell? ⟨bb,off + n,none⟩ = some (.int .u8 (y:Int)) → w.cell? ⟨bb,off + n,none⟩ = some (.int .u8 (y:Int)):=fun n y h=>(HL.out.cell (p:=⟨bb,off + n,none⟩) hbl).symm.trans h
   have HW':=Away.mk hcw
   clear hcw
   have hone:(wr.alloc (.cells #[.int .u64 (z7:Int)] 30)).drew.cell? ⟨wr.heap.size,0,none⟩ = some (.int .u64 (z7:Int)):=by simp [go_sem]
   have q1:k + 1 ≤ maxLen:=by unfold maxLen;omega
   have q2:(k + 1) * 8 ≤ 140737488355328:=by omega
   have q3:w.heap.size + 1 + 1 ≤ ((wr.alloc (.cells #[.int .u64 (z7:Int)] 30)).drew).heap.size:=by have:=HB.out.lt;simp;omega
   have HO1:Away (((wr.alloc (.cells #[.int .u64 (z7:Int)] 30)).drew).ownsRow (w.heap.size + 1 + 1) 30 1 u5 k (C .u64 (sch3 b k))):=⟨World.ownsRow.drew (HO.out.alloc _)⟩
   have hnA:∀ g,g < w.heap.size + 1 + 1 → some g ≠ u5.ownBlock:=fun g hg he=>by have:=(HO.out.lt g he.symm).1;omega
   have HRA:Away (∀ w4,((wr.alloc (.cells #[.int .u64 (z7:Int)] 30)).drew).grownBy w4 u5.ownBlock → Row w4 w.heap.size 86 (C .u64 s.list) ∧ Row w4 (w.heap.size + 1) 86 (C .u64 (Z 8))):=⟨fun w4 hg=>⟨((HA.out.alloc _).drew).grown hg (hnA _ (by omega)),((HB.out.alloc _).drew).grown hg (hnA _ (by omega))⟩⟩
   clear hnA
   have HG:Away (∀ w4,((wr.alloc (.cells #[.int .u64 (z7:Int)] 30)).drew).grownBy w4 u5.ownBlock → Below w.heap.size w w4):=⟨fun w4 hg=>((HL.out.alloc hsz _).drew).grown hg (by simp;omega) (fun k hk=>by have:=(HO.out.lt k hk).1;omega)⟩
   simp only [List.append_eq,List.cons_append,List.nil_append]
   go_region_held3 (fun w'=>w'.cell? ⟨bb,off + n0,none⟩ = some (.int .u8 (y0:Int)) ∧ w'.cell? ⟨bb,off + n1,none⟩ = some (.int .u8 (y1:Int)) ∧ w'.cell? ⟨bb,off + n2,none⟩ = some (.int .u8 (y2:Int)) ∧ w'.cell? ⟨bb,off + n3,none⟩ = some (.int .u8 (y3:Int)) ∧ w'.cell? ⟨bb,off + n4,none⟩ = some (.int .u8 (y4:Int)) ∧ w'.cell? ⟨bb,off + n5,none⟩ = some (.int .u8 (y5:Int)) ∧ w'.cell? ⟨bb,off + n6,none⟩ = some (.int .u8 (y6:Int)) ∧ w'.cell? ⟨bb,off + n7,none⟩ = some (.int .u8 (y7:Int)))
    (first | exact ⟨c0,c1,c2,c3,c4,c5,c6,c7⟩ | exact ⟨cell_alloc c0 _,cell_alloc c1 _,cell_alloc c2 _,cell_alloc c3 _,cell_alloc c4 _,cell_alloc c5 _,cell_alloc c6 _,cell_alloc c7 _⟩ | exact ⟨f0,f1,f2,f3,f4,f5,f6,f7⟩)
    ((refine step_append_one (by rfl) (.tmp 26) (.tmp 97) 103 (by rfl) (w.heap.size + 1 + 1) 30 _ 8 Tryz.underlying103 inf64r rfl _ k _ (by rfl) HO1.out _ _ (.int .u64 (z7:Int)) (by rfl) hone rfl q1 q2 q3 ?_;intro v4 w4 ho4 hg4 hk4;have hb4:=HG.out _ hg4;have f0:=(hb4.cell (p:=⟨bb,off + n0,none⟩) hbl).trans (HW'.out _ _ c0);have f1:=(hb4.cell (p:=⟨bb,off + n1,none⟩) hbl).trans (HW'.out _ _ c1);have f2:=(hb4.cell (p:=⟨bb,off + n2,none⟩) hbl).trans (HW'.out _ _ c2);have f3:=(hb4.cell (p:=⟨bb,off + n3,none⟩) hbl).trans (HW'.out _ _ c3);have f4:=(hb4.cell (p:=⟨bb,off + n4,none⟩) hbl).trans (HW'.out _ _ c4);have f5:=(hb4.cell (p:=⟨bb,off + n5,none⟩) hbl).trans (HW'.out _ _ c5);have f6:=(hb4.cell (p:=⟨bb,off + n6,none⟩) hbl).trans (HW'.out _ _ c6);have f7:=(hb4.cell (p:=⟨bb,off + n7,none⟩) hbl).trans (HW'.out _ _ c7)))
   obtain ⟨hA4,hB4⟩:=HRA.out _ hg4
   have ho4':w4.ownsRow (w.heap.size + 1 + 1) 30 1 v4 (k + 1) (C .u64 (sch3 b (k + 1))):=by
    rw [sch3_first b k h16,← C_snoc,HW.out];exact ho4
   clear hk4 q1 q2 q3 HRA HG HO1 HO HL HA HB hone HW' hg4 ho4 f0 f1 f2 f3 f4 f5 f6 f7 c0 c1 c2 c3 c4 c5 c6 c7 vv0 vv1 vv2 vv3 vv4 vv5 vv6 vv7 d0 d1 d2 d3 d4 d5 d6 d7 dz r0 r1 r2 r3 r4 r5 r6 o1 o2 o3 o4 o5 o6 o7
   have G1:=Away.mk ho4'
   have G2:=Away.mk hA4
   have G3:=Away.mk hB4
   have G4:=Away.mk hb4
   clear ho4' hA4 hB4 hb4 hcx hv x0 x1 x2 x3 x4 x5 x6 x7 b0 b1 b2 b3 b4 b5 b6 b7 hsz
   go_wp2
   go_roundw
   case rel=>exact ⟨k + 1,by omega,by go_num,G1.out,G2.out,G3.out,G4.out⟩
   case measure=>simp [intOf];omega
  ·by_cases h64:k < 80
   ·have hlS:=sch3_length b k
    obtain ⟨g,cap,rfl,hbg,hgl,hnc,hcm⟩:=own_shape hO (by omega)
    have hg:∀ j,1 ≤ j → j ≤ 16 → wr.cell? ⟨g,k - j,none⟩ = some (.int .u64 ((sch3 b k).getD (k - j) 0:Nat)):=by
     intro j h1 h16
     rw [hO.cellAt (k - j) (by omega),C_get .u64 (by omega)]
    have hgx:∀ j,1 ≤ j → j ≤ 16 → (C .u64 (sch3 b k))[k - j]? = some (.int .u64 ((sch3 b k).getD (k - j) 0:Nat)):=fun j h1 h16=>C_get .u64 (by omega)
    have c2:=hg 2 (by decide) (by decide)
    have c7:=hg 7 (by decide) (by decide)
    have c15:=hg 15 (by decide) (by decide)
    have c16:=hg 16 (by decide) (by decide)
    have E7:=Away.mk (hgx 7 (by decide) (by decide))
    have E16:=Away.mk (hgx 16 (by decide) (by decide))
    have hlo:=(sch3_lo hb k).getD (by decide)
    have l2:=hlo (k - 2)
    have l7:=hlo (k - 7)
    have l15:=hlo (k - 15)
    have l16:=hlo (k - 16)
    have HN:Away (nxt3 (sch3 b k) k = (spr 19 61 6 ((sch3 b k).getD (k - 2) 0) + (sch3 b k).getD (k - 7) 0 + spr 1 8 7 ((sch3 b k).getD (k - 15) 0) + (sch3 b k).getD (k - 16) 0) % 18446744073709551616):=⟨rfl⟩
    clear hg hgx hlo
    generalize (sch3 b k).getD (k - 2) 0 = x2 at *
    generalize (sch3 b k).getD (k - 7) 0 = x7 at *
    generalize (sch3 b k).getD (k - 15) 0 = x15 at *
    generalize (sch3 b k).getD (k - 16) 0 = x16 at *
    have r15a:=refturn_any x15 1 l15 (by decide)
    have r15b:=refturn_any x15 8 l15 (by decide)
    have o15a:=u64_xor_nat (ror 1 x15) (ror 8 x15) (ror_lt l15 _) (ror_lt l15 _)
    have o15b:=u64_xor_nat (ror 1 x15 ^^^ ror 8 x15) (x15 / 2 ^ 7) (xor_lt64 (ror_lt l15 _) (ror_lt l15 _)) (shr_lt64 l15 _)
    have es15:ror 1 x15 ^^^ ror 8 x15 ^^^ (x15 / 2 ^ 7) = spr 1 8 7 x15:=rfl
    rw [es15] at o15b
    have ey15:(x15:Int) / 128 = ((x15 / 2 ^ 7:Nat):Int):=by simp
    have ls15:=spr_lt l15 1 8 7
    generalize spr 1 8 7 x15 = s15 at *
    generalize ror 1 x15 = p15 at *
    generalize ror 8 x15 = q15 at *
    generalize x15 / 2 ^ 7 = d15 at *
    clear es15
    have r2a:=refturn_any x2 19 l2 (by decide)
    have r2b:=refturn_any x2 61 l2 (by decide)
    have o2a:=u64_xor_nat (ror 19 x2) (ror 61 x2) (ror_lt l2 _) (ror_lt l2 _)
    have o2b:=u64_xor_nat (ror 19 x2 ^^^ ror 61 x2) (x2 / 2 ^ 6) (xor_lt64 (ror_lt l2 _) (ror_lt l2 _)) (shr_lt64 l2 _)
    have es2:ror 19 x2 ^^^ ror 61 x2 ^^^ (x2 / 2 ^ 6) = spr 19 61 6 x2:=rfl
    rw [es2] at o2b
    have ey2:(x2:Int) / 64 = ((x2 / 2 ^ 6:Nat):Int):=by simp
    have ls2:=spr_lt l2 19 61 6
    generalize spr 19 61 6 x2 = s2 at *
    generalize ror 19 x2 = p2 at *
    generalize ror 61 x2 = q2 at *
    generalize x2 / 2 ^ 6 = d2 at *
    clear es2
    obtain ⟨z,hz⟩:∃ z,(s2 + x7 + s15 + x16) % 18446744073709551616 = z:=⟨_,rfl⟩
    rw [hz] at HN
    obtain ⟨y1,e1,y2,e2,e3⟩:∃ y1:Nat,IntKind.u64.wrap ((s2:Int) + (x7:Int)) = (y1:Int) ∧ ∃ y2:Nat,IntKind.u64.wrap ((y1:Int) + (s15:Int)) = (y2:Int) ∧ IntKind.u64.wrap ((y2:Int) + (x16:Int)) = (z:Int) :=
     ⟨(s2 + x7) % 18446744073709551616,by rw [IntKind.wrap_u64];omega,((s2 + x7) % 18446744073709551616 + s15) % 18446744073709551616,by rw [IntKind.wrap_u64];omega,by rw [IntKind.wrap_u64];omega⟩
    clear hz
    obtain ⟨n2,f2,b2,w2⟩:∃ n:Nat,k - 2 = n ∧ (n:Int) < (k:Int) ∧ IntKind.i64.wrap ((k:Int) - 2) = (n:Int):=⟨k - 2,rfl,by omega,by rw [IntWalk.i64_in _ ⟨by omega,by omega⟩];omega⟩
    obtain ⟨n7,f7,b7,w7⟩:∃ n:Nat,k - 7 = n ∧ (n:Int) < (k:Int) ∧ IntKind.i64.wrap ((k:Int) - 7) = (n:Int):=⟨k - 7,rfl,by omega,by rw [IntWalk.i64_in _ ⟨by omega,by omega⟩];omega⟩
    obtain ⟨n15,f15,b15,w15⟩:∃ n:Nat,k - 15 = n ∧ (n:Int) < (k:Int) ∧ IntKind.i64.wrap ((k:Int) - 15) = (n:Int):=⟨k - 15,rfl,by omega,by rw [IntWalk.i64_in _ ⟨by omega,by omega⟩];omega⟩
    obtain ⟨n16,f16,b16,w16⟩:∃ n:Nat,k - 16 = n ∧ (n:Int) < (k:Int) ∧ IntKind.i64.wrap ((k:Int) - 16) = (n:Int):=⟨k - 16,rfl,by omega,by rw [IntWalk.i64_in _ ⟨by omega,by omega⟩];omega⟩
    rw [f2] at c2;rw [f7] at c7 E7;rw [f15] at c15;rw [f16] at c16 E16
    clear f2 l2 f7 l7 f15 l15 f16 l16
    have h64i:(k:Int) < 80:=by omega
    have h16i:¬ (k:Int) < 16:=by omega
    have HO:=Away.mk hO
    have HL:=Away.mk hL
    have HA:=Away.mk hA
    have HB:=Away.mk hB
    clear hO hL hA hB
    go_wp2_with fail
    go_quiet (fail)
    obtain ⟨wq,hwq⟩:∃ wq:World,wr.drewN nq = wq:=⟨_,rfl⟩
    rw [hwq]
    have HO:Away (wq.ownsRow (w.heap.size + 1 + 1) 30 1 (.slice (some ⟨g,0,none⟩) k cap) k (C .u64 (sch3 b k))):=⟨by rw [← hwq];exact HO.out⟩
    have HL:Away (Below w.heap.size w wq):=⟨by rw [← hwq];exact below_drewN HL.out nq⟩
    have HA:Away (Row wq w.heap.size 86 (C .u64 s.list)):=⟨by rw [← hwq];exact HA.out⟩
    have HB:Away (Row wq (w.heap.size + 1) 86 (C .u64 (Z 8))):=⟨by rw [← hwq];exact HB.out⟩
    have c7:wq.cell? ⟨g,n7,none⟩ = some (.int .u64 (x7:Int)):=by rw [← hwq];exact c7
    have c16:wq.cell? ⟨g,n16,none⟩ = some (.int .u64 (x16:Int)):=by rw [← hwq];exact c16
    clear hwq c2 c15
    go_wp2_with fail
    refine (r15a _).mono ?_
    rintro _ w' ⟨rfl,rfl⟩
    go_wp2_with fail
    refine (r15b _).mono ?_
    rintro _ w' ⟨rfl,rfl⟩
    go_wp2_with fail
    refine (r2a _).mono ?_
    rintro _ w' ⟨rfl,rfl⟩
    go_wp2_with fail
    refine (r2b _).mono ?_
    rintro _ w' ⟨rfl,rfl⟩
    go_upto_region 10 with fail
    have hone:(wq.alloc (.cells #[.int .u64 (z:Int)] 30)).drew.cell? ⟨wq.heap.size,0,none⟩ = some (.int .u64 (z:Int)):=by simp [go_sem]
    have q1:k + 1 ≤ maxLen:=by unfold maxLen;omega
    have q2:(k + 1) * 8 ≤ 140737488355328:=by omega
    have q3:w.heap.size + 1 + 1 ≤ ((wq.alloc (.cells #[.int .u64 (z:Int)] 30)).drew).heap.size:=by have:=HB.out.lt;simp;omega
    have HO1:Away (((wq.alloc (.cells #[.int .u64 (z:Int)] 30)).drew).ownsRow (w.heap.size + 1 + 1) 30 1 (.slice (some ⟨g,0,none⟩) k cap) k (C .u64 (sch3 b k))):=⟨World.ownsRow.drew (HO.out.alloc _)⟩
    have HRA:Away (∀ w4,((wq.alloc (.cells #[.int .u64 (z:Int)] 30)).drew).grownBy w4 (some g) → Row w4 w.heap.size 86 (C .u64 s.list) ∧ Row w4 (w.heap.size + 1) 86 (C .u64 (Z 8)) ∧ Below w.heap.size w w4):=⟨fun w4 hg=>⟨((HA.out.alloc _).drew).grown hg (by simp;omega),((HB.out.alloc _).drew).grown hg (by simp;omega),((HL.out.alloc HL.out.size _).drew).grown hg (by have:=HL.out.size;simp;omega) (fun k hk=>by simp only [Option.some.injEq] at hk;omega)⟩⟩
    clear o15a o15b o2a o2b r15a r15b r2a r2b ey2 ey15
    go_region_held3 (fun w'=>w'.cell? ⟨g,n7,none⟩ = some (.int .u64 (x7:Int)) ∧ w'.cell? ⟨g,n16,none⟩ = some (.int .u64 (x16:Int)))
     (first | exact ⟨c7,c16⟩ | exact ⟨cell_alloc c7 _,cell_alloc c16 _⟩ | exact ⟨f0,f1⟩)
     (first | (refine step_append_one (by rfl) (.tmp 125) (.tmp 141) 103 (by rfl) (w.heap.size + 1 + 1) 30 _ 8 Tryz.underlying103 inf64r rfl _ k _ (by rfl) HO1.out _ _ (.int .u64 (z:Int)) (by rfl) hone rfl q1 q2 q3 ?_;intro v4 w4 ho4 hg4 hk4;have f0:=hk4 g cap rfl _ _ E7.out;have f1:=hk4 g cap rfl _ _ E16.out))
    obtain ⟨hA4,hB4,hb4⟩:=HRA.out _ hg4
    have ho4':w4.ownsRow (w.heap.size + 1 + 1) 30 1 v4 (k + 1) (C .u64 (sch3 b (k + 1))):=by
     rw [sch3_next b k (by omega),← C_snoc,HN.out];exact ho4
    have G1:=Away.mk ho4'
    have G2:=Away.mk hA4
    have G3:=Away.mk hB4
    have G4:=Away.mk hb4
    clear ho4' hA4 hB4 hb4 hcx hv hk4 q1 q2 q3 HRA HO1 HO HL HA HB hone hg4 ho4 f0 f1 c7 c16 E7 E16 w2 w7 w15 w16 b2 b7 b15 b16 e1 e2 e3
    go_wp2
    go_roundw
    case rel=>exact ⟨k + 1,by omega,by go_num,G1.out,G2.out,G3.out,G4.out⟩
    case measure=>simp [intOf];omega
   ·have HK64:Away (k = 80):=⟨by omega⟩
    have hlW:(sch3 b k).length = k:=sch3_length b k
    have hWlo:=sch3_lo hb k
    have hkE:sch3 b k = sch3 b 80:=by rw [HK64.out]
    obtain ⟨g,cap,rfl,hbg,hgl,hnc,hcm⟩:=own_shape hO (by omega)
    have hWs:SlV wr (.slice (some ⟨g,0,none⟩) k cap) (C .u64 (sch3 b 80)):=by rw [← hkE];exact SlV.ofOwn hO
    rw [hkE] at hlW hWlo
    have HBk:Away (blk3 s b = add3 s (stps3 (sch3 b 80) s 80)):=⟨rfl⟩
    generalize sch3 b 80 = W at *
    have h64i:¬ (k:Int) < 80:=by omega
    have i5s:(Tryz.prog.info? 86).map (·.size) = some (C .u64 s.list).toArray.size:=i8
    have i5l:(Tryz.prog.info? 86).map (·.size) = some (C .u64 s.list).length:=i8
    have h55:(C .u64 (Z 8)).length = (C .u64 s.list).length:=rfl
    clear hO hkE hcx hv
    go_wp2_with fail
    refine (refsteps_any _).mono ?_
    rintro _ w1 ⟨rfl,rfl⟩
    have hAlt:=hA.lt
    have hBlt:=hB.lt
    have hKr:=Row.new wr 30 (C .u64 K3L)
    have hA:=hA.alloc (.cells (C .u64 K3L).toArray 30)
    have hB:=hB.alloc (.cells (C .u64 K3L).toArray 30)
    have hWs:=hWs.below ((Below.refl wr.heap.size wr).alloc (Nat.le_refl _) (.cells (C .u64 K3L).toArray 30))
    have hL:=(Below.more hL hL.size (.cells (C .u64 K3L).toArray 30)).1
    obtain ⟨gk,hgk⟩:∃ gk,wr.heap.size = gk:=⟨_,rfl⟩
    rw [hgk] at hKr hAlt hBlt hgl ⊢
    generalize wr.alloc (.cells (C .u64 K3L).toArray 30) = wk at *
    clear hgk
    have hN1:=Row.new wk 86 (C .u64 (Z 8))
    have hL1:=Below.more hL hL.size (.cells (C .u64 (Z 8)).toArray 86)
    have hA1:=hA.alloc (.cells (C .u64 (Z 8)).toArray 86)
    have hB1:=hB.alloc (.cells (C .u64 (Z 8)).toArray 86)
    have hK1:=hKr.alloc (.cells (C .u64 (Z 8)).toArray 86)
    have hW1:=hWs.below ((Below.refl wk.heap.size wk).alloc (Nat.le_refl _) (.cells (C .u64 (Z 8)).toArray 86))
    go_upto_region 13 with (first | refine wpList_load_row rfl 86 _ rfl _ rfl _ _ _ _ hA Tryz.underlying86 rfl i5s ?_ | refine wpList_alloc_row rfl 86 rfl _ z8 ?_ | (refine wpList_store_R rfl 86 _ _ rfl _ (C .u64 s.list) rfl rfl hN1 i5l h55 (C_allL _ _) ?_;intro w5 hV5 hg5 hz5))
    have hklt:=hKr.lt
    have hA5:=hA1.grown hg5 (by simp <;> omega)
    have hB5:=hB1.grown hg5 (by simp <;> omega)
    have hK5:=hK1.grown hg5 (by simp <;> omega)
    have hL5:=below_grown hL1.1 hg5 hL.size hN1.lt
    have hW5:=hW1.grown hg5 (fun b hb=>by simp [Value.ownBlock] at hb;subst hb;simp;omega)
    obtain ⟨gv,hgv⟩:∃ gv,wk.heap.size = gv:=⟨_,rfl⟩
    simp only [Act.put,List.setIfInBounds_toArray,List.set_cons_zero,List.set_cons_succ]
    rw [hgv] at hV5 hklt ⊢
    clear hN1 hL1 hA1 hB1 hK1 hW1 hg5 hz5 hA hB hKr hL hWs hgv
    go_wp2
    go_loopw [13] (fun i wx=>∃ t:Nat,t ≤ 80 ∧ i = .int .i64 t ∧ Row wx gv 86 (C .u64 (stps3 W s t).list) ∧ Row wx w.heap.size 86 (C .u64 s.list) ∧ Row wx (w.heap.size + 1) 86 (C .u64 (Z 8)) ∧ Row wx gk 30 (C .u64 K3L) ∧ SlV wx (.slice (some ⟨g,0,none⟩) k cap) (C .u64 W) ∧ Below w.heap.size w wx) (fun i _=>80 - (intOf i).toNat)
    case atStart=>exact ⟨0,Nat.zero_le _,rfl,hV5,hA5,hB5,hK5,hW5,hL5⟩
    case round =>
     clear hV5 hA5 hB5 hK5 hW5 hL5
     obtain ⟨t,ht,rfl,hV,hA,hB,hKr,hWs,hL⟩:=hrel
     have HT:Away (stps3 W s (t + 1) = stp3 t (W.getD t 0) (stps3 W s t)):=⟨rfl⟩
     obtain ⟨q1,q2,q3,q4,q5,q6,q7,q8⟩:=stps3_ok (ws:=W) hs t
     by_cases hlt:t < 80
     ·have htk:(t:Int) < (k:Int):=by have:=HK64.out;omega
      have hct:=hWs.cellAt (C_get .u64 (show t < W.length by omega))
      rw [Nat.zero_add] at hct
      have hkt:=hKr.cell t
      rw [C_get .u64 (by rw [K3L_length];exact hlt),show K3L.getD t 0 = K3 t from rfl] at hkt
      have hkl:=K3_lt t
      have hx:=hWlo.getD (by decide) t
      generalize W.getD t 0 = x at *
      generalize stps3 W s t = S at *
      obtain ⟨a,b',c,d,e,f,gg,hh⟩:=S
      simp only at *
      have hlti:(t:Int) < 80:=by omega
      have te14:∀ w:World,Calls Tryz.prog 117 #[.int .u64 (e:Int),.int .u64 14] w fun r w'=>r = .returned (.int .u64 (ror 14 e:Nat)) ∧ w' = w:=fun w=>(refturn_any e 14 q5 (by decide) w).mono (fun r w' h=>⟨h.1,h.2.symm⟩)
      have te18:∀ w:World,Calls Tryz.prog 117 #[.int .u64 (e:Int),.int .u64 18] w fun r w'=>r = .returned (.int .u64 (ror 18 e:Nat)) ∧ w' = w:=fun w=>(refturn_any e 18 q5 (by decide) w).mono (fun r w' h=>⟨h.1,h.2.symm⟩)
      have te41:∀ w:World,Calls Tryz.prog 117 #[.int .u64 (e:Int),.int .u64 41] w fun r w'=>r = .returned (.int .u64 (ror 41 e:Nat)) ∧ w' = w:=fun w=>(refturn_any e 41 q5 (by decide) w).mono (fun r w' h=>⟨h.1,h.2.symm⟩)
      have ye1:=u64_xor_nat (ror 14 e) (ror 18 e) (ror_lt q5 _) (ror_lt q5 _)
      have ye2:=u64_xor_nat (ror 14 e ^^^ ror 18 e) (ror 41 e) (xor_lt64 (ror_lt q5 _) (ror_lt q5 _)) (ror_lt q5 _)
      have ye3:ror 14 e ^^^ ror 18 e ^^^ ror 41 e = tri 14 18 41 e:=rfl
      rw [ye3] at ye2
      have yel:=tri_lt q5 14 18 41
      clear ye3
      have ta28:∀ w:World,Calls Tryz.prog 117 #[.int .u64 (a:Int),.int .u64 28] w fun r w'=>r = .returned (.int .u64 (ror 28 a:Nat)) ∧ w' = w:=fun w=>(refturn_any a 28 q1 (by decide) w).mono (fun r w' h=>⟨h.1,h.2.symm⟩)
      have ta34:∀ w:World,Calls Tryz.prog 117 #[.int .u64 (a:Int),.int .u64 34] w fun r w'=>r = .returned (.int .u64 (ror 34 a:Nat)) ∧ w' = w:=fun w=>(refturn_any a 34 q1 (by decide) w).mono (fun r w' h=>⟨h.1,h.2.symm⟩)
      have ta39:∀ w:World,Calls Tryz.prog 117 #[.int .u64 (a:Int),.int .u64 39] w fun r w'=>r = .returned (.int .u64 (ror 39 a:Nat)) ∧ w' = w:=fun w=>(refturn_any a 39 q1 (by decide) w).mono (fun r w' h=>⟨h.1,h.2.symm⟩)
      have ya1:=u64_xor_nat (ror 28 a) (ror 34 a) (ror_lt q1 _) (ror_lt q1 _)
      have ya2:=u64_xor_nat (ror 28 a ^^^ ror 34 a) (ror 39 a) (xor_lt64 (ror_lt q1 _) (ror_lt q1 _)) (ror_lt q1 _)
      have ya3:ror 28 a ^^^ ror 34 a ^^^ ror 39 a = tri 28 34 39 a:=rfl
      rw [ya3] at ya2
      have yal:=tri_lt q1 28 34 39
      clear ya3
      have o1:=u64_and_nat e f q5 q6
      have o2:bits .xor .u64 (e:Int) 18446744073709551615 = ((e ^^^ 18446744073709551615:Nat):Int):=u64_xor_nat e 18446744073709551615 q5 (by decide)
      have o3:=u64_and_nat (e ^^^ 18446744073709551615) gg (xor_lt64 q5 (by decide)) q7
      have o4:=u64_xor_nat (e &&& f) ((e ^^^ 18446744073709551615) &&& gg) (and_lt64 q5) (and_lt64 (xor_lt64 q5 (by decide)))
      have lc:=ch3_lt (f:=f) (g:=gg) q5
      have ec:(e &&& f) ^^^ ((e ^^^ 18446744073709551615) &&& gg) = ch3 e f gg:=rfl
      rw [ec] at o4
      have p1:=u64_and_nat a b' q1 q2
      have p2:=u64_and_nat a c q1 q3
      have p3:=u64_and_nat b' c q2 q3
      have p4:=u64_xor_nat (a &&& b') (a &&& c) (and_lt64 q1) (and_lt64 q1)
      have p5:=u64_xor_nat ((a &&& b') ^^^ (a &&& c)) (b' &&& c) (xor_lt64 (and_lt64 q1) (and_lt64 q1)) (and_lt64 q2)
      have lm:=mj3_lt (c:=c) q1 q2
      have em:(a &&& b') ^^^ (a &&& c) ^^^ (b' &&& c) = mj3 a b' c:=rfl
      rw [em] at p5
      obtain ⟨t1,ht1⟩:∃ t1,t1f t x ⟨a,b',c,d,e,f,gg,hh⟩ = t1:=⟨_,rfl⟩
      obtain ⟨t2,ht2⟩:∃ t2,t2f ⟨a,b',c,d,e,f,gg,hh⟩ = t2:=⟨_,rfl⟩
      have HS:Away (C .u64 (stps3 W s (t + 1)).list = [.int .u64 (IntKind.u64.wrap ((t1:Int) + t2)),.int .u64 a,.int .u64 b',.int .u64 c,.int .u64 (IntKind.u64.wrap ((d:Int) + t1)),.int .u64 e,.int .u64 f,.int .u64 gg]):=⟨by rw [HT.out,stp3,ht1,ht2];simp [C,S8.list,IntKind.wrap_u64]⟩
      simp only [t1f] at ht1
      simp only [t2f] at ht2
      have lt1:t1 < 18446744073709551616:=by rw [← ht1];exact mod_lt64 _
      generalize tri 14 18 41 e = ye at *
      generalize tri 28 34 39 a = ya at *
      generalize ch3 e f gg = cc at *
      generalize mj3 a b' c = mm at *
      generalize K3 t = kk at *
      obtain ⟨m1,e1,m2,e2,m3,e3,e4⟩:∃ m1:Nat,IntKind.u64.wrap ((hh:Int) + (ye:Int)) = (m1:Int) ∧ ∃ m2:Nat,IntKind.u64.wrap ((m1:Int) + (cc:Int)) = (m2:Int) ∧ ∃ m3:Nat,IntKind.u64.wrap ((m2:Int) + (kk:Int)) = (m3:Int) ∧ IntKind.u64.wrap ((m3:Int) + (x:Int)) = (t1:Int):=by
       refine ⟨(hh + ye) % 18446744073709551616,by rw [IntKind.wrap_u64];omega,((hh + ye) % 18446744073709551616 + cc) % 18446744073709551616,by rw [IntKind.wrap_u64];omega,(((hh + ye) % 18446744073709551616 + cc) % 18446744073709551616 + kk) % 18446744073709551616,by rw [IntKind.wrap_u64];omega,by rw [IntKind.wrap_u64];omega⟩
      have e5:IntKind.u64.wrap ((ya:Int) + (mm:Int)) = (t2:Int):=by rw [IntKind.wrap_u64];omega
      clear ht1 ht2 HT ec em
      have hV:Row wr gv 86 (C .u64 [a,b',c,d,e,f,gg,hh]):=hV
      obtain ⟨c0,c1,c2,c3,c4,c5,c6,c7⟩:=eight_cells (s:=⟨a,b',c,d,e,f,gg,hh⟩) hV
      go_wp2_with fail
      go_quiet (fail)
      clear c0 c1 c2 c3 c4 c5 c6 c7
      obtain ⟨w1,hwq,hV,hA,hB,hKr,hWs,hL⟩:∃ wq:World,wr.drewN nq = wq ∧ Row wq gv 86 (C .u64 [a,b',c,d,e,f,gg,hh]) ∧ Row wq w.heap.size 86 (C .u64 s.list) ∧ Row wq (w.heap.size + 1) 86 (C .u64 (Z 8)) ∧ Row wq gk 30 (C .u64 K3L) ∧ SlV wq (.slice (some ⟨g,0,none⟩) k cap) (C .u64 W) ∧ Below w.heap.size w wq :=
       ⟨_,rfl,hV,hA,hB,hKr,hWs.keep fun _ _ _=>rfl,below_drewN hL nq⟩
      rw [hwq]
      have hct:w1.cell? ⟨g,t,none⟩ = some (.int .u64 (x:Int)):=by rw [← hwq];exact hct
      have hkt:w1.cell? ⟨gk,t,none⟩ = some (.int .u64 (kk:Int)):=by rw [← hwq];exact hkt
      clear hwq
      obtain ⟨c0,c1,c2,c3,c4,c5,c6,c7⟩:=eight_cells (s:=⟨a,b',c,d,e,f,gg,hh⟩) hV
      go_wp2_with fail
      go_quiet (first | (go_at_call_of 117 (Value.int IntKind.u64 14);exact Calls.quiet_of_same (te14 _)) | (go_at_call_of 117 (Value.int IntKind.u64 18);exact Calls.quiet_of_same (te18 _)) | (go_at_call_of 117 (Value.int IntKind.u64 41);exact Calls.quiet_of_same (te41 _)))
      clear c0 c1 c2 c3 c4 c5 c6 c7
      obtain ⟨w2,hwq,hV,hA,hB,hKr,hWs,hL⟩:∃ wq:World,w1.drewN nq = wq ∧ Row wq gv 86 (C .u64 [a,b',c,d,e,f,gg,hh]) ∧ Row wq w.heap.size 86 (C .u64 s.list) ∧ Row wq (w.heap.size + 1) 86 (C .u64 (Z 8)) ∧ Row wq gk 30 (C .u64 K3L) ∧ SlV wq (.slice (some ⟨g,0,none⟩) k cap) (C .u64 W) ∧ Below w.heap.size w wq :=
       ⟨_,rfl,hV,hA,hB,hKr,hWs.keep fun _ _ _=>rfl,below_drewN hL nq⟩
      rw [hwq]
      have hct:w2.cell? ⟨g,t,none⟩ = some (.int .u64 (x:Int)):=by rw [← hwq];exact hct
      have hkt:w2.cell? ⟨gk,t,none⟩ = some (.int .u64 (kk:Int)):=by rw [← hwq];exact hkt
      clear hwq
      obtain ⟨c0,c1,c2,c3,c4,c5,c6,c7⟩:=eight_cells (s:=⟨a,b',c,d,e,f,gg,hh⟩) hV
      clear o1 o2 o3 o4 e1 e2 e3 e4 te14 te18 te41 ye1 ye2
      go_wp2_with fail
      go_quiet (first | (go_at_call_of 117 (Value.int IntKind.u64 28);exact Calls.quiet_of_same (ta28 _)) | (go_at_call_of 117 (Value.int IntKind.u64 34);exact Calls.quiet_of_same (ta34 _)) | (go_at_call_of 117 (Value.int IntKind.u64 39);exact Calls.quiet_of_same (ta39 _)))
      clear c0 c1 c2 c3 c4 c5 c6 c7
      obtain ⟨w3q,hwq,hV,hA,hB,hKr,hWs,hL⟩:∃ wq:World,w2.drewN nq = wq ∧ Row wq gv 86 (C .u64 [a,b',c,d,e,f,gg,hh]) ∧ Row wq w.heap.size 86 (C .u64 s.list) ∧ Row wq (w.heap.size + 1) 86 (C .u64 (Z 8)) ∧ Row wq gk 30 (C .u64 K3L) ∧ SlV wq (.slice (some ⟨g,0,none⟩) k cap) (C .u64 W) ∧ Below w.heap.size w wq :=
       ⟨_,rfl,hV,hA,hB,hKr,hWs.keep fun _ _ _=>rfl,below_drewN hL nq⟩
      rw [hwq]
      have hct:w3q.cell? ⟨g,t,none⟩ = some (.int .u64 (x:Int)):=by rw [← hwq];exact hct
      have hkt:w3q.cell? ⟨gk,t,none⟩ = some (.int .u64 (kk:Int)):=by rw [← hwq];exact hkt
      clear hwq
      obtain ⟨c0,c1,c2,c3,c4,c5,c6,c7⟩:=eight_cells (s:=⟨a,b',c,d,e,f,gg,hh⟩) hV
      clear p1 p2 p3 p4 p5 e5 ta28 ta34 ta39 ya1 ya2
      have hlv:=hV.lt
      have h8c:(C .u64 [a,b',c,d,e,f,gg,hh]).length = 8:=rfl
      go_wp2_with (refine wpList_store_R rfl 86 _ _ rfl gv _ rfl rfl hV i8 rfl rfl ?_;intro w7 hV7 hg7 hz7)
      go_roundw
      case rel=>exact ⟨t + 1,by omega,by go_num,by rw [HS.out];exact hV7,hA.grown hg7 (by simp <;> omega),hB.grown hg7 (by simp <;> omega),hKr.grown hg7 (by simp <;> omega),hWs.grown hg7 (fun b hb=>by simp [Value.ownBlock] at hb;subst hb;simp;omega),below_grown hL hg7 (by omega) hlv⟩
      case measure=>simp [intOf];omega
     ·have HT64:Away (t = 80):=⟨by omega⟩
      have hSe:stps3 W s t = stps3 W s 80:=by rw [HT64.out]
      rw [hSe] at hV q1 q2 q3 q4 q5 q6 q7 q8
      have hlti:¬ (t:Int) < 80:=by omega
      have hSo:(stps3 W s 80).ok:=⟨q1,q2,q3,q4,q5,q6,q7,q8⟩
      generalize stps3 W s 80 = S at *
      clear HT hSe q1 q2 q3 q4 q5 q6 q7 q8
      go_wp2
      go_loopw [18] (fun i wx=>∃ j:Nat,j ≤ 8 ∧ i = .int .i64 j ∧ Row wx gv 86 (C .u64 (mixl s S j)) ∧ Row wx w.heap.size 86 (C .u64 s.list) ∧ Row wx (w.heap.size + 1) 86 (C .u64 (Z 8)) ∧ Below w.heap.size w wx) (fun i _=>8 - (intOf i).toNat)
      case atStart=>exact ⟨0,Nat.zero_le _,rfl,hV,hA,hB,hL⟩
      case round =>
       clear hV hA hB hL hWs hKr
       obtain ⟨j,hj,rfl,hV,hA,hB,hL⟩:=hrel
       by_cases hlt5:j < 8
       ·have cx:=hV.cell j
        rw [C_get .u64 (by rw [mixl_length];omega),mixl_get s S j hlt5] at cx
        have cy:=hA.cell j
        rw [C_get .u64 (show j < s.list.length by simp [S8.list];omega)] at cy
        have HX:=Away.mk (mixl_succ s S j hlt5)
        have lx:=list_ltr hSo j
        have ly:=list_ltr hs j
        generalize S.list.getD j 0 = x at *
        generalize s.list.getD j 0 = y at *
        obtain ⟨z,hz⟩:∃ z,(y + x) % 18446744073709551616 = z:=⟨_,rfl⟩
        have ez:IntKind.u64.wrap ((x:Int) + (y:Int)) = (z:Int):=by rw [IntKind.wrap_u64];omega
        rw [hz] at HX
        have hj5:(j:Int) < 8:=by omega
        have hfz:=hV.frozen j
        have hlv:=hV.lt
        clear hz
        go_upto_region 23 with fail
        refine wp_region_noPanic ?_
        refine wp_region_U (S:=fun w'=>w'.cell? ⟨gv,j,none⟩ = some (.int .u64 (x:Int)) ∧ w'.cell? ⟨w.heap.size,j,none⟩ = some (.int .u64 (y:Int))) 9 (by kernel_rfl) (⟨cx,cy⟩) (fun hHeld=>?_)
        refine tkU 0 ?v0q rfl ?h0q ?_
        case h0q=>intro w hSw;go_simp <;> with_reducible rfl
        simp only [Act.put,List.setIfInBounds_toArray,List.set_cons_zero,List.set_cons_succ]
        refine tkU 1 ?v1q rfl ?h1q ?_
        case h1q=>intro w hSw;go_simp <;> with_reducible rfl
        simp only [Act.put,List.setIfInBounds_toArray,List.set_cons_zero,List.set_cons_succ]
        refine tkU 2 ?v2q rfl ?h2q ?_
        case h2q=>intro w hSw;go_simp <;> with_reducible rfl
        simp only [Act.put,List.setIfInBounds_toArray,List.set_cons_zero,List.set_cons_succ]
        refine tkU 3 ?v3q rfl ?h3q ?_
        case h3q=>intro w hSw;go_simp <;> with_reducible rfl
        simp only [Act.put,List.setIfInBounds_toArray,List.set_cons_zero,List.set_cons_succ]
        refine tkU 4 ?v4q rfl ?h4q ?_
        case h4q=>intro w hSw;go_simp <;> with_reducible rfl
        simp only [Act.put,List.setIfInBounds_toArray,List.set_cons_zero,List.set_cons_succ]
        refine tkU 5 ?v5q rfl ?h5q ?_
        case h5q=>intro w hSw;go_simp <;> with_reducible rfl
        simp only [Act.put,List.setIfInBounds_toArray,List.set_cons_zero,List.set_cons_succ]
        refine tkU 6 ?v6q rfl ?h6q ?_
        case h6q=>intro w hSw;go_simp <;> with_reducible rfl
        simp only [Act.put,List.setIfInBounds_toArray,List.set_cons_zero,List.set_cons_succ]
        refine tkU 7 ?v7q rfl ?h7q ?_
        case h7q=>intro w hSw;go_simp <;> with_reducible rfl
        simp only [Act.put,List.setIfInBounds_toArray,List.set_cons_zero,List.set_cons_succ]
        refine tkU 8 ?v8q rfl ?h8q ?_
        case h8q=>intro w hSw;go_simp <;> with_reducible rfl
        simp only [Act.put,List.setIfInBounds_toArray,List.set_cons_zero,List.set_cons_succ]
        refine wpAnyU_oneL (i:=9) (by kernel_rfl) rfl (by rfl) (fun K hK=>?_)
        go_simp
        refine hK.out _ _ (fun h=>absurd rfl h) (fun hHeld=>?_)
        clear hK K
        refine wpAnyU_done (by kernel_rfl) ?_ _
        refine NoPanic.normal ?_
        have hV7:Row (wr.setCell ⟨gv,j,none⟩ (.int .u64 (z:Int))) gv 86 (C .u64 (mixl s S (j + 1))):=by rw [← HX.out,C_set];exact hV.set j _
        have hA7:=hA.other (i:=j) (.int .u64 (z:Int)) (show w.heap.size ≠ gv by omega)
        have hB7:=hB.other (i:=j) (.int .u64 (z:Int)) (show w.heap.size + 1 ≠ gv by omega)
        have hL7:=hL.setCell (p:=⟨gv,j,none⟩) (by simp;omega) (.int .u64 (z:Int))
        have G1:=Away.mk hV7
        have G2:=Away.mk hA7
        have G3:=Away.mk hB7
        have G4:=Away.mk hL7
        clear hV7 hA7 hB7 hL7 hV hA hB hL cx cy hHeld hfz lx ly ez
        go_wp2
        go_roundw
        case rel=>exact ⟨j + 1,by omega,by go_num,G1.out.drew,G2.out.drew,G3.out.drew,G4.out.drew⟩
        case measure=>simp [intOf];omega
       ·have HJ5:Away (j = 8):=⟨by omega⟩
        rw [HJ5.out,mixl_all] at hV
        have hj5:¬ (j:Int) < 8:=by omega
        have hBlt2:=hB.lt
        obtain ⟨T,hT⟩:∃ T,add3 s S = T:=⟨_,rfl⟩
        rw [hT] at hV HBk
        have i5T:(Tryz.prog.info? 86).map (·.size) = some (C .u64 T.list).toArray.size:=i8
        have i5T':(Tryz.prog.info? 86).map (·.size) = some (C .u64 T.list).length:=i8
        have h5T:(C .u64 (Z 8)).length = (C .u64 T.list).length:=rfl
        clear hT
        go_wp2_with (first | refine wpList_load_row rfl 86 _ rfl _ rfl _ _ _ _ hV Tryz.underlying86 rfl i5T ?_ | (refine wpList_store_R rfl 86 _ _ rfl _ (C .u64 T.list) rfl rfl hB i5T' h5T (C_allL _ _) ?_;intro w8 hB8 hg8 hz8))
        exact result_row Tryz.results90 rfl hB8 Tryz.underlying86 rfl i5T' rfl ⟨by rw [HBk.out],below_grown hL hg8 (by omega) hBlt2⟩
theorem pad3_lo {xs:List Nat} (h:Lo 256 xs):Lo 256 (pad3 xs):=by
 unfold pad3
 refine h.append ?_
 intro x hx
 rcases List.mem_cons.1 hx with rfl | hx
 ·decide
 ·rcases List.mem_append.1 hx with hx | hx
  ·rw [List.eq_of_mem_replicate hx];decide
  ·exact cnt_lo2 _ x hx
def hash3 (b:Bool) (xs:List Nat):List Nat:=if b then sum3 true xs else (sum3 false xs).take 48
theorem hash3_true (xs:List Nat):hash3 true xs = sum3 true xs:=rfl
theorem out3_next (s:S8) (j r:Nat) (hj:j < 8) (hr:r < 8):(out3 s).take (8 * j + r) ++ [s.list.getD j 0 / 2 ^ (8 * (7 - r)) % 256] = (out3 s).take (8 * j + r + 1):=by
 rw [← out3_getr s j r hj hr]
 have hl:8 * j + r < (out3 s).length:=by rw [out3_length];omega
 rw [take_snoc hl]
 simp only [List.getD,List.getElem?_eq_getElem hl,Option.getD_some]
end Go.Proofs.YtmjimilhomabfaaGreatDoor.S3
