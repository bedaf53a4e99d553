/-
 SHA-512 that goes on (New, Write, Sum), over this seat. Conditions: as each says.
-/
import Derived.Test.YtmjimilhomabfaaGreatDoorH14a
import Derived.Test.YtmjimilhomabfaaGreatDoorK14
import Derived.Lib.SliceRun
import Derived.Lib.SlBytesConst
namespace Go.Proofs.YtmjimilhomabfaaGreatDoor.S3
open Go.RowKit
set_option linter.unusedVariables false
set_option maxRecDepth 10000
theorem be_lt (c i:Nat):be c i < 256:=Nat.mod_lt _ (by decide)
theorem be8_lo (c:Nat):Lo 256 (be8 c):=by
 intro x hx
 simp only [be8,List.mem_cons,List.not_mem_nil,or_false] at hx
 rcases hx with rfl | rfl | rfl | rfl | rfl | rfl | rfl | rfl <;> exact be_lt _ _
theorem mul64_any (x:Nat) (hx:x < 1152921504606846976) (w:World) :
  Calls Tryz.prog 168 #[.int .u64 (x:Int),.int .u64 8] w fun e w'=>e = .returned (.tuple #[.int .u64 0,.int .u64 (8 * x:Nat)]) ∧ w = w':=by
 obtain ⟨x0,h0⟩:∃ x0,x % 4294967296 = x0:=⟨_,rfl⟩
 obtain ⟨x1,h1⟩:∃ x1,x / 4294967296 = x1:=⟨_,rfl⟩
 have a0:bits .and .u64 (x:Int) 4294967295 = (x0:Int):=by
  have:=u64_and_nat x 4294967295 (by omega) (by decide)
  rw [show ((4294967295:Nat):Int) = 4294967295 from rfl] at this
  rw [this,show (4294967295:Nat) = 2 ^ 32 - 1 from rfl,Nat.and_two_pow_sub_one_eq_mod,show (2:Nat) ^ 32 = 4294967296 from rfl,h0]
 have a1:bits .and .u64 8 4294967295 = 8:=by decide
 have s1:(x:Int) / 4294967296 = (x1:Int):=by omega
 obtain ⟨w0,hw0,e0⟩:∃ w0:Nat,IntKind.u64.wrap ((x0:Int) * 8) = (w0:Int) ∧ w0 = x0 * 8:=⟨x0 * 8,by rw [IntKind.wrap_u64];omega,rfl⟩
 obtain ⟨t0,ht0⟩:∃ t0,w0 / 4294967296 = t0:=⟨_,rfl⟩
 have s0:(w0:Int) / 4294967296 = (t0:Int):=by omega
 obtain ⟨p1,hp1,ep1⟩:∃ p1:Nat,IntKind.u64.wrap ((x1:Int) * 8) = (p1:Int) ∧ p1 = x1 * 8:=⟨x1 * 8,by rw [IntKind.wrap_u64];omega,rfl⟩
 obtain ⟨t,ht,et⟩:∃ t:Nat,IntKind.u64.wrap ((p1:Int) + (t0:Int)) = (t:Int) ∧ t = p1 + t0:=⟨p1 + t0,by rw [IntKind.wrap_u64];omega,rfl⟩
 have htl:t < 4294967296:=by omega
 have a2:bits .and .u64 (t:Int) 4294967295 = (t:Int):=by
  have:=u64_and_nat t 4294967295 (by omega) (by decide)
  rw [show ((4294967295:Nat):Int) = 4294967295 from rfl] at this
  rw [this,show (4294967295:Nat) = 2 ^ 32 - 1 from rfl,Nat.and_two_pow_sub_one_eq_mod,show (2:Nat) ^ 32 = 4294967296 from rfl,Nat.mod_eq_of_lt htl]
 have s2:(t:Int) / 4294967296 = 0:=by omega
 have l0:IntKind.u64.wrap ((x:Int) * 8) = ((8 * x:Nat):Int):=by rw [IntKind.wrap_u64];omega
 have wt:IntKind.u64.wrap (t:Int) = (t:Int):=by rw [IntKind.wrap_u64];omega
 generalize 8 * x = c at *
 clear h0 h1 e0 ep1 ht0 et
 go_enter Tryz.func168,Tryz.ntmps168
 go_wp2
 go_ret2
 exact ⟨rfl,rfl⟩
theorem cnt_lo (c:Nat):Lo 256 (cnt c):=by
 refine Lo.append ?_ (be8_lo c)
 intro x hx
 simp only [List.mem_cons,List.not_mem_nil,or_false,or_self] at hx
 subst hx;decide
end Go.Proofs.YtmjimilhomabfaaGreatDoor.S3
namespace Go.Proofs.YtmjimilhomabfaaGreatDoor.S9
open Go.RowKit
set_option linter.unusedVariables false
set_option maxRecDepth 10000
structure Tabs (w:World):Prop where
 b:S3.Tab w
theorem Tabs.below {w w':World} (h:Tabs w) (hb:Below w.heap.size w w'):Tabs w':=⟨h.b.below hb⟩
theorem Tabs.drew {w:World} (h:Tabs w):Tabs w.drew:=⟨h.b⟩
theorem size10_any (w:World):Calls Tryz.prog 127 #[.int .i64 10] w fun e w'=>e = .returned (.int .i64 (64:Nat)) ∧ w = w':=by
 go_enter Tryz.func127,Tryz.ntmps127
 go_wp2
 go_ret
 exact ⟨rfl,rfl⟩
section
variable {S:Type} (f:S → List Nat → S) (B:Nat) (s:S)
def gbl (p:List Nat):Nat → S
 | 0=>s
 | n + 1=>f (gbl p n) ((p.drop (B * n)).take B)
def now (bs:List Nat):S:=gbl f B s bs (bs.length / B)
def rst (bs:List Nat):List Nat:=bs.drop (B * (bs.length / B))
theorem rst_length (bs:List Nat) (hB:0 < B):(rst B bs).length = bs.length % B:=by
 rw [rst,List.length_drop]
 have:=Nat.div_add_mod bs.length B
 omega
theorem rst_lo {bs:List Nat} {b:Nat} (h:Lo b bs):Lo b (rst B bs):=h.drop _
theorem gbl_append (xs t:List Nat) (n:Nat) (h:B * n ≤ xs.length):gbl f B s (xs ++ t) n = gbl f B s xs n:=by
 induction n with
 | zero=>rfl
 | succ n ih =>
  rw [Nat.mul_succ] at h
  rw [gbl,gbl,ih (by omega),List.drop_append_of_le_length (by omega),List.take_append_of_le_length (by simp;omega)]
theorem now_part (bs zs:List Nat) (hB:0 < B) (h:bs.length % B + zs.length < B):now f B s (bs ++ zs) = now f B s bs ∧ rst B (bs ++ zs) = rst B bs ++ zs:=by
 have hd:=Nat.div_add_mod bs.length B
 have hq:(bs ++ zs).length / B = bs.length / B:=by
  rw [List.length_append,← hd,Nat.add_assoc,Nat.mul_add_div hB,Nat.div_eq_of_lt h,hd];rfl
 refine ⟨?_,?_⟩
 ·rw [now,hq];exact gbl_append f B s bs zs _ (by omega)
 ·rw [rst,hq,List.drop_append_of_le_length (by omega)];rfl
theorem now_full (bs zs:List Nat) (hB:0 < B) (h:bs.length % B + zs.length = B):now f B s (bs ++ zs) = f (now f B s bs) (rst B bs ++ zs) ∧ rst B (bs ++ zs) = []:=by
 have hd:=Nat.div_add_mod bs.length B
 have hl:(bs ++ zs).length = B * (bs.length / B + 1):=by rw [List.length_append,Nat.mul_succ];omega
 have hq:(bs ++ zs).length / B = bs.length / B + 1:=by rw [hl];exact Nat.mul_div_cancel_left _ hB
 refine ⟨?_,?_⟩
 ·rw [now,hq,gbl,gbl_append f B s bs zs _ (by omega),List.drop_append_of_le_length (by omega)]
  congr 1
  exact List.take_of_length_le (by rw [List.length_append,List.length_drop];omega)
 ·rw [rst,hq,← hl];exact List.drop_of_length_le (Nat.le_refl _)
end
def tb (W:Nat) (ws:List Nat) (n:Nat):List Nat:=(List.range n).map fun i=>ws.getD (i / W) 0 / 2 ^ (8 * (W - 1 - i % W)) % 256
theorem tb_length (W:Nat) (ws:List Nat) (n:Nat):(tb W ws n).length = n:=by simp [tb]
theorem tb_get (W:Nat) (ws:List Nat) (n k:Nat) (h:k < n):(tb W ws n).getD k 0 = ws.getD (k / W) 0 / 2 ^ (8 * (W - 1 - k % W)) % 256:=by simp [tb,h]
theorem own_upto {w:World} {base n k:Nat} {e:TypeId} {v:Value} {q:IntKind} {l:List Nat} {y:Int} (h:l.length = n) (hk:k < n) (hy:y = ((l.getD k 0:Nat):Int)) (ho:w.ownsRow base e 1 v n ((C q (upto l n k)).set k (.int q y))):w.drew.ownsRow base e 1 v n (C q (upto l n (k + 1))):=by
 subst hy
 rw [← upto_succ h hk,C_set]
 exact ho
set_option maxHeartbeats 1600000 in
theorem tell64_any (v:Value) (ws:List Nat) (hws:Lo 18446744073709551616 ws) (n:Nat) (hn:n ≤ 8 * ws.length) (hm:ws.length ≤ 100) (w:World) (hv:SlV w v (C .u64 ws)) :
  Calls Tryz.prog 155 #[v,.int .i64 8,.int .i64 (n:Int)] w fun e w'=>∃ v',e = .returned v' ∧ w'.ownsRow w.heap.size 5 1 v' n (C .u8 (tb 8 ws n)) ∧ Below w.heap.size w w':=by
 obtain ⟨N,hN⟩:∃ N,ws.length = N:=⟨_,rfl⟩
 obtain ⟨sa,sc,rfl,h1,h2⟩:=hv.shp hN
 obtain ⟨i0,hi,hz0,hz1,hz2⟩:=info_parts S3.inf8
 have hm':n ≤ maxLen:=by unfold maxLen;omega
 go_enter Tryz.func155,Tryz.ntmps155
 go_wp2_with (at_make;refine wpList_make_full _ rfl _ _ 23 rfl w.heap.size 5 i0 _ 1 Tryz.underlying23 hi hz0 hz1 _ _ _ _ n rfl rfl rfl rfl (by rw [hz2];omega) hm' (Nat.le_refl _) ?_)
 intro w1 hown hgrow
 have hown:=own_made hown
 have hs1:=hv.grown hgrow (by simp)
 have hb1:Below w.heap.size w w1:=(Below.refl _ _).grown hgrow (Nat.le_refl _) (by simp)
 rw [← C_zeros,← show Z n = List.replicate n 0 from rfl,← upto_zero (tb 8 ws n) n] at hown
 clear hgrow
 go_wp2
 go_loopw [13] (fun i wr=>∃ k:Nat,k ≤ n ∧ i = .int .i64 k ∧ wr.ownsRow w.heap.size 5 1 (.slice (some ⟨w.heap.size,0,none⟩) n n) n (C .u8 (upto (tb 8 ws n) n k)) ∧ Below w.heap.size w wr) (fun i _=>n - (intOf i).toNat)
 case atStart=>exact ⟨0,Nat.zero_le _,rfl,hown,hb1⟩
 case round =>
  clear hown hb1 hs1
  obtain ⟨k,hk,rfl,ho,hb⟩:=hrel
  by_cases hlt:k < n
  ·obtain ⟨b,off,rfl,hbl,hcx⟩:=(hv.below hb).cells (by rw [C_length];omega)
   have hc:=hcx (k / 8) _ (C_get .u64 (show k / 8 < ws.length by omega))
   have hx:=hws.getD (by decide) (k / 8)
   have HG:=Away.mk (tb_get 8 ws n k hlt)
   clear hcx
   generalize ws.getD (k / 8) 0 = x at *
   have hfr:=ho.frozenAt k
   have hce:∃ u,wr.cell? ⟨w.heap.size,k,none⟩ = some u:=by
    rw [ho.cellAt _ (by omega)]
    exact ⟨_,List.getElem?_eq_getElem (by rw [C_length,upto_length (tb_length _ _ _) hk];omega)⟩
   obtain ⟨u,hce⟩:=hce
   have hst:=fun y=>ho.stored k (.int .u8 y)
   have hr8:k % 8 = 0 ∨ k % 8 = 1 ∨ k % 8 = 2 ∨ k % 8 = 3 ∨ k % 8 = 4 ∨ k % 8 = 5 ∨ k % 8 = 6 ∨ k % 8 = 7:=by omega
   rcases hr8 with hr | hr | hr | hr | hr | hr | hr | hr
   ·have hri:(k:Int) % 8 = 0:=by omega
    rw [hr] at HG
    go_wp2
    go_region
    go_wp2
    go_roundw
    case rel=>exact ⟨k + 1,by omega,by go_num,own_upto (tb_length _ _ _) hlt (by rw [HG.out];simp <;> omega) (hst _).1,(hb.setCell (by simp) _).drew⟩
    case measure=>simp [intOf];omega
   ·have hri:(k:Int) % 8 = 1:=by omega
    rw [hr] at HG
    go_wp2
    go_region
    go_wp2
    go_roundw
    case rel=>exact ⟨k + 1,by omega,by go_num,own_upto (tb_length _ _ _) hlt (by rw [HG.out];simp <;> omega) (hst _).1,(hb.setCell (by simp) _).drew⟩
    case measure=>simp [intOf];omega
   ·have hri:(k:Int) % 8 = 2:=by omega
    rw [hr] at HG
    go_wp2
    go_region
    go_wp2
    go_roundw
    case rel=>exact ⟨k + 1,by omega,by go_num,own_upto (tb_length _ _ _) hlt (by rw [HG.out];simp <;> omega) (hst _).1,(hb.setCell (by simp) _).drew⟩
    case measure=>simp [intOf];omega
   ·have hri:(k:Int) % 8 = 3:=by omega
    rw [hr] at HG
    go_wp2
    go_region
    go_wp2
    go_roundw
    case rel=>exact ⟨k + 1,by omega,by go_num,own_upto (tb_length _ _ _) hlt (by rw [HG.out];simp <;> omega) (hst _).1,(hb.setCell (by simp) _).drew⟩
    case measure=>simp [intOf];omega
   ·have hri:(k:Int) % 8 = 4:=by omega
    rw [hr] at HG
    go_wp2
    go_region
    go_wp2
    go_roundw
    case rel=>exact ⟨k + 1,by omega,by go_num,own_upto (tb_length _ _ _) hlt (by rw [HG.out];simp <;> omega) (hst _).1,(hb.setCell (by simp) _).drew⟩
    case measure=>simp [intOf];omega
   ·have hri:(k:Int) % 8 = 5:=by omega
    rw [hr] at HG
    go_wp2
    go_region
    go_wp2
    go_roundw
    case rel=>exact ⟨k + 1,by omega,by go_num,own_upto (tb_length _ _ _) hlt (by rw [HG.out];simp <;> omega) (hst _).1,(hb.setCell (by simp) _).drew⟩
    case measure=>simp [intOf];omega
   ·have hri:(k:Int) % 8 = 6:=by omega
    rw [hr] at HG
    go_wp2
    go_region
    go_wp2
    go_roundw
    case rel=>exact ⟨k + 1,by omega,by go_num,own_upto (tb_length _ _ _) hlt (by rw [HG.out];simp <;> omega) (hst _).1,(hb.setCell (by simp) _).drew⟩
    case measure=>simp [intOf];omega
   ·have hri:(k:Int) % 8 = 7:=by omega
    rw [hr] at HG
    go_wp2
    go_region
    go_wp2
    go_roundw
    case rel=>exact ⟨k + 1,by omega,by go_num,own_upto (tb_length _ _ _) hlt (by rw [HG.out];simp <;> omega) (hst _).1,(hb.setCell (by simp) _).drew⟩
    case measure=>simp [intOf];omega
  ·obtain rfl:k = n:=by omega
   rw [upto_all (tb_length _ _ _)] at ho
   go_wp2
   go_ret
   exact ⟨_,rfl,ho,hb⟩
def cn (B:Nat) (c:Nat):List Nat:=if B = 128 then S3.cnt c else S3.be8 c
theorem cn_length (B c:Nat):(cn B c).length = if B = 128 then 16 else 8:=by unfold cn;split <;> rfl
theorem tb_two (x:Nat):tb 8 [0,x] 16 = S3.cnt x:=by
 have e:tb 8 [0,x] 16 = [0 / 2 ^ (8 * 7) % 256,0 / 2 ^ (8 * 6) % 256,0 / 2 ^ (8 * 5) % 256,0 / 2 ^ (8 * 4) % 256,0 / 2 ^ (8 * 3) % 256,0 / 2 ^ (8 * 2) % 256,0 / 2 ^ (8 * 1) % 256,0 / 2 ^ (8 * 0) % 256] ++ S3.be8 x:=rfl
 rw [e]
 rfl
theorem bits_large (x:Nat) (hx:x < 1152921504606846976) (w:World) :
  Calls Tryz.prog 202 #[.int .u64 (x:Int),.int .i64 128] w fun e w'=>∃ v',e = .returned v' ∧ w'.ownsRow w.heap.size 5 1 v' 16 (C .u8 (cn 128 (8 * x))) ∧ Below w.heap.size w w':=by
 go_enter Tryz.func202,Tryz.ntmps202
 go_wp2_with fail
 refine (S3.mul64_any x hx _).mono ?_
 rintro _ w1 ⟨rfl,rfl⟩
 have hA:Below w.heap.size w (w.alloc (.cells (C .u64 [0,8 * x]).toArray 30)):=(Below.refl _ _).alloc (Nat.le_refl _) _
 have hs:SlV (w.alloc (.cells (C .u64 [0,8 * x]).toArray 30)) (.slice (some ⟨w.heap.size,0,none⟩) 2 2) (C .u64 [0,8 * x]):=SlV_newF w (C .u64 [0,8 * x]) 30 (0,0) (by rw [C_length];show 2 ≤ maxLen;decide)
 go_wp2_with fail
 refine (tell64_any _ [0,8 * x] (by intro y hy;simp at hy;omega) 16 (by simp) (by simp) _ hs).mono ?_
 rintro _ w2 ⟨v2,rfl,ho,hb⟩
 have ho:=own_base ho hA.size
 have hb:=hA.trans (hb.mono hA.size)
 rw [tb_two] at ho
 go_wp2
 go_ret
 exact ⟨_,rfl,ho,hb⟩
theorem clone_any (v:Value) (xs:List Nat) (w:World) (hs:SlV w v (C .u8 xs)) (hm:xs.length ≤ 1000000) :
  Calls Tryz.prog 201 #[v] w fun e w'=>∃ v',e = .returned v' ∧ w'.ownsRow w.heap.size 5 1 v' xs.length (C .u8 xs) ∧ Below w.heap.size w w':=by
 obtain ⟨N,hN⟩:∃ N,xs.length = N:=⟨_,rfl⟩
 obtain ⟨sa,sc,rfl,h1,h2⟩:=hs.shp hN
 rw [hN]
 have qT:∀ (w:World) (a:Option Addr) (n c n' c':Nat),(binOp .eql 23 (.slice a n c) (.slice none n' c')).run Tryz.prog w = .ok (.bool a.isNone) w:=fun w a n c n' c'=>Lib.run_eql_slice_nil w _ _ a n c n' c' Tryz.underlying23
 cases sa with
 | none =>
  have h0:N = 0:=by
   by_cases hp:0 < N
   ·obtain ⟨b,off,e,_⟩:=hs.cells (by rw [C_length];omega)
    cases e
   ·omega
  subst h0
  obtain rfl:xs = []:=List.eq_nil_of_length_eq_zero hN
  go_enter Tryz.func201,Tryz.ntmps201
  go_wp2
  go_ret
  exact ⟨_,rfl,World.ownsRow_nil w _ _ _,Below.refl _ _⟩
 | some ad =>
  have hA:Below w.heap.size w (w.alloc (.cells #[] 5)):=(Below.refl _ _).alloc (Nat.le_refl _) _
  have hsA:=hs.below hA
  have hoA:=own_empty w w.heap.size 5 (Nat.le_refl _)
  go_enter Tryz.func201,Tryz.ntmps201
  go_wp2_with (at_builtin;refine wpList_append_sl rfl (.tmp 5) (.tmp 6) 23 rfl w.heap.size 5 _ 1 Tryz.underlying23 S3.inf8 rfl _ 0 [] rfl hoA _ (C .u8 xs) rfl hsA (C_one _ _) (by rw [C_length];unfold maxLen;omega) (by rw [C_length];omega) (by simp) ?_)
  intro v1 w1 ho1 hg1
  have hb1:Below w.heap.size w w1:=hA.grown hg1 hA.size (fun k hk=>(hoA.lt k hk).1)
  have ho1:w1.ownsRow w.heap.size 5 1 v1 N (C .u8 xs):=by simpa [C_length,hN] using ho1
  go_wp2
  go_ret
  exact ⟨_,rfl,ho1,hb1⟩
def pdg (B c x:Nat):List Nat:=128 :: (Z ((B - (x + (c + 1)) % B) % B) ++ cn B (8 * x))
set_option maxHeartbeats 1600000 in
theorem padding_large (x:Nat) (hx:x < 1152921504606846000) (w:World) :
  Calls Tryz.prog 200 #[.int .u64 (x:Int),.int .i64 128] w fun e w'=>∃ v' n,e = .returned v' ∧ w'.ownsRow w.heap.size 5 1 v' n (C .u8 (pdg 128 16 x)) ∧ Below w.heap.size w w':=by
 obtain ⟨z,hz⟩:∃ z,(128 - (x + 17) % 128) % 128 = z:=⟨_,rfl⟩
 have HZ:=Away.mk hz
 have hz1:z < 128:=by omega
 have hz2:(x + 17 + z) % 128 = 0:=by omega
 have hz3:∀ j,j < z → (x + 17 + j) % 128 ≠ 0:=by intro j hj;omega
 clear hz
 go_enter Tryz.func200,Tryz.ntmps200
 go_wp2_with fail
 refine (bits_large x (by omega) _).mono ?_
 rintro _ w1 ⟨cv,rfl,hoc,hb1⟩
 have hsc:=SlV.ofOwn hoc
 have hcl:(cn 128 (8 * x)).length = 16:=cn_length _ _
 obtain ⟨ca,cc,rfl,hc1,hc2⟩:=hsc.shp hcl
 have hR:=Row.new w1 5 (C .u8 [128])
 have ho:=hR.owns (base:=w1.heap.size) (n:=1) (cap:=1) (Nat.le_refl _) (by simp [C]) (by simp [C,maxLen])
 have hA:=(Below.more (Below.refl w1.heap.size w1) (Nat.le_refl _) (.cells (C .u8 [128]).toArray 5)).1
 have e1:(C .u8 [128]).take 1 = C .u8 (128 :: Z 0):=rfl
 rw [e1] at ho
 clear hR e1 hoc
 have hsz1:=hb1.size
 go_wp2
 go_loopw [6] (fun v wr=>∃ j:Nat,v = v ∧ j ≤ z ∧ lenS v = 1 + j ∧ wr.ownsRow w1.heap.size 5 1 v (1 + j) (C .u8 (128 :: Z j)) ∧ Below w1.heap.size w1 wr) (fun v _=>1 + z - lenS v)
 case atStart=>exact ⟨0,rfl,Nat.zero_le _,rfl,ho,hA⟩
 case round =>
  clear ho hA
  obtain ⟨j,-,hj,hlen,ho,hb⟩:=hrel
  have hso:=SlV.ofOwn ho
  obtain ⟨p,hp⟩:∃ p,1 + j = p:=⟨_,rfl⟩
  rw [hp] at ho
  obtain ⟨sa,sc,rfl,h1,h2⟩:=hso.shp (n:=p) (by simp [Z_length];omega)
  by_cases hlt:j < z
  ·have hd:(((x:Int) + ((p:Int) + 16)) % 128 != 0) = true:=by
    have:=hz3 j hlt
    simp only [bne_iff_ne,ne_eq]
    omega
   have hoA:=ho.alloc (.cells #[.int .u8 0] 5)
   have hsA:=SlV_one wr (.int .u8 0) 5
   have hbA:=Below.more hb hb.size (.cells #[.int .u8 0] 5)
   clear hso
   go_wp2_with (at_builtin;refine wpList_append_sl rfl (.tmp 23) (.tmp 24) 23 rfl w1.heap.size 5 _ 1 Tryz.underlying23 S3.inf8 rfl _ p _ rfl hoA _ [.int .u8 0] rfl hsA (by simp [Value.oneCell']) (by simp [maxLen];omega) (by simp;omega) hbA.2 ?_)
   intro v2 w2 ho2 hg2
   have hb2:Below w1.heap.size w1 w2:=hbA.1.grown hg2 hbA.2 (fun k hk=>(hoA.lt k hk).1)
   have ho2:w2.ownsRow w1.heap.size 5 1 v2 (1 + (j + 1)) (C .u8 (128 :: Z (j + 1))):=by
    have e:C .u8 (128 :: Z (j + 1)) = C .u8 (128 :: Z j) ++ [.int .u8 0]:=by
     rw [Z,List.replicate_succ',← List.cons_append,C_append];rfl
    rw [e,show 1 + (j + 1) = p + [Value.int .u8 0].length by simp;omega]
    exact ho2
   clear hg2 hoA hsA hbA ho hb
   have hlen2:lenS v2 = 1 + (j + 1):=by
    obtain ⟨a2,c2,rfl,_,_⟩:=(SlV.ofOwn ho2).shp (n:=1 + (j + 1)) (by simp [Z_length];omega)
    rfl
   go_wp2
   go_roundw
   case rel=>exact ⟨j + 1,trivial,by omega,hlen2,ho2,hb2⟩
   case measure=>rw [hlen2];simp only [lenS];omega
  ·obtain rfl:j = z:=by omega
   have hd:(((x:Int) + ((p:Int) + 16)) % 128 != 0) = false:=by
    simp only [bne_eq_false_iff_eq]
    omega
   have hsA:=hsc.below hb
   go_wp2_with (at_builtin;refine wpList_append_sl rfl (.tmp 26) (.tmp 27) 23 rfl w1.heap.size 5 _ 1 Tryz.underlying23 S3.inf8 rfl _ p _ rfl ho _ (C .u8 (cn 128 (8 * x))) rfl hsA (C_one _ _) (by rw [C_length,hcl];unfold maxLen;omega) (by rw [C_length,hcl];omega) hb.size ?_)
   intro v2 w2 ho2 hg2
   have hb2:Below w1.heap.size w1 w2:=hb.grown hg2 hb.size (fun k hk=>(ho.lt k hk).1)
   have ho2:w2.ownsRow w.heap.size 5 1 v2 (p + 16) (C .u8 (pdg 128 16 x)):=by
    have e:C .u8 (pdg 128 16 x) = C .u8 (128 :: Z j) ++ C .u8 (cn 128 (8 * x)):=by
     rw [pdg,HZ.out,← C_append];rfl
    rw [C_length,hcl] at ho2
    rw [e]
    exact own_base ho2 hsz1
   have hbF:=hb1.trans (hb2.mono hsz1)
   clear hg2 hsA hso ho hb hb2
   go_wp2
   go_ret
   exact ⟨_,_,rfl,ho2,hbF⟩
theorem tb_take (W:Nat) (ws:List Nat) {n m:Nat} (h:n ≤ m):(tb W ws m).take n = tb W ws n:=by
 simp [tb,← List.map_take,List.take_range,Nat.min_eq_left h]
namespace W3
theorem lo_list {s:S3.S8} (h:s.ok):Lo 18446744073709551616 s.list:=by
 obtain ⟨h1,h2,h3,h4,h5,h6,h7,h8⟩:=h
 intro x hx
 simp only [S3.S8.list,List.mem_cons,List.not_mem_nil,or_false] at hx
 rcases hx with rfl | rfl | rfl | rfl | rfl | rfl | rfl | rfl <;> assumption
theorem out_all (s:S3.S8):tb 8 s.list 64 = S3.out3 s:=by
 rfl
theorem out_tb (s:S3.S8) (n:Nat) (hn:n ≤ 64):tb 8 s.list n = (S3.out3 s).take n:=by
 rw [← tb_take 8 s.list hn,out_all]
theorem take_any (s:S3.S8) (hs:s.ok) (v:Value) (b:List Nat) (hb:Lo 256 b) (hl:b.length = 128) (w:World) (hv:SlV w v (C .u8 b)) (hT:Tabs w) :
  Calls Tryz.prog 134 #[.agg (C .u64 s.list).toArray,v] w fun e w'=>e = .returned (.agg (C .u64 (S3.blk3 s b).list).toArray) ∧ Below w.heap.size w w':=by
 obtain ⟨sa,sc,rfl,h1,h2⟩:=hv.shp hl
 have hA:=((Row.new w 86 (C .u64 s.list)).alloc (.cells (C .u64 (Z 8)).toArray 86)).alloc (.cells (C .u8 (Z 128)).toArray 155)
 have hB:=(Row.newAt (w.alloc (.cells (C .u64 s.list).toArray 86)) (w.heap.size + 1) (by simp) 86 (C .u64 (Z 8))).alloc (.cells (C .u8 (Z 128)).toArray 155)
 have hC:=Row.newAt ((w.alloc (.cells (C .u64 s.list).toArray 86)).alloc (.cells (C .u64 (Z 8)).toArray 86)) (w.heap.size + 1 + 1) (by simp) 155 (C .u8 (Z 128))
 have hL0:=Below.more (Below.refl w.heap.size w) (Nat.le_refl _) (.cells (C .u64 s.list).toArray 86)
 have hL1:=Below.more hL0.1 hL0.2 (.cells (C .u64 (Z 8)).toArray 86)
 have hL:=(Below.more hL1.1 hL1.2 (.cells (C .u8 (Z 128)).toArray 155)).1
 clear hL0 hL1
 have hv3:=hv.below hL
 have hBn:(C .u8 (Z 128)).length = 128:=by rw [C_length,Z_length]
 have hcat:(C .u8 b).take 128 ++ (C .u8 (Z 128)).drop 128 = C .u8 b:=by
  rw [List.drop_of_length_le (by rw [hBn];exact Nat.le_refl _),List.append_nil,List.take_of_length_le (by rw [C_length,hl];exact Nat.le_refl _)]
 have HQ:=Away.mk hcat
 clear hcat
 have hib:(Tryz.prog.info? 155).map (·.size) = some (C .u8 b).toArray.size:=by rw [C_size,hl];exact S3.i128
 have his:(Tryz.prog.info? 86).map (·.size) = some (C .u64 s.list).toArray.size:=S3.i8
 obtain ⟨F,hFe⟩:∃ F,S3.blk3 s b = F:=⟨_,rfl⟩
 have HF:=Away.mk hFe
 clear hFe
 go_enter Tryz.func134,Tryz.ntmps134
 go_wp2_with (first | refine wpList_alloc_row rfl 86 rfl _ S3.z8 ?_ | refine wpList_alloc_row rfl 155 rfl _ S3.z128 ?_ | (refine wpList_copy_R rfl _ _ 23 rfl 5 Tryz.underlying23 S3.i1b (w.heap.size + 1 + 1) 128 128 128 (C .u8 (Z 128)) (C .u8 b) sa sc rfl rfl hC hv3 hBn (C_allL _ _) ?_;intro w4 hC4 hg4 hz4;rw [HQ.out] at hC4;have hA4:=hA.grown hg4 (by simp <;> omega);have hB4:=hB.grown hg4 (by simp <;> omega);have hL4:=below_grown hL hg4 (by omega) hC.lt;clear hA hB hC hL hg4 hz4 hv3) | refine wpList_load_row rfl 86 _ rfl _ rfl _ _ _ _ hA4 Tryz.underlying86 rfl his ?_ | refine wpList_load_row rfl 155 _ rfl _ rfl _ _ _ _ hC4 Tryz.underlying155 rfl hib ?_)
 refine (S3.block_any s hs b hb hl _ (hT.below hL4).b).mono ?_
 rintro _ w5 ⟨rfl,hb5⟩
 have hB5:=hB4.belowS hb5
 have hL5:=hL4.trans (hb5.mono hL4.size)
 have hlt5:=hB5.lt
 clear hA4 hB4 hC4 hL4 hb5
 rw [HF.out]
 have iF:(Tryz.prog.info? 86).map (·.size) = some (C .u64 F.list).length:=S3.i8
 have hF:(C .u64 (Z 8)).length = (C .u64 F.list).length:=rfl
 go_wp2_with (refine wpList_store_R rfl 86 _ _ rfl _ (C .u64 F.list) rfl rfl hB5 iF hF (C_allL _ _) ?_;intro w7 hB8 hg8 hz8)
 exact result_row Tryz.results134 rfl hB8 Tryz.underlying86 rfl iF rfl ⟨by rw [HF.out],below_grown hL5 hg8 (by omega) hlt5⟩
theorem tells_any (s:S3.S8) (hs:s.ok) (n:Nat) (hn:n ≤ 64) (w:World) :
  Calls Tryz.prog 135 #[.agg (C .u64 s.list).toArray,.int .i64 (n:Int)] w fun e w'=>∃ v',e = .returned v' ∧ w'.ownsRow w.heap.size 5 1 v' n (C .u8 ((S3.out3 s).take n)) ∧ Below w.heap.size w w':=by
 have hR:=(Row.new w 86 (C .u64 s.list)).slAll (by show 8 ≤ maxLen;decide)
 have hL:=(Below.more (Below.refl w.heap.size w) (Nat.le_refl _) (.cells (C .u64 s.list).toArray 86)).1
 have hlo:=lo_list hs
 have HE:=Away.mk (out_tb s n hn)
 go_enter Tryz.func135,Tryz.ntmps135
 go_wp2_with fail
 refine (tell64_any _ s.list hlo n (show n ≤ 8 * 8 by omega) (show 8 ≤ 100 by decide) _ hR).mono ?_
 rintro _ w2 ⟨v2,rfl,ho,hb⟩
 rw [HE.out] at ho
 have ho:=own_base ho hL.size
 have hb:=hL.trans (hb.mono hL.size)
 go_wp2
 go_ret
 exact ⟨_,rfl,ho,hb⟩
end W3
theorem Tabs.kp {q:Nat} {r:Option Nat} {a b:World} (h:Tabs a) (hk:Kp q r a b) (hq:9 ≤ q) (hr:∀ k,r = some k → 9 ≤ k):Tabs b:=by
 obtain ⟨e2,f2,h2⟩:=h
 exact ⟨⟨e2,f2,(hk.block _ (Array.getElem?_eq_some_iff.1 h2).1 (by omega) (fun e=>by have:=hr _ e.symm;omega)).trans h2⟩⟩
namespace W3
def cells (S:S3.S8) (v:Value) (all size:Nat):List Value :=
 C .u64 S.list ++ [v,.int .u64 (all:Int),.int .i64 128,.int .i64 (size:Int),.func (.func 134) #[] #[],.func (.func 135) #[] #[]]
structure KI (w:World) (q:Nat) (v:Value) (s0:S3.S8) (bs:List Nat) (all size:Nat):Prop where
 at2:9 ≤ q
 row:Row w q 134 (cells (now S3.blk3 128 s0 bs) v all size)
 own:w.ownsRow 9 5 1 v (bs.length % 128) (C .u8 (rst 128 bs))
theorem now_ok {s0:S3.S8} (h:s0.ok) (bs:List Nat):(now S3.blk3 128 s0 bs).ok:=by
 unfold now
 cases bs.length / 128 with
 | zero=>exact h
 | succ n=>exact S3.blk3_ok _ _
theorem rst_len (bs:List Nat):(rst 128 bs).length = bs.length % 128:=rst_length 128 bs (by decide)
section
variable {w:World} {q:Nat} {S:S3.S8} {v:Value} {all size:Nat}
theorem cell_rest (h:Row w q 134 (cells S v all size)):w.cell? ⟨q,8,none⟩ = some v:=by rw [h.cell];rfl
theorem cell_all (h:Row w q 134 (cells S v all size)):w.cell? ⟨q,9,none⟩ = some (.int .u64 (all:Int)):=by rw [h.cell];rfl
theorem cell_block (h:Row w q 134 (cells S v all size)):w.cell? ⟨q,10,none⟩ = some (.int .i64 128):=by rw [h.cell];rfl
theorem cell_size (h:Row w q 134 (cells S v all size)):w.cell? ⟨q,11,none⟩ = some (.int .i64 (size:Int)):=by rw [h.cell];rfl
theorem cell_take (h:Row w q 134 (cells S v all size)):w.cell? ⟨q,12,none⟩ = some (.func (.func 134) #[] #[]):=by rw [h.cell];rfl
theorem cell_tell (h:Row w q 134 (cells S v all size)):w.cell? ⟨q,13,none⟩ = some (.func (.func 135) #[] #[]):=by rw [h.cell];rfl
theorem set_all (h:Row w q 134 (cells S v all size)) (n:Nat):Row (w.setCell ⟨q,9,none⟩ (.int .u64 (n:Int))) q 134 (cells S v n size):=h.set 9 _
theorem set_rest (h:Row w q 134 (cells S v all size)) (x:Value):Row (w.setCell ⟨q,8,none⟩ x) q 134 (cells S x all size):=h.set 8 _
end
set_option maxHeartbeats 1600000 in
theorem write_any (q:Nat) (v:Value) (s0:S3.S8) (hs0:s0.ok) (bs:List Nat) (size:Nat) (w:World) (h:KI w q v s0 bs bs.length size) (hbs:Lo 256 bs)
  (bv:Value) (ys:List Nat) (hy:Lo 256 ys) (hsl:SlV w bv (C .u8 ys)) (hn1:0 < ys.length → bv.ownBlock ≠ some q) (hn2:0 < ys.length → bv.ownBlock = none ∨ bv.ownBlock ≠ v.ownBlock) (hm:bs.length + ys.length < 1152921504606846976) (hT:Tabs w) :
  Calls Tryz.prog 212 #[.pointer (some ⟨q,0,none⟩),bv] w fun e w'=>e = .returned (.tuple #[]) ∧ ∃ v',KI w' q v' s0 (bs ++ ys) (bs ++ ys).length size ∧ Kp q v.ownBlock w w' ∧ (v'.ownBlock = v.ownBlock ∨ ∀ k,v'.ownBlock = some k → w.heap.size ≤ k):=by
 obtain ⟨hq2,hrow,hown⟩:=h
 have hv20:∀ k,v.ownBlock = some k → 9 ≤ k:=fun k hk=>(hown.lt k hk).1
 obtain ⟨M,hM⟩:∃ M,ys.length = M:=⟨_,rfl⟩
 obtain ⟨A,hA⟩:∃ A,bs.length = A:=⟨_,rfl⟩
 rw [hA] at hrow
 obtain ⟨sa,sc,rfl,h1,h2⟩:=hsl.shp hM
 have hc1:=cell_all hrow
 have hf1:=hrow.frozen 9
 obtain ⟨G,hG⟩:∃ G,A + M = G:=⟨_,rfl⟩
 have hGm:G < 1152921504606846976:=by omega
 have hw1:IntKind.u64.wrap (M:Int) = (M:Int):=by rw [IntKind.wrap_u64];omega
 have hw2:IntKind.u64.wrap ((A:Int) + (M:Int)) = (G:Int):=by rw [IntKind.wrap_u64];omega
 have HM:=Away.mk hm
 have HG:=Away.mk hG
 have HGm:=Away.mk hGm
 clear hm hG hGm
 have hrow1:=set_all hrow G
 have hkp1:Kp q v.ownBlock w (w.setCell ⟨q,9,none⟩ (.int .u64 (G:Int))):=(Kp.refl _ _ _).grown (grown_set w q 9 _) (fun k hk=>.inl (by simpa using hk.symm))
 have hown1:=hown.kept (grown_set w q 9 (.int .u64 (G:Int))) (.inr (own_ne hown hrow (by decide)))
 go_enter Tryz.func212,Tryz.ntmps212
 go_wp2
 go_loopw [1] (fun bval wr=>∃ (c:Nat) (v':Value),c ≤ M ∧ lenS bval = M - c ∧ SlV w bval (C .u8 (ys.drop c)) ∧ bval.ownBlock = (Value.slice sa M sc).ownBlock ∧ KI wr q v' s0 (bs ++ ys.take c) G size ∧ Kp q v.ownBlock w wr ∧ (v'.ownBlock = v.ownBlock ∨ ∀ k,v'.ownBlock = some k → w.heap.size ≤ k)) (fun bval _=>lenS bval)
 case atStart=>exact ⟨0,v,Nat.zero_le _,rfl,hsl,rfl,⟨hq2,by simpa using hrow1,by simpa using hown1⟩,hkp1,.inl rfl⟩
 case round =>
  clear hrow hown hrow1 hown1 hkp1 hc1 hf1 hw1 hw2
  obtain ⟨c,v',hc,hlen,hsw,hob,⟨-,hrow,hown⟩,hkp,hvb⟩:=hrel
  obtain ⟨X,hX⟩:∃ X,bs ++ ys.take c = X:=⟨_,rfl⟩
  have hXl:X.length = A + c:=by rw [← hX,List.length_append,List.length_take,hA,hM];omega
  have hXb:Lo 256 X:=by rw [← hX];exact hbs.append (hy.take c)
  rw [hX] at hrow hown
  have HX:=Away.mk hX
  clear hX
  obtain ⟨m,hm⟩:∃ m,M - c = m:=⟨_,rfl⟩
  obtain ⟨ba,bc,rfl,hb1,hb2⟩:=hsw.shp (n:=m) (by rw [List.length_drop,hM,hm])
  by_cases hm0:m = 0
  ·subst hm0
   obtain rfl:c = M:=by omega
   have hXe:X = bs ++ ys:=by rw [← HX.out,List.take_of_length_le (Nat.le_of_eq hM)]
   have hGe:G = (bs ++ ys).length:=by rw [← HG.out,List.length_append,hA,hM]
   subst hXe
   go_wp2
   go_returns
   exact ⟨rfl,v',⟨hq2,by rw [← hGe];exact hrow,hown⟩,hkp,hvb⟩
  obtain ⟨r,hr⟩:∃ r,X.length % 128 = r:=⟨_,rfl⟩
  rw [hr] at hown
  have hr1:r < 128:=by omega
  obtain ⟨p,hp⟩:∃ p,128 - r = p:=⟨_,rfl⟩
  have hpi:(128:Int) - (r:Int) = (p:Int):=by omega
  have hmp:(0:Int) < (m:Int):=by omega
  have hmx:(m:Int) ≤ 9223372036854775807:=by unfold maxLen at hb2;omega
  obtain ⟨ra,rc,rfl,hc1,hc2⟩:=(SlV.ofOwn hown).shp (n:=r) (by rw [rst_len,hr])
  have hcr:=cell_rest hrow
  have hcb:=cell_block hrow
  obtain ⟨Y,hY⟩:∃ Y,now S3.blk3 128 s0 X = Y:=⟨_,rfl⟩
  have hYo:Y.ok:=by rw [← hY];exact now_ok hs0 X
  rw [hY] at hrow
  have HY:=Away.mk hY
  clear hY
  have h2v:∀ k,v.ownBlock = some k → 9 ≤ k:=hv20
  by_cases hfull:p ≤ m
  ·have hfi:(p:Int) ≤ (m:Int):=by omega
   go_wp2
   go_region
   obtain ⟨x2,hx2,hrx,hox,hkx⟩:∃ x2:World,wr.drew = x2 ∧ Row x2 q 134 (cells Y (.slice ra r rc) G size) ∧ x2.ownsRow 9 5 1 (.slice ra r rc) r (C .u8 (rst 128 X)) ∧ Kp q v.ownBlock w x2:=⟨_,rfl,hrow,hown,hkp.drew⟩
   rw [hx2]
   clear hx2 hrow hown hkp hcr hcb
   have hyp:0 < ys.length:=by omega
   have hsx:=(hkx.sl hsw (by rw [hob];exact hn1 hyp) (by rw [hob];exact hn2 hyp)).upto p (by omega)
   rw [← C_take] at hsx
   obtain ⟨zs,hzs⟩:∃ zs,(ys.drop c).take p = zs:=⟨_,rfl⟩
   have hzl:zs.length = p:=by rw [← hzs,List.length_take,List.length_drop,hM,hm];omega
   rw [hzs] at hsx
   have HZ:=Away.mk hzs
   have hzx:SlV x2.drew (.slice ba p bc) (C .u8 zs):=hsx
   have h2x:9 ≤ x2.drew.heap.size:=Nat.le_trans hq2 (Nat.le_of_lt hrx.drew.lt)
   have hni:(0:Int) ≤ (p:Int):=by omega
   have hnm:p ≤ m:=by omega
   have hnb:p ≤ bc:=by omega
   clear hzs
   go_wp2_with fail
   refine wp_region_noPanic ?_
   refine wp_region_U (S:=fun w'=>w'.cell? ⟨q,8,none⟩ = some (.slice ra r rc)) 11 (by kernel_rfl) (cell_rest hrx.drew) (fun _=>?_)
   refine tkU 0 ?v0r3f rfl ?h0r3f ?_
   case h0r3f=>intro w hSw;go_simp <;> with_reducible rfl
   simp only [Act.put,stA,st0,st1]
   refine tkU 1 ?v1r3f rfl ?h1r3f ?_
   case h1r3f=>intro w hSw;go_simp <;> with_reducible rfl
   simp only [Act.put,stA,st0,st1]
   refine tkU 2 ?v2r3f rfl ?h2r3f ?_
   case h2r3f=>intro w hSw;go_simp <;> with_reducible rfl
   simp only [Act.put,stA,st0,st1]
   refine tkU 3 ?v3r3f rfl ?h3r3f ?_
   case h3r3f=>intro w hSw;go_simp <;> with_reducible rfl
   simp only [Act.put,stA,st0,st1]
   refine tkU 4 (.slice ra r rc) rfl ?h4r3f ?_
   case h4r3f=>intro w hSw;exact exec_load_cell 23 _ rfl rfl hSw Tryz.underlying23 rfl
   simp only [Act.put,stA,st0,st1]
   refine tkU 5 ?v5r3f rfl ?h5r3f ?_
   case h5r3f=>intro w hSw;go_simp <;> with_reducible rfl
   simp only [Act.put,stA,st0,st1]
   refine tkU 6 ?v6r3f rfl ?h6r3f ?_
   case h6r3f=>intro w hSw;go_simp <;> with_reducible rfl
   simp only [Act.put,stA,st0,st1]
   refine tkU 7 (.slice ba p bc) rfl ?h7r3f ?_
   case h7r3f=>intro w hSw;go_simp;all_goals (rw [if_pos hnb])
   simp only [Act.put,stA,st0,st1]
   refine wpAnyU_oneL (i:=8) (by kernel_rfl) rfl (by rfl) (fun K hK=>?_)
   refine wp_append_at _ _ 23 rfl 9 5 _ 1 Tryz.underlying23 S3.inf8 rfl (.slice ra r rc) r _ rfl hox.drew' _ (C .u8 zs) rfl hzx (C_one _ _) (by rw [C_length,hzl];unfold maxLen;omega) (by rw [C_length,hzl];omega) h2x ?_
   intro v2 w2 ho2 hg2 hv2
   have hR2:=hrx.drew.grown hg2 (fun e=>own_ne hox.drew' hrx.drew (by decide) e.symm)
   have hS2:=cell_rest hR2
   refine hK.out _ _ (fun _=>hS2) (fun _=>?_)
   clear hK K
   refine wpAnyU_oneL (i:=9) (by kernel_rfl) rfl (by rfl) (fun K hK=>?_)
   refine wp_value (.pointer (some ⟨q,0,none⟩)) (by go_simp <;> with_reducible rfl) ?_
   refine hK.out _ _ (fun _=>hS2) (fun _=>?_)
   clear hK K
   refine wpAnyU_oneL (i:=10) (by kernel_rfl) rfl (by rfl) (fun K hK=>?_)
   refine wp_value (.pointer (some ⟨q,8,none⟩)) (by go_simp <;> with_reducible rfl) ?_
   refine hK.out _ _ (fun _=>hS2) (fun _=>?_)
   clear hK K
   refine wpAnyU_oneL (i:=11) (by kernel_rfl) rfl (by rfl) (fun K hK=>?_)
   refine wp_store_cell 23 _ _ rfl q 8 v2 rfl rfl (own_cells ho2) (own_oneCell ho2) hR2 (by simp [cells,C,S3.S8.list]) (by kernel_rfl) ?_
   intro w3 hR3 hg3 hz3
   refine hK.out _ _ (fun hh=>absurd rfl hh) (fun _=>?_)
   clear hK K
   refine wpAnyU_done (by kernel_rfl) ?_ _
   refine NoPanic.normal ?_
   simp only [Act.put,stA,st0,st1]
   rw [C_length,hzl,show r + p = 128 by omega,← C_append] at ho2
   have hvq:=own_ne ho2 hR2 (by decide)
   have ho3:=ho2.kept hg3 (.inr hvq)
   have hk2:Kp q v.ownBlock w w2:=hkx.drew.grown hg2 (fun k hk=>by
    rcases hvb with h | h
    ·exact .inr (.inl (by rw [← hk,h]))
    ·exact .inr (.inr (h k hk)))
   have hk3:Kp q v.ownBlock w w3:=hk2.grown hg3 (fun k hk=>.inl (by simpa using hk.symm))
   have hvb3:v2.ownBlock = v.ownBlock ∨ ∀ k,v2.ownBlock = some k → w.heap.size ≤ k:=by
    rcases hv2 with h | h
    ·rw [h];exact hvb
    ·refine .inr (fun k hk=>?_)
     rw [h] at hk
     have:=hkx.size
     simp only [Option.some.injEq] at hk
     have e:x2.drew.heap.size = x2.heap.size:=rfl
     omega
   have hR3':Row w3 q 134 (cells Y v2 G size):=hR3
   obtain ⟨ra2,rc2,rfl,hd1,hd2⟩:=(SlV.ofOwn ho3).shp (n:=128) (by rw [List.length_append,rst_len,hr,hzl];omega)
   have hcut:=hsw.cutIf p (m - p) (by omega)
   rw [← C_drop,← C_take,List.drop_drop,List.take_of_length_le (by rw [List.length_drop,hM];omega)] at hcut
   have hlb:lenS (Value.slice (if bc = p then ba else Option.map (fun x=>x.add p) ba) (m - p) (bc - p)) = m - p:=by simp [lenS]
   have hbb:(Value.slice (if bc = p then ba else Option.map (fun x=>x.add p) ba) (m - p) (bc - p)).ownBlock = (Value.slice sa M sc).ownBlock:=by rw [← hob];exact cut_block
   have hXz:bs ++ ys.take (c + p) = X ++ zs:=by rw [List.take_add,← List.append_assoc,HX.out,HZ.out]
   have hXl':(X ++ zs).length = A + c + p:=by rw [List.length_append,hXl,hzl]
   have HXz:=Away.mk hXz
   have HC:=Away.mk hcut
   have HV:=Away.mk hvb3
   have HK:=Away.mk hk3
   clear hg2 hv2 hS2 hR2 hg3 hz3 hk2 ho2 hcut hXz hvb hvb3 hzx hsx hR3 hk3 hox hrx hkx
   have hcr:=cell_rest hR3'
   have hcb:=cell_block hR3'
   go_upto_region 5 with (fail)
   generalize (Value.slice (if bc = p then ba else Option.map (fun x=>x.add p) ba) (m - p) (bc - p)) = bv2 at hlb hbb HC ⊢
   have HLB:=Away.mk hlb
   have HBB:=Away.mk hbb
   clear hlb hbb
   have hbi:((128:Int) == 128) = true:=by decide
   go_region
   obtain ⟨x5,hx5,hR5,ho5',hk5⟩:∃ x5:World,w3.drew = x5 ∧ Row x5 q 134 (cells Y (.slice ra2 128 rc2) G size) ∧ x5.ownsRow 9 5 1 (.slice ra2 128 rc2) 128 (C .u8 (rst 128 X ++ zs)) ∧ Kp q v.ownBlock w x5:=⟨_,rfl,hR3',ho3,HK.out.drew⟩
   rw [hx5]
   clear hx5 hR3' ho3 hcr hcb
   have hlo:Lo 256 (rst 128 X ++ zs):=(rst_lo 128 hXb).append (by rw [← HZ.out];exact (hy.drop _).take _)
   have hln:(rst 128 X ++ zs).length = 128:=by rw [List.length_append,rst_len,hr,hzl];omega
   have hT5:Tabs x5.drew:=hT.kp hk5.drew hq2 h2v
   have ho5:=ho5'.drew'
   obtain ⟨F,hFe⟩:∃ F,S3.blk3 Y (rst 128 X ++ zs) = F:=⟨_,rfl⟩
   have HF:=Away.mk hFe
   clear hFe
   go_wp2_with fail
   refine wp_region_noPanic ?_
   refine wp_region_U (S:=fun w'=>Row w' q 134 (cells Y (.slice ra2 128 rc2) G size)) 16 (by kernel_rfl) (hR5.drew) (fun _=>?_)
   refine tkU 0 ?v0r6 rfl ?h0r6 ?_
   case h0r6=>intro w hSw;go_simp <;> with_reducible rfl
   simp only [Act.put,stA,st0,st1]
   refine tkU 1 ?v1r6 rfl ?h1r6 ?_
   case h1r6=>intro w hSw;go_simp <;> with_reducible rfl
   simp only [Act.put,stA,st0,st1]
   refine tkU 2 ?v2r6 rfl ?h2r6 ?_
   case h2r6=>intro w hSw;go_simp <;> with_reducible rfl
   simp only [Act.put,stA,st0,st1]
   refine tkU 3 ?v3r6 rfl ?h3r6 ?_
   case h3r6=>intro w hSw;go_simp <;> with_reducible rfl
   simp only [Act.put,stA,st0,st1]
   refine tkU 4 (.func (.func 134) #[] #[]) rfl ?h4r6 ?_
   case h4r6=>intro w hSw;exact exec_load_cell _ _ rfl rfl (cell_take hSw) Tryz.underlying89 rfl
   simp only [Act.put,stA,st0,st1]
   refine tkU 5 ?v5r6 rfl ?h5r6 ?_
   case h5r6=>intro w hSw;go_simp <;> with_reducible rfl
   simp only [Act.put,stA,st0,st1]
   refine tkU 6 ?v6r6 rfl ?h6r6 ?_
   case h6r6=>intro w hSw;go_simp <;> with_reducible rfl
   simp only [Act.put,stA,st0,st1]
   refine tkU 7 ?v7r6 rfl ?h7r6 ?_
   case h7r6=>intro w hSw;go_simp <;> with_reducible rfl
   simp only [Act.put,stA,st0,st1]
   refine tkU 8 (.agg (C .u64 Y.list).toArray) rfl ?h8r6 ?_
   case h8r6=>intro w hSw;exact exec_load_head 86 _ rfl rfl (show Row _ _ _ (C .u64 Y.list ++ _) from hSw) Tryz.underlying86 S3.i8
   simp only [Act.put,stA,st0,st1]
   refine tkU 9 ?v9r6 rfl ?h9r6 ?_
   case h9r6=>intro w hSw;go_simp <;> with_reducible rfl
   simp only [Act.put,stA,st0,st1]
   refine tkU 10 ?v10r6 rfl ?h10r6 ?_
   case h10r6=>intro w hSw;go_simp <;> with_reducible rfl
   simp only [Act.put,stA,st0,st1]
   refine tkU 11 ?v11r6 rfl ?h11r6 ?_
   case h11r6=>intro w hSw;go_simp <;> with_reducible rfl
   simp only [Act.put,stA,st0,st1]
   refine tkU 12 (.slice ra2 128 rc2) rfl ?h12r6 ?_
   case h12r6=>intro w hSw;exact exec_load_cell 23 _ rfl rfl (cell_rest hSw) Tryz.underlying23 rfl
   simp only [Act.put,stA,st0,st1]
   refine wpAnyU_oneL (i:=13) (by kernel_rfl) rfl (by rfl) (fun K hK=>?_)
   go_simp
   refine (take_any Y hYo _ (rst 128 X ++ zs) hlo hln _ (SlV.ofOwn ho5) hT5).mono ?_
   rintro _ w6 ⟨rfl,hb6⟩
   rw [HF.out]
   have hR6:=hR5.drew.belowS hb6
   refine hK.out _ _ (fun _=>hR6) (fun _=>?_)
   clear hK K
   refine wpAnyU_oneL (i:=14) (by kernel_rfl) rfl (by rfl) (fun K hK=>?_)
   refine wp_value (.pointer (some ⟨q,0,none⟩)) (by go_simp <;> with_reducible rfl) ?_
   refine hK.out _ _ (fun _=>hR6) (fun _=>?_)
   clear hK K
   refine wpAnyU_oneL (i:=15) (by kernel_rfl) rfl (by rfl) (fun K hK=>?_)
   refine wp_value (.pointer (some ⟨q,0,none⟩)) (by go_simp <;> with_reducible rfl) ?_
   refine hK.out _ _ (fun _=>hR6) (fun _=>?_)
   clear hK K
   refine wpAnyU_oneL (i:=16) (by kernel_rfl) rfl (by rfl) (fun K hK=>?_)
   refine wp_store_head 86 _ _ rfl q (C .u64 F.list) rfl rfl (show Row _ _ _ (C .u64 Y.list ++ _) from hR6) S3.i8 rfl (C_allL _ _) ?_
   intro w7 hR7 hg7 hz7
   refine hK.out _ _ (fun hh=>absurd rfl hh) (fun _=>?_)
   clear hK K
   refine wpAnyU_done (by kernel_rfl) ?_ _
   refine NoPanic.normal ?_
   simp only [Act.put,stA,st0,st1]
   have hF:=now_full S3.blk3 128 s0 X zs (by decide) (by rw [hr,hzl];omega)
   have hR7':Row w7 q 134 (cells (now S3.blk3 128 s0 (X ++ zs)) (.slice ra2 128 rc2) G size):=by rw [hF.1,HY.out,HF.out];exact hR7
   have ho6:=own_below ho5 hb6
   have ho7:=ho6.kept hg7 (.inr (own_ne ho6 hR6 (by decide)))
   have hk7:Kp q v.ownBlock w w7:=(hk5.drew.more hb6).grown hg7 (fun k hk=>.inl (by simpa using hk.symm))
   clear hR5 ho5 ho5' hk5 hT5 hb6 hR6 hg7 hz7 hR7 ho6
   have hcr:=cell_rest hR7'
   have hfr:=hR7'.frozen 8
   have hR8:=set_rest hR7' (.slice ra2 0 rc2)
   have ho8:=(own_cut0 ho7).kept (grown_set w7 q 8 (.slice ra2 0 rc2)) (.inr (own_ne (own_cut0 ho7) hR7' (by decide)))
   have hk8:Kp q v.ownBlock w (w7.setCell ⟨q,8,none⟩ (.slice ra2 0 rc2)):=hk7.grown (grown_set w7 q 8 _) (fun k hk=>.inl (by simpa using hk.symm))
   have hF2:=Away.mk hF.2
   clear hF ho7 hk7
   go_wp2
   go_roundw
   case rel =>
    refine ⟨c + p,.slice ra2 0 rc2,by omega,by rw [HLB.out];omega,HC.out,HBB.out,⟨hq2,by rw [HXz.out];exact hR8,?_⟩,hk8,?_⟩
    ·rw [HXz.out,hXl',hF2.out,show (A + c + p) % 128 = 0 by omega];exact ho8
    ·rcases HV.out with h | h
     ·exact .inl (by rw [← h];exact slice_block)
     ·exact .inr (fun k hk=>h k (by rw [← hk];exact slice_block))
   case measure=>rw [HLB.out];simp only [lenS];omega
  ·have hfi:(m:Int) < (p:Int):=by omega
   have hfi':¬ (p:Int) ≤ (m:Int):=by omega
   obtain ⟨t,ht⟩:∃ t,r + m = t:=⟨_,rfl⟩
   have ht1:t < 128:=by omega
   have htd:((t:Int) == 128) = false:=by simp;omega
   go_wp2
   go_region
   obtain ⟨x2,hx2,hrx,hox,hkx⟩:∃ x2:World,wr.drew = x2 ∧ Row x2 q 134 (cells Y (.slice ra r rc) G size) ∧ x2.ownsRow 9 5 1 (.slice ra r rc) r (C .u8 (rst 128 X)) ∧ Kp q v.ownBlock w x2:=⟨_,rfl,hrow,hown,hkp.drew⟩
   rw [hx2]
   clear hx2 hrow hown hkp hcr hcb
   have hyp:0 < ys.length:=by omega
   have hsx:=(hkx.sl hsw (by rw [hob];exact hn1 hyp) (by rw [hob];exact hn2 hyp)).upto m (by omega)
   rw [← C_take] at hsx
   obtain ⟨zs,hzs⟩:∃ zs,(ys.drop c).take m = zs:=⟨_,rfl⟩
   have hzl:zs.length = m:=by rw [← hzs,List.length_take,List.length_drop,hM,hm];omega
   rw [hzs] at hsx
   have HZ:=Away.mk hzs
   have hzx:SlV x2.drew (.slice ba m bc) (C .u8 zs):=hsx
   have h2x:9 ≤ x2.drew.heap.size:=Nat.le_trans hq2 (Nat.le_of_lt hrx.drew.lt)
   have hni:(0:Int) ≤ (m:Int):=by omega
   have hnm:m ≤ m:=by omega
   have hnb:m ≤ bc:=by omega
   clear hzs
   go_wp2_with fail
   refine wp_region_noPanic ?_
   refine wp_region_U (S:=fun w'=>w'.cell? ⟨q,8,none⟩ = some (.slice ra r rc)) 11 (by kernel_rfl) (cell_rest hrx.drew) (fun _=>?_)
   refine tkU 0 ?v0r3p rfl ?h0r3p ?_
   case h0r3p=>intro w hSw;go_simp <;> with_reducible rfl
   simp only [Act.put,stA,st0,st1]
   refine tkU 1 ?v1r3p rfl ?h1r3p ?_
   case h1r3p=>intro w hSw;go_simp <;> with_reducible rfl
   simp only [Act.put,stA,st0,st1]
   refine tkU 2 ?v2r3p rfl ?h2r3p ?_
   case h2r3p=>intro w hSw;go_simp <;> with_reducible rfl
   simp only [Act.put,stA,st0,st1]
   refine tkU 3 ?v3r3p rfl ?h3r3p ?_
   case h3r3p=>intro w hSw;go_simp <;> with_reducible rfl
   simp only [Act.put,stA,st0,st1]
   refine tkU 4 (.slice ra r rc) rfl ?h4r3p ?_
   case h4r3p=>intro w hSw;exact exec_load_cell 23 _ rfl rfl hSw Tryz.underlying23 rfl
   simp only [Act.put,stA,st0,st1]
   refine tkU 5 ?v5r3p rfl ?h5r3p ?_
   case h5r3p=>intro w hSw;go_simp <;> with_reducible rfl
   simp only [Act.put,stA,st0,st1]
   refine tkU 6 ?v6r3p rfl ?h6r3p ?_
   case h6r3p=>intro w hSw;go_simp <;> with_reducible rfl
   simp only [Act.put,stA,st0,st1]
   refine tkU 7 (.slice ba m bc) rfl ?h7r3p ?_
   case h7r3p=>intro w hSw;go_simp;all_goals (rw [if_pos hnb])
   simp only [Act.put,stA,st0,st1]
   refine wpAnyU_oneL (i:=8) (by kernel_rfl) rfl (by rfl) (fun K hK=>?_)
   refine wp_append_at _ _ 23 rfl 9 5 _ 1 Tryz.underlying23 S3.inf8 rfl (.slice ra r rc) r _ rfl hox.drew' _ (C .u8 zs) rfl hzx (C_one _ _) (by rw [C_length,hzl];unfold maxLen;omega) (by rw [C_length,hzl];omega) h2x ?_
   intro v2 w2 ho2 hg2 hv2
   have hR2:=hrx.drew.grown hg2 (fun e=>own_ne hox.drew' hrx.drew (by decide) e.symm)
   have hS2:=cell_rest hR2
   refine hK.out _ _ (fun _=>hS2) (fun _=>?_)
   clear hK K
   refine wpAnyU_oneL (i:=9) (by kernel_rfl) rfl (by rfl) (fun K hK=>?_)
   refine wp_value (.pointer (some ⟨q,0,none⟩)) (by go_simp <;> with_reducible rfl) ?_
   refine hK.out _ _ (fun _=>hS2) (fun _=>?_)
   clear hK K
   refine wpAnyU_oneL (i:=10) (by kernel_rfl) rfl (by rfl) (fun K hK=>?_)
   refine wp_value (.pointer (some ⟨q,8,none⟩)) (by go_simp <;> with_reducible rfl) ?_
   refine hK.out _ _ (fun _=>hS2) (fun _=>?_)
   clear hK K
   refine wpAnyU_oneL (i:=11) (by kernel_rfl) rfl (by rfl) (fun K hK=>?_)
   refine wp_store_cell 23 _ _ rfl q 8 v2 rfl rfl (own_cells ho2) (own_oneCell ho2) hR2 (by simp [cells,C,S3.S8.list]) (by kernel_rfl) ?_
   intro w3 hR3 hg3 hz3
   refine hK.out _ _ (fun hh=>absurd rfl hh) (fun _=>?_)
   clear hK K
   refine wpAnyU_done (by kernel_rfl) ?_ _
   refine NoPanic.normal ?_
   simp only [Act.put,stA,st0,st1]
   rw [C_length,hzl,show r + m = t by omega,← C_append] at ho2
   have hvq:=own_ne ho2 hR2 (by decide)
   have ho3:=ho2.kept hg3 (.inr hvq)
   have hk2:Kp q v.ownBlock w w2:=hkx.drew.grown hg2 (fun k hk=>by
    rcases hvb with h | h
    ·exact .inr (.inl (by rw [← hk,h]))
    ·exact .inr (.inr (h k hk)))
   have hk3:Kp q v.ownBlock w w3:=hk2.grown hg3 (fun k hk=>.inl (by simpa using hk.symm))
   have hvb3:v2.ownBlock = v.ownBlock ∨ ∀ k,v2.ownBlock = some k → w.heap.size ≤ k:=by
    rcases hv2 with h | h
    ·rw [h];exact hvb
    ·refine .inr (fun k hk=>?_)
     rw [h] at hk
     have:=hkx.size
     simp only [Option.some.injEq] at hk
     have e:x2.drew.heap.size = x2.heap.size:=rfl
     omega
   have hR3':Row w3 q 134 (cells Y v2 G size):=hR3
   obtain ⟨ra2,rc2,rfl,hd1,hd2⟩:=(SlV.ofOwn ho3).shp (n:=t) (by rw [List.length_append,rst_len,hr,hzl];omega)
   have hcut:=hsw.cutIf m (m - m) (by omega)
   rw [← C_drop,← C_take,List.drop_drop,List.take_of_length_le (by rw [List.length_drop,hM];omega)] at hcut
   rw [Nat.sub_self] at hcut
   have hlb:lenS (Value.slice (if bc = m then ba else Option.map (fun x=>x.add m) ba) 0 (bc - m)) = m - m:=by simp [lenS]
   have hbb:(Value.slice (if bc = m then ba else Option.map (fun x=>x.add m) ba) 0 (bc - m)).ownBlock = (Value.slice sa M sc).ownBlock:=by rw [← hob];exact cut_block
   have hXz:bs ++ ys.take (c + m) = X ++ zs:=by rw [List.take_add,← List.append_assoc,HX.out,HZ.out]
   have hXl':(X ++ zs).length = A + c + m:=by rw [List.length_append,hXl,hzl]
   have HXz:=Away.mk hXz
   have HC:=Away.mk hcut
   have HV:=Away.mk hvb3
   have HK:=Away.mk hk3
   clear hg2 hv2 hS2 hR2 hg3 hz3 hk2 ho2 hcut hXz hvb hvb3 hzx hsx hR3 hk3 hox hrx hkx
   have hcr:=cell_rest hR3'
   have hcb:=cell_block hR3'
   go_upto_region 5 with (fail)
   generalize (Value.slice (if bc = m then ba else Option.map (fun x=>x.add m) ba) 0 (bc - m)) = bv2 at hlb hbb HC ⊢
   have HLB:=Away.mk hlb
   have HBB:=Away.mk hbb
   clear hlb hbb
   go_region
   go_wp2
   have hP:=now_part S3.blk3 128 s0 X zs (by decide) (by rw [hr,hzl];omega)
   go_roundw
   case rel =>
    refine ⟨c + m,.slice ra2 t rc2,by omega,by rw [HLB.out];omega,HC.out,HBB.out,⟨hq2,by rw [HXz.out,hP.1,HY.out];exact hR3',?_⟩,HK.out.drew,HV.out⟩
    ·rw [HXz.out,hXl',hP.2,show (A + c + m) % 128 = t by omega];exact ho3
   case measure=>rw [HLB.out];simp only [lenS];omega
end W3
theorem cn_lo (B c:Nat):Lo 256 (cn B c):=by
 have h8:Lo 256 (S3.be8 c):=by
  intro x hx
  simp only [S3.be8,List.mem_cons,List.not_mem_nil,or_false] at hx
  rcases hx with rfl | rfl | rfl | rfl | rfl | rfl | rfl | rfl <;> exact Nat.mod_lt _ (by decide)
 unfold cn
 split
 ·exact S3.cnt_lo c
 ·exact h8
theorem pdg_lo (B c x:Nat):Lo 256 (pdg B c x):=by
 intro y hy
 rcases List.mem_cons.1 hy with rfl | hy
 ·decide
 ·rcases List.mem_append.1 hy with hy | hy
  ·exact Z_lo (by decide) _ y hy
  ·exact cn_lo _ _ y hy
theorem pdg_length (B c x:Nat) (hB:0 < B) (h2:B ≤ 128):(pdg B c x).length ≤ 200:=by
 have:=Nat.mod_lt (B - (x + (c + 1)) % B) hB
 have h3:=cn_length B (8 * x)
 unfold pdg
 rw [List.length_cons,List.length_append,Z_length,h3]
 split <;> omega
namespace W3
def zcells:List Value:=C .u64 (Z 8) ++ [Value.slice none 0 0,.int .u64 0,.int .i64 0,.int .i64 0,.nilFunc,.nilFunc]
theorem zT (w:World):(zeroValue 134).run Tryz.prog w = .ok (.agg zcells.toArray) w:=by kernel_rfl
theorem iT:(Tryz.prog.info? 134).map (·.size) = some (8 + 6):=by kernel_rfl
theorem cells_one (S:S3.S8) {v:Value} (hv:v.oneCell' = true) (all size:Nat):(cells S v all size).all (·.oneCell') = true:=by
 unfold cells
 rw [List.all_append,C_allL,List.all_cons,hv]
 rfl
theorem KI.below {w w':World} {q:Nat} {v:Value} {s0:S3.S8} {bs:List Nat} {all size:Nat} (h:KI w q v s0 bs all size) (hb:Below w.heap.size w w'):KI w' q v s0 bs all size :=
 ⟨h.at2,h.row.belowS hb,own_below h.own hb⟩
theorem twin_any (q:Nat) (v:Value) (s0:S3.S8) (bs:List Nat) (all size:Nat) (w:World) (h:KI w q v s0 bs all size) :
  Calls Tryz.prog 211 #[.pointer (some ⟨q,0,none⟩)] w fun e w'=>∃ q' v',e = .returned (.pointer (some ⟨q',0,none⟩)) ∧ KI w' q' v' s0 bs all size ∧ w.heap.size ≤ q' ∧ (∀ k,v'.ownBlock = some k → w.heap.size ≤ k) ∧ Below w.heap.size w w':=by
 obtain ⟨hq2,hrow,hown⟩:=h
 obtain ⟨Y,hY⟩:∃ Y,now S3.blk3 128 s0 bs = Y:=⟨_,rfl⟩
 rw [hY] at hrow
 have HY:=Away.mk hY
 clear hY
 have h2w:9 ≤ w.heap.size:=Nat.le_trans hq2 (Nat.le_of_lt hrow.lt)
 have hN:=Row.new w 134 zcells
 have hL:=Below.more (Below.refl w.heap.size w) (Nat.le_refl _) (.cells zcells.toArray 134)
 have h1:=cells_one Y (own_oneCell hown) all size
 have hi1:(Tryz.prog.info? 134).map (·.size) = some (cells Y v all size).toArray.size:=iT
 have hi2:(Tryz.prog.info? 134).map (·.size) = some (cells Y v all size).length:=iT
 have ho2:zcells.length = (cells Y v all size).length:=rfl
 go_enter Tryz.func211,Tryz.ntmps211
 go_upto_region 2 with (first | refine wpList_load_row rfl 134 _ rfl _ rfl _ _ _ _ hrow Tryz.underlying134 rfl hi1 ?_ | refine wpList_alloc_row rfl 134 rfl _ zT ?_ | (refine wpList_store_R rfl 134 _ _ rfl _ (cells Y v all size) rfl rfl hN hi2 ho2 h1 ?_;intro w2 hR2 hg2 hz2))
 have hL2:=below_grown hL.1 hg2 (Nat.le_refl _) hN.lt
 have hrow2:=hrow.belowS hL2
 have hown2:=own_below hown hL2
 have hcr:=cell_rest hrow2
 clear hN hL hg2 hz2 h1 hi1 hi2 ho2 hrow
 go_wp2_with fail
 refine (clone_any v (rst 128 bs) _ (SlV.ofOwn hown2) (by rw [rst_len];omega)).mono ?_
 rintro _ w3 ⟨v3,rfl,ho3,hb3⟩
 rw [rst_len] at ho3
 obtain ⟨a3,c3,rfl,hs1,hs2⟩:=(SlV.ofOwn ho3).shp (n:=bs.length % 128) (rst_len bs)
 have hR3:=hR2.belowS hb3
 have hL3:=hL2.trans (hb3.mono hL2.size)
 have hsz:=hL2.size
 have hfr:=hR3.frozen 8
 have hcr3:=cell_rest hR3
 have hR4:=set_rest hR3 (.slice a3 (bs.length % 128) c3)
 have ho4:=ho3.kept (grown_set w3 w.heap.size 8 (.slice a3 (bs.length % 128) c3)) (.inr (own_ne ho3 hR3 (by decide)))
 have hvl:∀ k,(Value.slice a3 (bs.length % 128) c3).ownBlock = some k → w.heap.size ≤ k:=fun k hk=>Nat.le_trans hsz (ho3.lt k hk).1
 have hL4:=below_setCell hL3 (Nat.le_refl w.heap.size) (i:=8) (.slice a3 (bs.length % 128) c3)
 clear hR2 hb3 hL2 hL3 hrow2 hown2 hcr hown
 go_wp2
 go_ret
 exact ⟨_,_,rfl,⟨h2w,by rw [HY.out];exact hR4,own_base ho4 (by omega)⟩,Nat.le_refl _,hvl,hL4⟩
theorem pad_ne {w':World} {base n q:Nat} {v:Value} {xs:List Value} (h:w'.ownsRow base 5 1 v n xs) (hq:q < base):v.ownBlock ≠ some q:=fun e=>by
 have:=(h.lt q e).1
 omega
theorem pad_ne2 {w w':World} {base n b2 n2:Nat} {e2:TypeId} {v v2:Value} {xs ys:List Value} (h:w'.ownsRow base 5 1 v n xs) (h2:w.ownsRow b2 e2 1 v2 n2 ys) (hb:w.heap.size ≤ base):v.ownBlock = none ∨ v.ownBlock ≠ v2.ownBlock:=by
 by_cases hn:v.ownBlock = none
 ·exact .inl hn
 ·obtain ⟨k,hk⟩:=Option.ne_none_iff_exists'.1 hn
  refine .inr (fun e=>?_)
  have h3:=(h.lt k hk).1
  have h4:=(h2.lt k (e ▸ hk)).2
  omega
set_option maxHeartbeats 800000 in
theorem sum_any (q:Nat) (v:Value) (s0:S3.S8) (hs0:s0.ok) (bs:List Nat) (hbs:Lo 256 bs) (hm:bs.length < 1152921504606846000) (size:Nat) (hsz:size ≤ 64) (w:World) (h:KI w q v s0 bs bs.length size) (hT:Tabs w) :
  Calls Tryz.prog 210 #[.pointer (some ⟨q,0,none⟩)] w fun e w'=>∃ v',e = .returned v' ∧ w'.ownsRow w.heap.size 5 1 v' size (C .u8 ((S3.out3 (now S3.blk3 128 s0 (bs ++ pdg 128 16 bs.length))).take size)) ∧ Below w.heap.size w w':=by
 obtain ⟨n,hn⟩:∃ n,bs.length = n:=⟨_,rfl⟩
 go_enter Tryz.func210,Tryz.ntmps210
 go_wp2_with fail
 refine (twin_any q v s0 bs _ size w h).mono ?_
 rintro _ w1 ⟨q1,v1,rfl,hI1,hq1,hv1,hb1⟩
 have hI:=h.below hb1
 have hT1:=hT.below hb1
 have hqlt:=h.row.lt
 have hca:=cell_all hI.row
 have hcb:=cell_block hI.row
 clear h
 have hca':w1.cell? ⟨q,9,none⟩ = some (.int .u64 (n:Int)):=by rw [← hn];exact hca
 have hm':n < 1152921504606846000:=by omega
 have hbsn:=Away.mk hn
 have hmA:=Away.mk hm
 have hmA':=Away.mk hm'
 have hq11:=hI1.row.lt
 clear hca hn hm hm'
 go_wp2_with fail
 go_region_with (first
  | (go_at_call 200;refine (padding_large n hmA'.out _).mono ?_;rintro _ w2 ⟨pv,pn,rfl,hpo,hb2⟩)
  | (go_at_call 212;refine (write_any q1 v1 s0 hs0 bs size _ (hI1.below (below_of_drew hb2)) hbs pv (pdg 128 16 n) (pdg_lo _ _ _) (SlV.ofOwn hpo) (fun _=>pad_ne hpo hq11) (fun _=>pad_ne2 hpo hI1.own (Nat.le_refl _)) (by have:=hmA.out;have:=pdg_length 128 16 n (by decide) (by decide);omega) (hT1.below (below_of_drew hb2))).mono ?_;rintro _ w3 ⟨rfl,v3,hI3,hk3,hv3⟩))
 all_goals (
  have hb3:Below w.heap.size w w3:=Kp.below (hb1.trans ((below_of_drew hb2).mono hb1.size)) hk3 (Nat.le_trans hb1.size (below_of_drew hb2).size) hq1 hv1
  obtain ⟨hq12,hrow3,hown3⟩:=hI3
  obtain ⟨G,hG⟩:∃ G,(bs ++ pdg 128 16 n).length = G:=⟨_,rfl⟩
  obtain ⟨Y,hY⟩:∃ Y,now S3.blk3 128 s0 (bs ++ pdg 128 16 n) = Y:=⟨_,rfl⟩
  have hYo:Y.ok:=by rw [← hY];exact now_ok hs0 _
  rw [hG,hY] at hrow3
  have HY:=Away.mk hY
  clear hG hY hI1 hI hT1 hca' hcb hpo hb2 hk3 hv3 hown3
  go_wp2_with fail
  refine wp_region_noPanic ?_
  refine wp_region_held_drew (S:=fun w'=>Row w' q1 134 (cells Y v3 G size)) (by kernel_rfl) (hrow3.drew) (fun _=>?_)
  refine tkg 0 rfl ?_
  simp only [Act.put,stA,st0,st1]
  refine tkg 1 rfl ?_
  simp only [Act.put,stA,st0,st1]
  refine tkg 2 rfl ?_
  simp only [Act.put,stA,st0,st1]
  refine tkL 3 (.func (.func 135) #[] #[]) rfl (fun w hSw=>exec_load_cell _ _ rfl rfl (cell_tell hSw) Tryz.underlying132 rfl) ?_
  simp only [Act.put,stA,st0,st1]
  refine tkg 4 rfl ?_
  simp only [Act.put,stA,st0,st1]
  refine tkg 5 rfl ?_
  simp only [Act.put,stA,st0,st1]
  refine tkg 6 rfl ?_
  simp only [Act.put,stA,st0,st1]
  refine tkL 7 (.agg (C .u64 Y.list).toArray) rfl (fun w hSw=>exec_load_head 86 _ rfl rfl (show Row _ _ _ (C .u64 Y.list ++ _) from hSw) Tryz.underlying86 S3.i8) ?_
  simp only [Act.put,stA,st0,st1]
  refine tkg 8 rfl ?_
  simp only [Act.put,stA,st0,st1]
  refine tkg 9 rfl ?_
  simp only [Act.put,stA,st0,st1]
  refine tkg 10 rfl ?_
  simp only [Act.put,stA,st0,st1]
  refine tkL 11 (.int .i64 (size:Int)) rfl (fun w hSw=>exec_load_cell 3 _ rfl rfl (cell_size hSw) Tryz.underlying3 rfl) ?_
  simp only [Act.put,stA,st0,st1]
  refine ar1 12 rfl (fun K hK=>?_)
  go_simp
  refine (tells_any Y hYo size hsz _).mono ?_
  rintro _ w4 ⟨v4,rfl,ho4,hb4⟩
  have hR4:=hrow3.drew.belowS hb4
  refine hK.out _ _ (hR4) (fun _=>?_)
  clear hK K
  refine ar1 13 rfl (fun K hK=>?_)
  refine wp_value v4 (by go_simp <;> with_reducible rfl) ?_
  refine hK.out _ _ (hR4) (fun _=>?_)
  clear hK K
  refine wpAnyH_done (by kernel_rfl) ?_ _
  refine NoPanic.normal ?_
  simp only [Act.put,stA,st0,st1]
  have hb5:=hb3.trans ((below_of_drew hb4).mono hb3.size)
  have ho5:=own_base ho4 (show w.heap.size ≤ w3.drew.heap.size from hb3.size)
  go_wp2
  go_ret
  exact ⟨_,rfl,by rw [hbsn.out,HY.out];exact ho5,hb5⟩)
end W3
theorem gbl3 (s:S3.S8) (p:List Nat) (n:Nat):gbl S3.blk3 128 s p n = S3.blks3 s p n:=by
 induction n with
 | zero=>rfl
 | succ n ih=>rw [gbl,S3.blks3,ih]
theorem pad3_eq (bs:List Nat) (h:bs.length < 1152921504606846976):S3.pad3 bs = bs ++ pdg 128 16 bs.length:=by
 have e1:S3.zs3 bs.length = (128 - (bs.length + (16 + 1)) % 128) % 128:=by unfold S3.zs3;omega
 have e2:8 * bs.length % 18446744073709551616 = 8 * bs.length:=by omega
 unfold S3.pad3 pdg
 rw [e1,e2]
 rfl
theorem tells3 (b:Bool) (bs:List Nat) (h:bs.length < 1152921504606846976):S3.out3 (now S3.blk3 128 (S3.start3 b) (bs ++ pdg 128 16 bs.length)) = S3.sum3 b bs:=by
 rw [← pad3_eq bs h,now,gbl3]
 rfl
theorem isNone_some (hp:Nat) (T:TypeId) (x:Value) (w:World) (hc:w.cell? ⟨hp,0,none⟩ = some (.iface T x)):Calls Tryz.prog 100 #[.pointer (some ⟨hp,0,none⟩)] w fun e w'=>e = .returned (.bool false) ∧ w = w':=by
 have hq:∀ w,(binOp .eql 98 (.iface T x) .nilIface).run Tryz.prog w = .ok (.bool false) w:=fun _=>by rfl
 go_enter Tryz.func100,Tryz.ntmps100
 go_wp2
 go_ret
 exact ⟨rfl,rfl⟩
section
variable (hp q:Nat) (v:Value) (s0:S3.S8) (bs:List Nat) (size:Nat) (w:World)
theorem hsum_3 (hs0:s0.ok) (hbs:Lo 256 bs) (hm:bs.length < 1152921504606846000) (hsz:size ≤ 64) (hT:Tabs w) (hr:Row w hp 101 [.iface 131 (.pointer (some ⟨q,0,none⟩))]) (hk:W3.KI w q v s0 bs bs.length size) :
  Calls Tryz.prog 56 #[.pointer (some ⟨hp,0,none⟩)] w fun e w'=>∃ v',e = .returned v' ∧ w'.ownsRow w.heap.size 5 1 v' size (C .u8 ((S3.out3 (now S3.blk3 128 s0 (bs ++ pdg 128 16 bs.length))).take size)) ∧ Below w.heap.size w w':=by
 have hc:w.cell? ⟨hp,0,none⟩ = some (.iface 131 (.pointer (some ⟨q,0,none⟩))):=hr.cell 0
 have HM:=Away.mk hm
 clear hm
 go_enter Tryz.func56,Tryz.ntmps56
 go_wp2_with fail
 refine (isNone_some _ _ _ _ hc).mono ?_
 rintro _ w1 ⟨rfl,rfl⟩
 go_wp2_with fail
 refine (W3.sum_any q v s0 hs0 bs hbs HM.out size hsz w hk hT).mono ?_
 rintro _ w1 ⟨v1,rfl,ho,hb⟩
 clear hk hr
 have HO:=Away.mk ho
 clear ho
 go_wp2
 go_ret
 exact ⟨_,rfl,HO.out,hb⟩
theorem hwrite_3 (hs0:s0.ok) (hbs:Lo 256 bs) (hr:Row w hp 101 [.iface 131 (.pointer (some ⟨q,0,none⟩))]) (hk:W3.KI w q v s0 bs bs.length size)
  (bv:Value) (ys:List Nat) (hy:Lo 256 ys) (hsl:SlV w bv (C .u8 ys)) (hn1:0 < ys.length → bv.ownBlock ≠ some q) (hn2:0 < ys.length → bv.ownBlock = none ∨ bv.ownBlock ≠ v.ownBlock) (hm:bs.length + ys.length < 1152921504606846976) (hT:Tabs w) :
  Calls Tryz.prog 55 #[.pointer (some ⟨hp,0,none⟩),bv] w fun e w'=>e = .returned (.tuple #[]) ∧ ∃ v',W3.KI w' q v' s0 (bs ++ ys) (bs ++ ys).length size ∧ Kp q v.ownBlock w w' ∧ (v'.ownBlock = v.ownBlock ∨ ∀ k,v'.ownBlock = some k → w.heap.size ≤ k):=by
 have hc:w.cell? ⟨hp,0,none⟩ = some (.iface 131 (.pointer (some ⟨q,0,none⟩))):=hr.cell 0
 have HM:=Away.mk hm
 clear hm
 go_enter Tryz.func55,Tryz.ntmps55
 go_wp2_with fail
 refine (isNone_some _ _ _ _ hc).mono ?_
 rintro _ w1 ⟨rfl,rfl⟩
 go_wp2_with fail
 refine (W3.write_any q v s0 hs0 bs size w hk hbs bv ys hy hsl hn1 hn2 HM.out hT).mono ?_
 rintro _ w1 ⟨rfl,v1,hI,hkp,hv⟩
 go_wp2
 go_returns
 exact ⟨rfl,v1,hI,hkp,hv⟩
end
theorem wp_built {P:Program} {o:Oper} {a:Act} {w:World} {K:Act → World → Prop} {Q:Exit → Act → World → Prop} {t:TypeId} {parts:Array (Nat × Operand)} (ho:o.op = .build t parts) {cs:Array Value} (hb:P.built t (parts.map fun (i,x)=>(i,a.eval x)).toList = some cs) (h:K (a.put o.dst (.agg cs)) w):o.wp P a w K Q :=
 wp_build t parts ho (by rw [hb];rfl) (by rw [hb];exact h)
theorem built_10:Tryz.prog.built 134 [(0,.agg (C .u64 (S3.start3 (true)).list).toArray),(3,.int .i64 128),(4,.int .i64 (64:Nat)),(5,.func (.func 134) #[] #[]),(6,.func (.func 135) #[] #[])] = some (W3.cells (S3.start3 (true)) (.slice none 0 0) 0 (64)).toArray:=by kernel_rfl
set_option maxHeartbeats 800000 in
theorem begun_10 (w:World) (hT:Tabs w):Calls Tryz.prog 99 #[.int .i64 10] w fun e w'=>∃ q,e = .returned (.iface 131 (.pointer (some ⟨q,0,none⟩))) ∧ W3.KI w' q (.slice none 0 0) (S3.start3 (true)) [] 0 (64) ∧ w.heap.size ≤ q ∧ Below w.heap.size w w':=by
 have h2:9 ≤ w.heap.size:=hT.b.pos
 obtain ⟨Y,hY⟩:∃ Y,(S3.start3 (true)) = Y:=⟨_,rfl⟩
 obtain ⟨cs,hcs⟩:∃ cs,(W3.cells (S3.start3 (true)) (.slice none 0 0) 0 (64)) = cs:=⟨_,rfl⟩
 have hBu:=built_10
 rw [hcs,hY] at hBu
 have HB:=Away.mk hBu
 clear hBu
 have HY:=Away.mk hY
 have HC:=Away.mk hcs
 clear hY hcs
 go_enter Tryz.func99,Tryz.ntmps99
 go_wp2_with fail
 refine (S3.start_any _ _).mono ?_
 rintro _ w1 ⟨rfl,hb1⟩
 rw [show S3.start3 true = Y from HY.out]
 have hA:=Row.new w1 86 (C .u64 (Z 8))
 have hL2:=Below.more hb1 hb1.size (.cells (C .u64 (Z 8)).toArray 86)
 have hsz:=hb1.size
 have iH:(Tryz.prog.info? 86).map (·.size) = some (C .u64 Y.list).length:=S3.i8
 have hH:(C .u64 (Z 8)).length = (C .u64 Y.list).length:=rfl
 clear hb1
 go_upto_region 11 with (first | refine wpList_alloc_row rfl 86 rfl _ S3.z8 ?_ | (refine wpList_store_R rfl 86 _ _ rfl _ (C .u64 Y.list) rfl rfl hA iH hH (C_allL _ _) ?_;intro w2 hA2 hg2 hz2))
 have hL3:=below_grown hL2.1 hg2 hsz hA.lt
 have hsz2:w1.heap.size < w2.heap.size:=hA2.lt
 have hN:=Row.new w2.drew 134 cs
 have hL4:=Below.more hL3.drew (show w.heap.size ≤ w2.drew.heap.size from hL3.size) (.cells cs.toArray 134)
 clear hA hL2 hg2 hz2
 refine wp_region_noPanic ?_
 refine wp_region_held_drew (S:=fun w'=>Row w' w1.heap.size 86 (C .u64 Y.list)) (by kernel_rfl) (hA2.drew) (fun _=>?_)
 refine tkL 0 (.agg (C .u64 Y.list).toArray) rfl (fun w hSw=>exec_load_R 86 _ rfl rfl hSw Tryz.underlying86 S3.i8) ?_
 simp only [Act.put,stA,st0,st1]
 refine tkg 1 rfl ?_
 simp only [Act.put,stA,st0,st1]
 refine ar1 2 rfl (fun K hK=>?_)
 go_simp
 refine (size10_any _).mono ?_
 rintro _ w5 ⟨rfl,rfl⟩
 refine hK.out _ _ (hA2.drew) (fun _=>?_)
 clear hK K
 refine ar1 3 rfl (fun K hK=>?_)
 refine wp_built rfl (cs:=cs.toArray) (by simp only [List.map_toArray,List.map_cons,List.map_nil,Act.eval];exact HB.out) ?_
 refine hK.out _ _ (hA2.drew) (fun _=>?_)
 clear hK K
 refine ar1 4 rfl (fun K hK=>?_)
 go_simp
 refine hK.out _ _ ((hA2.drew).alloc _) (fun _=>?_)
 clear hK K
 refine ar1 5 rfl (fun K hK=>?_)
 refine wp_value (.iface 131 (.pointer (some ⟨w2.heap.size,0,none⟩))) (by go_simp <;> with_reducible rfl) ?_
 refine hK.out _ _ ((hA2.drew).alloc _) (fun _=>?_)
 clear hK K
 refine ar1 6 rfl (fun K hK=>?_)
 refine wp_value (.iface 131 (.pointer (some ⟨w2.heap.size,0,none⟩))) (by go_simp <;> with_reducible rfl) ?_
 refine hK.out _ _ ((hA2.drew).alloc _) (fun _=>?_)
 clear hK K
 refine wpAnyH_done (by kernel_rfl) ?_ _
 refine NoPanic.normal ?_
 simp only [Act.put,stA,st0,st1]
 go_wp2
 go_ret
 refine ⟨_,rfl,⟨by omega,?_,World.ownsRow_nil _ 9 _ 1⟩,by omega,hL4.1⟩
 show Row _ _ _ (W3.cells (S3.start3 (true)) (.slice none 0 0) 0 (64))
 rw [HC.out]
 exact hN
theorem new_10 (w:World) (hT:Tabs w):Calls Tryz.prog 54 #[.int .i64 10] w fun e w'=>∃ hp q,e = .returned (.tuple #[.pointer (some ⟨hp,0,none⟩),.int .i64 0]) ∧ Row w' hp 101 [.iface 131 (.pointer (some ⟨q,0,none⟩))] ∧ W3.KI w' q (.slice none 0 0) (S3.start3 true) [] 0 64 ∧ hp ≠ q ∧ w.heap.size ≤ hp ∧ w.heap.size ≤ q ∧ Below w.heap.size w w':=by
 have h2:9 ≤ w.heap.size:=hT.b.pos
 go_enter Tryz.func54,Tryz.ntmps54
 go_wp2_with fail
 refine (begun_10 w hT).mono ?_
 rintro _ w1 ⟨q1,rfl,hI,hq,hb⟩
 have hqn:∀ w,(binOp .eql 98 (.iface 131 (.pointer (some ⟨q1,0,none⟩))) .nilIface).run Tryz.prog w = .ok (.bool false) w:=fun _=>by rfl
 have hN:=Row.new w1 101 [.iface 131 (.pointer (some ⟨q1,0,none⟩))]
 have hL:=Below.more (Below.refl w1.heap.size w1) (Nat.le_refl _) (.cells [Value.iface 131 (.pointer (some ⟨q1,0,none⟩))].toArray 101)
 have hI2:=hI.below hL.1
 have hb2:=hb.trans (hL.1.mono hb.size)
 have hsz:=hb.size
 have hql:=hI.row.lt
 clear hL hI hb
 go_wp2
 go_ret2
 exact ⟨_,_,rfl,hN,hI2,by omega,hsz,hq,hb2⟩
end Go.Proofs.YtmjimilhomabfaaGreatDoor.S9
