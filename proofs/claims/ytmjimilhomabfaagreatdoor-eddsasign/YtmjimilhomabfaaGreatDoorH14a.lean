/-
 SHA-512 over this seat: the mathematics, a block, the start.
-/
import Derived.Test.YtmjimilhomabfaaGreatDoorK13
import Derived.Test.YtmjimilhomabfaaGreatDoorRows
import Derived.Deep.RegionHeld3
import Derived.Deep.DeepCutAuto
import Derived.Deep.Cut
import Derived.WalkSmall
namespace Go.Proofs.YtmjimilhomabfaaGreatDoor.S3
set_option maxRecDepth 10000
open Go.RowKit
set_option linter.unusedVariables false
theorem or_lt64 {a b:Nat} (ha:a < 18446744073709551616) (hb:b < 18446744073709551616):a ||| b < 18446744073709551616:=Nat.or_lt_two_pow (n:=64) ha hb
theorem and_lt64 {a b:Nat} (ha:a < 18446744073709551616):a &&& b < 18446744073709551616:=Nat.lt_of_le_of_lt Nat.and_le_left ha
theorem xor_lt64 {a b:Nat} (ha:a < 18446744073709551616) (hb:b < 18446744073709551616):a ^^^ b < 18446744073709551616:=Nat.xor_lt_two_pow (n:=64) ha hb
theorem shr_lt64 {x:Nat} (hx:x < 18446744073709551616) (k:Nat):x / 2 ^ k < 18446744073709551616:=Nat.lt_of_le_of_lt (Nat.div_le_self _ _) hx
theorem mod_lt64 (x:Nat):x % 18446744073709551616 < 18446744073709551616:=Nat.mod_lt _ (by decide)
theorem not64 (b:Nat) (hb:b < 18446744073709551616):bits .xor .u64 IntKind.u64.max (b:Int) = ((b ^^^ 18446744073709551615:Nat):Int):=by
 rw [show IntKind.u64.max = ((18446744073709551615:Nat):Int) by simp [IntKind.max,IntKind.signed,IntKind.bits],u64_xor_nat _ _ (by decide) hb,Nat.xor_comm]
def be (n i:Nat):Nat:=n / 2 ^ (8 * i) % 256
def be8 (n:Nat):List Nat:=[be n 7,be n 6,be n 5,be n 4,be n 3,be n 2,be n 1,be n 0]
def wd8 (b:List Nat) (t:Nat):Nat:=b.getD (8 * t) 0 * 72057594037927936 + b.getD (8 * t + 1) 0 * 281474976710656 + b.getD (8 * t + 2) 0 * 1099511627776 + b.getD (8 * t + 3) 0 * 4294967296 + b.getD (8 * t + 4) 0 * 16777216 + b.getD (8 * t + 5) 0 * 65536 + b.getD (8 * t + 6) 0 * 256 + b.getD (8 * t + 7) 0
theorem wd8_lt {b:List Nat} (h:Lo 256 b) (t:Nat):wd8 b t < 18446744073709551616:=by
 have h0:=h.getD (by decide) (8 * t)
 have h1:=h.getD (by decide) (8 * t + 1)
 have h2:=h.getD (by decide) (8 * t + 2)
 have h3:=h.getD (by decide) (8 * t + 3)
 have h4:=h.getD (by decide) (8 * t + 4)
 have h5:=h.getD (by decide) (8 * t + 5)
 have h6:=h.getD (by decide) (8 * t + 6)
 have h7:=h.getD (by decide) (8 * t + 7)
 unfold wd8;omega
def zs3 (n:Nat):Nat:=(239 - n % 128) % 128
def pad3 (b:List Nat):List Nat:=b ++ 128 :: (List.replicate (zs3 b.length) 0 ++ ([0,0,0,0,0,0,0,0] ++ be8 (8 * b.length % 18446744073709551616)))
def ror (n x:Nat):Nat:=(x * 2 ^ (64 - n) % 18446744073709551616) ||| (x / 2 ^ n)
def tri (i j k x:Nat):Nat:=ror i x ^^^ ror j x ^^^ ror k x
def spr (i j k x:Nat):Nat:=ror i x ^^^ ror j x ^^^ (x / 2 ^ k)
def ch3 (e f g:Nat):Nat:=(e &&& f) ^^^ ((e ^^^ 18446744073709551615) &&& g)
def mj3 (a b c:Nat):Nat:=(a &&& b) ^^^ (a &&& c) ^^^ (b &&& c)
def K3L:List Nat:=[4794697086780616226,8158064640168781261,13096744586834688815,16840607885511220156,4131703408338449720,6480981068601479193,10538285296894168987,12329834152419229976,15566598209576043074,1334009975649890238,2608012711638119052,6128411473006802146,8268148722764581231,9286055187155687089,11230858885718282805,13951009754708518548,16472876342353939154,17275323862435702243,1135362057144423861,2597628984639134821,3308224258029322869,5365058923640841347,6679025012923562964,8573033837759648693,10970295158949994411,12119686244451234320,12683024718118986047,13788192230050041572,14330467153632333762,15395433587784984357,489312712824947311,1452737877330783856,2861767655752347644,3322285676063803686,5560940570517711597,5996557281743188959,7280758554555802590,8532644243296465576,9350256976987008742,10552545826968843579,11727347734174303076,12113106623233404929,14000437183269869457,14369950271660146224,15101387698204529176,15463397548674623760,17586052441742319658,1182934255886127544,1847814050463011016,2177327727835720531,2830643537854262169,3796741975233480872,4115178125766777443,5681478168544905931,6601373596472566643,7507060721942968483,8399075790359081724,8693463985226723168,9568029438360202098,10144078919501101548,10430055236837252648,11840083180663258601,13761210420658862357,14299343276471374635,14566680578165727644,15097957966210449927,16922976911328602910,17689382322260857208,500013540394364858,748580250866718886,1242879168328830382,1977374033974150939,2944078676154940804,3659926193048069267,4368137639120453308,4836135668995329356,5532061633213252278,6448918945643986474,6902733635092675308,7801388544844847127]
def K3 (t:Nat):Nat:=K3L.getD t 0
theorem K3L_length:K3L.length = 80:=rfl
theorem K3L_lo:Lo 18446744073709551616 K3L:=by
 have h:(K3L.all fun x=>decide (x < 18446744073709551616)) = true:=by decide +kernel
 intro x hx
 exact of_decide_eq_true (List.all_eq_true.1 h x hx)
theorem K3_lt (t:Nat):K3 t < 18446744073709551616:=K3L_lo.getD (by decide) t
structure S8 where
 a:Nat
 b:Nat
 c:Nat
 d:Nat
 e:Nat
 f:Nat
 g:Nat
 h:Nat
def S8.ok (s:S8):Prop:=s.a < 18446744073709551616 ∧ s.b < 18446744073709551616 ∧ s.c < 18446744073709551616 ∧ s.d < 18446744073709551616 ∧ s.e < 18446744073709551616 ∧ s.f < 18446744073709551616 ∧ s.g < 18446744073709551616 ∧ s.h < 18446744073709551616
def S8.list (s:S8):List Nat:=[s.a,s.b,s.c,s.d,s.e,s.f,s.g,s.h]
def t1f (t x:Nat) (s:S8):Nat:=(s.h + tri 14 18 41 s.e + ch3 s.e s.f s.g + K3 t + x) % 18446744073709551616
def t2f (s:S8):Nat:=(tri 28 34 39 s.a + mj3 s.a s.b s.c) % 18446744073709551616
def stp3 (t x:Nat) (s:S8):S8:=⟨(t1f t x s + t2f s) % 18446744073709551616,s.a,s.b,s.c,(s.d + t1f t x s) % 18446744073709551616,s.e,s.f,s.g⟩
def stps3 (ws:List Nat) (s:S8):Nat → S8
 | 0=>s
 | k + 1=>stp3 k (ws.getD k 0) (stps3 ws s k)
def add3 (s t:S8):S8:=⟨(s.a + t.a) % 18446744073709551616,(s.b + t.b) % 18446744073709551616,(s.c + t.c) % 18446744073709551616,(s.d + t.d) % 18446744073709551616,(s.e + t.e) % 18446744073709551616,(s.f + t.f) % 18446744073709551616,(s.g + t.g) % 18446744073709551616,(s.h + t.h) % 18446744073709551616⟩
def nxt3 (ws:List Nat) (t:Nat):Nat:=(spr 19 61 6 (ws.getD (t - 2) 0) + ws.getD (t - 7) 0 + spr 1 8 7 (ws.getD (t - 15) 0) + ws.getD (t - 16) 0) % 18446744073709551616
def sch3 (b:List Nat):Nat → List Nat
 | 0=>[]
 | t + 1=>sch3 b t ++ [if t < 16 then wd8 b t else nxt3 (sch3 b t) t]
def blk3 (s:S8) (b:List Nat):S8:=add3 s (stps3 (sch3 b 80) s 80)
def blks3 (s:S8) (p:List Nat):Nat → S8
 | 0=>s
 | n + 1=>blk3 (blks3 s p n) ((p.drop (128 * n)).take 128)
def startL:S8:=⟨7640891576956012808,13503953896175478587,4354685564936845355,11912009170470909681,5840696475078001361,11170449401992604703,2270897969802886507,6620516959819538809⟩
def startS:S8:=⟨14680500436340154072,7105036623409894663,10473403895298186519,1526699215303891257,7436329637833083697,10282925794625328401,15784041429090275239,5167115440072839076⟩
def start3 (b:Bool):S8:=if b then startL else startS
def out3 (s:S8):List Nat:=be8 s.a ++ be8 s.b ++ be8 s.c ++ be8 s.d ++ be8 s.e ++ be8 s.f ++ be8 s.g ++ be8 s.h
def sum3 (b:Bool) (xs:List Nat):List Nat:=out3 (blks3 (start3 b) (pad3 xs) ((pad3 xs).length / 128))
theorem ror_lt {x:Nat} (hx:x < 18446744073709551616) (n:Nat):ror n x < 18446744073709551616:=or_lt64 (mod_lt64 _) (shr_lt64 hx _)
theorem tri_lt {x:Nat} (hx:x < 18446744073709551616) (i j k:Nat):tri i j k x < 18446744073709551616:=xor_lt64 (xor_lt64 (ror_lt hx _) (ror_lt hx _)) (ror_lt hx _)
theorem spr_lt {x:Nat} (hx:x < 18446744073709551616) (i j k:Nat):spr i j k x < 18446744073709551616:=xor_lt64 (xor_lt64 (ror_lt hx _) (ror_lt hx _)) (shr_lt64 hx _)
theorem ch3_lt {e f g:Nat} (he:e < 18446744073709551616):ch3 e f g < 18446744073709551616:=xor_lt64 (and_lt64 he) (and_lt64 (xor_lt64 he (by decide)))
theorem mj3_lt {a b c:Nat} (ha:a < 18446744073709551616) (hb:b < 18446744073709551616):mj3 a b c < 18446744073709551616:=xor_lt64 (xor_lt64 (and_lt64 ha) (and_lt64 ha)) (and_lt64 hb)
theorem stp3_ok {t x:Nat} {s:S8} (h:s.ok):(stp3 t x s).ok:=⟨mod_lt64 _,h.1,h.2.1,h.2.2.1,mod_lt64 _,h.2.2.2.2.1,h.2.2.2.2.2.1,h.2.2.2.2.2.2.1⟩
theorem stps3_ok {ws:List Nat} {s:S8} (h:s.ok) (k:Nat):(stps3 ws s k).ok:=by
 induction k with
 | zero=>exact h
 | succ k ih=>exact stp3_ok ih
theorem add3_ok (s t:S8):(add3 s t).ok:=⟨mod_lt64 _,mod_lt64 _,mod_lt64 _,mod_lt64 _,mod_lt64 _,mod_lt64 _,mod_lt64 _,mod_lt64 _⟩
theorem blk3_ok (s:S8) (b:List Nat):(blk3 s b).ok:=add3_ok _ _
theorem startL_ok:startL.ok:=by refine ⟨?_,?_,?_,?_,?_,?_,?_,?_⟩ <;> decide
theorem startS_ok:startS.ok:=by refine ⟨?_,?_,?_,?_,?_,?_,?_,?_⟩ <;> decide
theorem start3_ok (b:Bool):(start3 b).ok:=by cases b;exact startS_ok;exact startL_ok
theorem blks3_ok {s:S8} (h:s.ok) (p:List Nat) (n:Nat):(blks3 s p n).ok:=by
 cases n with
 | zero=>exact h
 | succ n=>exact blk3_ok _ _
theorem sch3_length (b:List Nat) (t:Nat):(sch3 b t).length = t:=by
 induction t with
 | zero=>rfl
 | succ t ih=>simp [sch3,ih]
theorem sch3_lo {b:List Nat} (h:Lo 256 b) (t:Nat):Lo 18446744073709551616 (sch3 b t):=by
 induction t with
 | zero=>exact Lo.nil _
 | succ t ih =>
  refine ih.append ?_
  intro x hx
  rw [List.mem_singleton] at hx
  subst hx
  split
  ·exact wd8_lt h t
  ·exact mod_lt64 _
theorem ror_eq (x n:Nat) (hx:x < 18446744073709551616) (hn:n ≤ 64):bits .or .u64 ((x:Int) * 2 ^ (64 - n) % 18446744073709551616) ((x:Int) / 2 ^ n) = (ror n x:Nat):=by
 have e1:(x:Int) * 2 ^ (64 - n) % 18446744073709551616 = ((x * 2 ^ (64 - n) % 18446744073709551616:Nat):Int):=by simp
 have e2:(x:Int) / 2 ^ n = ((x / 2 ^ n:Nat):Int):=by simp
 rw [e1,e2,u64_or_nat _ _ (mod_lt64 _) (shr_lt64 hx _),ror]
theorem rotl_any (x n:Nat) (hx:x < 18446744073709551616) (h0:0 < n) (hn:n < 64) (w:World) :
  Calls Tryz.prog 178 #[.int .u64 (x:Int),.int .i64 (-(n:Int))] w fun e w'=>e = .returned (.int .u64 (ror n x:Nat)) ∧ w = w':=by
 have ho:=ror_eq x n hx (by omega)
 rw [← IntKind.wrap_u64] at ho
 obtain ⟨k,hk⟩:∃ k,64 - n = k:=⟨_,rfl⟩
 have hw:IntKind.u64.wrap (-(n:Int)) = ((18446744073709551616 - n:Nat):Int):=by simp [IntKind.wrap,IntKind.bits,IntKind.signed];omega
 have ha:bits .and .u64 ((18446744073709551616 - n:Nat):Int) 63 = (k:Int):=by
  have:=u64_and_nat (18446744073709551616 - n) 63 (by omega) (by decide)
  rw [show ((63:Nat):Int) = 63 from rfl] at this
  rw [this,show (63:Nat) = 2 ^ 6 - 1 from rfl,Nat.and_two_pow_sub_one_eq_mod]
  omega
 have hkn:64 - k = n:=by omega
 have hkn':(64:Int) - (k:Int) = (n:Int):=by omega
 rw [hk] at ho
 generalize 18446744073709551616 - n = m at *
 clear hk
 go_enter Tryz.func178,Tryz.ntmps178
 go_wp2
 go_ret
 exact ⟨rfl,rfl⟩
theorem rotated_any (x n:Nat) (hx:x < 18446744073709551616) (h0:0 < n) (hn:n < 64) (w:World) :
  Calls Tryz.prog 177 #[.int .u64 (x:Int),.int .i64 (n:Int)] w fun e w'=>e = .returned (.int .u64 (ror n x:Nat)) ∧ w = w':=by
 go_enter Tryz.func177,Tryz.ntmps177
 go_wp2_with fail
 refine (rotl_any x n hx h0 hn _).mono ?_
 rintro _ w' ⟨rfl,rfl⟩
 go_wp2
 go_ret
 exact ⟨rfl,rfl⟩
theorem turned_any (x i j k:Nat) (hx:x < 18446744073709551616) (hi0:0 < i) (hi:i < 64) (hj0:0 < j) (hj:j < 64) (hk0:0 < k) (hk:k < 64) (w:World) :
  Calls Tryz.prog 174 #[.int .u64 (x:Int),.int .i64 (i:Int),.int .i64 (j:Int),.int .i64 (k:Int)] w fun e w'=>e = .returned (.int .u64 (tri i j k x:Nat)) ∧ w = w':=by
 have o1:=u64_xor_nat (ror i x) (ror j x) (ror_lt hx _) (ror_lt hx _)
 have o2:=u64_xor_nat (ror i x ^^^ ror j x) (ror k x) (xor_lt64 (ror_lt hx _) (ror_lt hx _)) (ror_lt hx _)
 have HT:Away (tri i j k x = ror i x ^^^ ror j x ^^^ ror k x):=⟨rfl⟩
 have r1:=rotated_any x i hx hi0 hi
 have r2:=rotated_any x j hx hj0 hj
 have r3:=rotated_any x k hx hk0 hk
 generalize ror i x = y1 at *
 generalize ror j x = y2 at *
 generalize ror k x = y3 at *
 go_enter Tryz.func174,Tryz.ntmps174
 go_wp2_with fail
 refine (r1 _).mono ?_
 rintro _ w' ⟨rfl,rfl⟩
 go_wp2_with fail
 refine (r2 _).mono ?_
 rintro _ w' ⟨rfl,rfl⟩
 go_wp2_with fail
 refine (r3 _).mono ?_
 rintro _ w' ⟨rfl,rfl⟩
 go_wp2
 go_ret
 exact ⟨by rw [HT.out];rfl,rfl⟩
theorem spread_any (x i j k:Nat) (hx:x < 18446744073709551616) (hi0:0 < i) (hi:i < 64) (hj0:0 < j) (hj:j < 64) (hk0:0 < k) (hk:k < 64) (w:World) :
  Calls Tryz.prog 175 #[.int .u64 (x:Int),.int .i64 (i:Int),.int .i64 (j:Int),.int .i64 (k:Int)] w fun e w'=>e = .returned (.int .u64 (spr i j k x:Nat)) ∧ ∃ m,w' = w.drewN m:=by
 have o1:=u64_xor_nat (ror i x) (ror j x) (ror_lt hx _) (ror_lt hx _)
 have o2:=u64_xor_nat (ror i x ^^^ ror j x) (x / 2 ^ k) (xor_lt64 (ror_lt hx _) (ror_lt hx _)) (shr_lt64 hx _)
 have HT:Away (spr i j k x = ror i x ^^^ ror j x ^^^ (x / 2 ^ k)):=⟨rfl⟩
 have r1:=rotated_any x i hx hi0 hi
 have r2:=rotated_any x j hx hj0 hj
 have e2:(x:Int) / 2 ^ k = ((x / 2 ^ k:Nat):Int):=by simp
 generalize ror i x = y1 at *
 generalize ror j x = y2 at *
 generalize x / 2 ^ k = y3 at *
 go_enter Tryz.func175,Tryz.ntmps175
 go_wp2_with fail
 go_quiet (first | (go_at_call_of 177 i;exact Calls.quiet_of_same ((r1 _).mono (fun e w' h=>⟨h.1,h.2.symm⟩))) | (go_at_call_of 177 j;exact Calls.quiet_of_same ((r2 _).mono (fun e w' h=>⟨h.1,h.2.symm⟩))))
 go_wp2
 go_ret
 exact ⟨by rw [HT.out];rfl,nq,rfl⟩
theorem z80w (w:World):(zeroValue 170).run Tryz.prog w = .ok (.agg (C .u64 (Z 80)).toArray) w:=by kernel_rfl
theorem z128 (w:World):(zeroValue 155).run Tryz.prog w = .ok (.agg (C .u8 (Z 128)).toArray) w:=by kernel_rfl
theorem z8 (w:World):(zeroValue 86).run Tryz.prog w = .ok (.agg (C .u64 (Z 8)).toArray) w:=by kernel_rfl
theorem inf8:(Tryz.prog.info? 5).map (fun i=>(i.zero,i.size,i.bytes)) = some (some (.int .u8 0),1,1):=by kernel_rfl
theorem i80w:(Tryz.prog.info? 170).map (·.size) = some 80:=by kernel_rfl
theorem i128:(Tryz.prog.info? 155).map (·.size) = some 128:=by kernel_rfl
theorem i64:(Tryz.prog.info? 26).map (·.size) = some 64:=by kernel_rfl
theorem i8:(Tryz.prog.info? 86).map (·.size) = some 8:=by kernel_rfl
theorem i1b:(Tryz.prog.info? 5).map (·.size) = some 1:=by kernel_rfl
theorem i1w:(Tryz.prog.info? 30).map (·.size) = some 1:=by kernel_rfl
def acw (b:List Nat):Nat → List Nat
 | 0=>Z 80
 | k + 1=>(acw b k).set (k / 8) (((acw b k).getD (k / 8) 0 * 256 % 18446744073709551616) ||| b.getD k 0)
theorem acw_length (b:List Nat) (k:Nat):(acw b k).length = 80:=by
 induction k with
 | zero=>simp [acw,Z]
 | succ k ih=>simp [acw,ih]
theorem acw_lo {b:List Nat} (h:Lo 256 b) (k:Nat):Lo 18446744073709551616 (acw b k):=by
 induction k with
 | zero=>exact Z_lo (by decide) _
 | succ k ih =>
  refine ih.set _ _ (or_lt64 (mod_lt64 _) ?_)
  have:=h.getD (by decide) k
  omega
theorem or8n {n x:Nat} (hx:x < 256) (hn:n < 72057594037927936):(n * 256 % 18446744073709551616) ||| x = n * 256 + x:=by
 rw [Nat.mod_eq_of_lt (by omega),Nat.mul_comm,← Nat.two_pow_add_eq_or_of_lt (i:=8) hx n]
theorem acw_eight {b:List Nat} (h:Lo 256 b) (t:Nat) (ht:t ≤ 16):acw b (8 * t) = sch3 b t ++ List.replicate (80 - t) 0:=by
 induction t with
 | zero=>simp [acw,sch3,Z]
 | succ t ih =>
  have ih:=ih (by omega)
  have h0:=h.getD (by decide) (8 * t)
  have h1:=h.getD (by decide) (8 * t + 1)
  have h2:=h.getD (by decide) (8 * t + 2)
  have h3:=h.getD (by decide) (8 * t + 3)
  have h4:=h.getD (by decide) (8 * t + 4)
  have h5:=h.getD (by decide) (8 * t + 5)
  have h6:=h.getD (by decide) (8 * t + 6)
  have h7:=h.getD (by decide) (8 * t + 7)
  have hl:=sch3_length b t
  obtain ⟨n,hn⟩:∃ n,80 - t = n + 1:=⟨79 - t,by omega⟩
  rw [hn,List.replicate_succ] at ih
  have e0:8 * t / 8 = t:=by omega
  have e1:(8 * t + 1) / 8 = t:=by omega
  have e2:(8 * t + 2) / 8 = t:=by omega
  have e3:(8 * t + 3) / 8 = t:=by omega
  have e4:(8 * t + 4) / 8 = t:=by omega
  have e5:(8 * t + 5) / 8 = t:=by omega
  have e6:(8 * t + 6) / 8 = t:=by omega
  have e7:(8 * t + 7) / 8 = t:=by omega
  have g:∀ y,(sch3 b t ++ (y :: List.replicate n 0)).getD t 0 = y:=fun y=>by have:=getD_at (sch3 b t) (List.replicate n 0) y;rwa [hl] at this
  have s:∀ x y,(sch3 b t ++ (y :: List.replicate n 0)).set t x = sch3 b t ++ (x :: List.replicate n 0):=fun x y=>by have:=set_at (sch3 b t) n x y;rwa [hl] at this
  have a1:acw b (8 * t + 1) = sch3 b t ++ ((b.getD (8 * t) 0) :: List.replicate n 0):=by
   rw [acw,ih,e0,g,s,or8n h0 (by decide)];simp
  have a2:acw b (8 * t + 2) = sch3 b t ++ ((b.getD (8 * t) 0 * 256 + b.getD (8 * t + 1) 0) :: List.replicate n 0):=by
   rw [acw,a1,e1,g,s,or8n h1 (by omega)]
  have a3:acw b (8 * t + 3) = sch3 b t ++ (((b.getD (8 * t) 0 * 256 + b.getD (8 * t + 1) 0) * 256 + b.getD (8 * t + 2) 0) :: List.replicate n 0):=by
   rw [acw,a2,e2,g,s,or8n h2 (by omega)]
  have a4:acw b (8 * t + 4) = sch3 b t ++ ((((b.getD (8 * t) 0 * 256 + b.getD (8 * t + 1) 0) * 256 + b.getD (8 * t + 2) 0) * 256 + b.getD (8 * t + 3) 0) :: List.replicate n 0):=by
   rw [acw,a3,e3,g,s,or8n h3 (by omega)]
  have a5:acw b (8 * t + 5) = sch3 b t ++ (((((b.getD (8 * t) 0 * 256 + b.getD (8 * t + 1) 0) * 256 + b.getD (8 * t + 2) 0) * 256 + b.getD (8 * t + 3) 0) * 256 + b.getD (8 * t + 4) 0) :: List.replicate n 0):=by
   rw [acw,a4,e4,g,s,or8n h4 (by omega)]
  have a6:acw b (8 * t + 6) = sch3 b t ++ ((((((b.getD (8 * t) 0 * 256 + b.getD (8 * t + 1) 0) * 256 + b.getD (8 * t + 2) 0) * 256 + b.getD (8 * t + 3) 0) * 256 + b.getD (8 * t + 4) 0) * 256 + b.getD (8 * t + 5) 0) :: List.replicate n 0):=by
   rw [acw,a5,e5,g,s,or8n h5 (by omega)]
  have a7:acw b (8 * t + 7) = sch3 b t ++ (((((((b.getD (8 * t) 0 * 256 + b.getD (8 * t + 1) 0) * 256 + b.getD (8 * t + 2) 0) * 256 + b.getD (8 * t + 3) 0) * 256 + b.getD (8 * t + 4) 0) * 256 + b.getD (8 * t + 5) 0) * 256 + b.getD (8 * t + 6) 0) :: List.replicate n 0):=by
   rw [acw,a6,e6,g,s,or8n h6 (by omega)]
  have a8:acw b (8 * t + 8) = sch3 b t ++ ((((((((b.getD (8 * t) 0 * 256 + b.getD (8 * t + 1) 0) * 256 + b.getD (8 * t + 2) 0) * 256 + b.getD (8 * t + 3) 0) * 256 + b.getD (8 * t + 4) 0) * 256 + b.getD (8 * t + 5) 0) * 256 + b.getD (8 * t + 6) 0) * 256 + b.getD (8 * t + 7) 0) :: List.replicate n 0):=by
   rw [acw,a7,e7,g,s,or8n h7 (by omega)]
  rw [show 8 * (t + 1) = 8 * t + 8 by omega,a8,sch3,if_pos (by omega),show 80 - (t + 1) = n by omega]
  have ew:((((((b.getD (8 * t) 0 * 256 + b.getD (8 * t + 1) 0) * 256 + b.getD (8 * t + 2) 0) * 256 + b.getD (8 * t + 3) 0) * 256 + b.getD (8 * t + 4) 0) * 256 + b.getD (8 * t + 5) 0) * 256 + b.getD (8 * t + 6) 0) * 256 + b.getD (8 * t + 7) 0 = wd8 b t:=by unfold wd8;omega
  rw [ew]
  simp only [List.append_assoc,List.singleton_append]
theorem words_any (b:List Nat) (hb:Lo 256 b) (hl:b.length = 128) (w:World) :
  Calls Tryz.prog 167 #[.agg (C .u8 b).toArray] w fun e w'=>e = .returned (.agg (C .u64 (sch3 b 80)).toArray) ∧ Below w.heap.size w w':=by
 have hA:=Row.new w 155 (C .u8 b)
 have hA3:=(hA.alloc (.cells (C .u64 (Z 80)).toArray 170)).alloc (.cells (C .u64 (Z 80)).toArray 170)
 go_enter Tryz.func167,Tryz.ntmps167
 go_upto_region 2 with (refine wpList_alloc_row rfl 170 rfl _ z80w ?_)
 have hR2:=(Row.newAt (w.alloc (.cells (C .u8 b).toArray 155)) (w.heap.size + 1) (by simp) 170 (C .u64 (Z 80))).alloc (.cells (C .u64 (Z 80)).toArray 170)
 have hR3:=Row.newAt ((w.alloc (.cells (C .u8 b).toArray 155)).alloc (.cells (C .u64 (Z 80)).toArray 170)) (w.heap.size + 1 + 1) (by simp) 170 (C .u64 (Z 80))
 have hB0:=Below.more (Below.refl w.heap.size w) (Nat.le_refl _) (.cells (C .u8 b).toArray 155)
 have hB1:=Below.more hB0.1 hB0.2 (.cells (C .u64 (Z 80)).toArray 170)
 have hB:=(Below.more hB1.1 hB1.2 (.cells (C .u64 (Z 80)).toArray 170)).1
 clear hB0 hB1
 clear hA
 generalize ((w.alloc (.cells (C .u8 b).toArray 155)).alloc (.cells (C .u64 (Z 80)).toArray 170)).alloc (.cells (C .u64 (Z 80)).toArray 170) = w3 at *
 have hl128:(Tryz.prog.info? 155).map (·.size) = some (C .u8 b).toArray.size:=by rw [C_size,hl];exact i128
 simp only [Act.put,stA,st0,st1,alloc_size]
 go_wp2_with (refine wpList_load_row rfl 155 _ rfl _ rfl _ _ _ _ hA3 Tryz.underlying155 rfl hl128 ?_)
 clear hA3 hl128
 go_loopw [8] (fun i wr=>∃ k:Nat,k ≤ 128 ∧ i = .int .i64 k ∧ Row wr (w.heap.size + 1) 170 (C .u64 (Z 80)) ∧ Row wr (w.heap.size + 1 + 1) 170 (C .u64 (acw b k)) ∧ Below w.heap.size w wr) (fun i _=>128 - (intOf i).toNat)
 case atStart=>exact ⟨0,Nat.zero_le _,rfl,hR2,hR3,hB⟩
 case round =>
  clear hR2 hR3 hB
  obtain ⟨k,hk,rfl,hR2,hR3,hB⟩:=hrel
  by_cases hlt:k < 128
  ·have hix:=fun w=>run_index_C (P:=Tryz.prog) w (q:=.u8) Tryz.underlying155 (by kernel_rfl) i1b b k hlt hl
   obtain ⟨q,hq⟩:∃ q,k / 8 = q:=⟨_,rfl⟩
   have hc:=hR3.cell q
   rw [C_get .u64 (by rw [acw_length];omega)] at hc
   have hf:=hR3.frozen q
   have hx:=hb.getD (by decide) k
   have hy:=(acw_lo hb k).getD (by decide) q
   have HS:Away (acw b (k + 1) = (acw b k).set q (((acw b k).getD q 0 * 256 % 18446744073709551616) ||| b.getD k 0)):=⟨by rw [← hq];rfl⟩
   generalize b.getD k 0 = x at *
   generalize (acw b k).getD q 0 = y at *
   have dq:(k:Int).tdiv 8 = (q:Int):=by rw [Int.tdiv_eq_ediv_of_nonneg (by omega)];omega
   have dq':(k:Int) / 8 = (q:Int):=by omega
   have bq:(q:Int) < 80:=by omega
   have wq:IntKind.i64.wrap (q:Int) = (q:Int):=by rw [IntWalk.i64_in _ ⟨by omega,by omega⟩]
   have bk:(k:Int) < 128:=by omega
   have w8:IntKind.u64.wrap (x:Int) = (x:Int):=by rw [IntKind.wrap_u64];omega
   obtain ⟨p,hp,hpl⟩:∃ p:Nat,IntKind.u64.wrap ((y:Int) * 256) = (p:Int) ∧ p = y * 256 % 18446744073709551616:=⟨y * 256 % 18446744073709551616,by rw [IntKind.wrap_u64];simp,rfl⟩
   have ho:=u64_or_nat p x (by rw [hpl];exact mod_lt64 _) (by omega)
   rw [← hpl] at HS
   generalize p ||| x = z at *
   clear hq hpl hy hx
   go_wp2
   have G1:=Away.mk (hR2.other (i:=q) (.int .u64 (z:Int)) (show w.heap.size + 1 ≠ w.heap.size + 1 + 1 by omega))
   have G2:=Away.mk (hR3.set q (.int .u64 (z:Int)))
   rw [← C_set,← HS.out] at G2
   have G3:=Away.mk (hB.setCell (p:=⟨w.heap.size + 1 + 1,q,none⟩) (by simp;omega) (.int .u64 (z:Int)))
   go_roundw
   case rel=>exact ⟨k + 1,by omega,by go_num,G1.out,G2.out,G3.out⟩
   case measure=>simp [intOf];omega
  ·have HK:Away (k = 128):=⟨by omega⟩
   have hR3:Row wr (w.heap.size + 1 + 1) 170 (C .u64 (sch3 b 16 ++ List.replicate (80 - 16) 0)):=by rw [← acw_eight hb 16 (Nat.le_refl _)];rw [HK.out] at hR3;exact hR3
   have HR3:=Away.mk hR3
   have dk:decide ((k:Int) < 128) = false:=decide_eq_false (by omega)
   clear hR3 hlt hk
   go_wp2
   go_loopw [6] (fun i wr=>∃ t:Nat,16 ≤ t ∧ t ≤ 80 ∧ i = .int .i64 t ∧ Row wr (w.heap.size + 1) 170 (C .u64 (Z 80)) ∧ Row wr (w.heap.size + 1 + 1) 170 (C .u64 (sch3 b t ++ List.replicate (80 - t) 0)) ∧ Below w.heap.size w wr) (fun i _=>80 - (intOf i).toNat)
   case atStart=>exact ⟨16,Nat.le_refl _,by decide,rfl,hR2,HR3.out,hB⟩
   case round =>
    clear hR2 HR3 hB
    obtain ⟨t,ht,ht',rfl,hR2,hR3,hB⟩:=hrel
    by_cases hlt2:t < 80
    ·have hlS:=sch3_length b t
     have hg:∀ j,1 ≤ j → j ≤ 16 → wr.cell? ⟨w.heap.size + 1 + 1,t - j,none⟩ = some (.int .u64 ((sch3 b t).getD (t - j) 0:Nat)):=by
      intro j h1 h16
      rw [hR3.cell,C_get .u64 (by simp [hlS];omega)]
      simp only [List.getD,List.getElem?_append_left (show t - j < (sch3 b t).length by omega)]
     have c2:=hg 2 (by decide) (by decide)
     have c7:=hg 7 (by decide) (by decide)
     have c15:=hg 15 (by decide) (by decide)
     have c16:=hg 16 (by decide) (by decide)
     have hf:=hR3.frozen t
     have hct:∃ u,wr.cell? ⟨w.heap.size + 1 + 1,t,none⟩ = some u:=by
      rw [hR3.cell,C_get .u64 (by simp [hlS];omega)];exact ⟨_,rfl⟩
     obtain ⟨u,hct⟩:=hct
     have hlo:=(sch3_lo hb t).getD (by decide)
     have l2:=hlo (t - 2)
     have l7:=hlo (t - 7)
     have l15:=hlo (t - 15)
     have l16:=hlo (t - 16)
     have HN:Away (nxt3 (sch3 b t) t = (spr 19 61 6 ((sch3 b t).getD (t - 2) 0) + (sch3 b t).getD (t - 7) 0 + spr 1 8 7 ((sch3 b t).getD (t - 15) 0) + (sch3 b t).getD (t - 16) 0) % 18446744073709551616):=⟨rfl⟩
     clear hg hlo
     generalize (sch3 b t).getD (t - 2) 0 = x2 at *
     generalize (sch3 b t).getD (t - 7) 0 = x7 at *
     generalize (sch3 b t).getD (t - 15) 0 = x15 at *
     generalize (sch3 b t).getD (t - 16) 0 = x16 at *
     have p2:=spread_any x2 19 61 6 l2 (by decide) (by decide) (by decide) (by decide) (by decide) (by decide)
     have p15:=spread_any x15 1 8 7 l15 (by decide) (by decide) (by decide) (by decide) (by decide) (by decide)
     have y2l:=spr_lt l2 19 61 6
     have y15l:=spr_lt l15 1 8 7
     generalize spr 19 61 6 x2 = y2 at *
     generalize spr 1 8 7 x15 = y15 at *
     obtain ⟨z,hz⟩:∃ z,(y2 + x7 + y15 + x16) % 18446744073709551616 = z:=⟨_,rfl⟩
     rw [hz] at HN
     obtain ⟨s1,e1,s2,e2,e3⟩:∃ s1:Nat,IntKind.u64.wrap ((y2:Int) + (x7:Int)) = (s1:Int) ∧ ∃ s2:Nat,IntKind.u64.wrap ((s1:Int) + (y15:Int)) = (s2:Int) ∧ IntKind.u64.wrap ((s2:Int) + (x16:Int)) = (z:Int) :=
      ⟨(y2 + x7) % 18446744073709551616,by rw [IntKind.wrap_u64];omega,((y2 + x7) % 18446744073709551616 + y15) % 18446744073709551616,by rw [IntKind.wrap_u64];omega,by rw [IntKind.wrap_u64];omega⟩
     clear hz
     obtain ⟨n2,f2,⟨b2,a2⟩,d2⟩:∃ n:Nat,t - 2 = n ∧ ((n:Int) < 80 ∧ (n:Int) < (t:Int)) ∧ IntKind.i64.wrap ((t:Int) - 2) = (n:Int):=⟨t - 2,rfl,⟨by omega,by omega⟩,by rw [IntWalk.i64_in _ ⟨by omega,by omega⟩];omega⟩
     obtain ⟨n7,f7,⟨b7,a7⟩,d7⟩:∃ n:Nat,t - 7 = n ∧ ((n:Int) < 80 ∧ (n:Int) < (t:Int)) ∧ IntKind.i64.wrap ((t:Int) - 7) = (n:Int):=⟨t - 7,rfl,⟨by omega,by omega⟩,by rw [IntWalk.i64_in _ ⟨by omega,by omega⟩];omega⟩
     obtain ⟨n15,f15,⟨b15,a15⟩,d15⟩:∃ n:Nat,t - 15 = n ∧ ((n:Int) < 80 ∧ (n:Int) < (t:Int)) ∧ IntKind.i64.wrap ((t:Int) - 15) = (n:Int):=⟨t - 15,rfl,⟨by omega,by omega⟩,by rw [IntWalk.i64_in _ ⟨by omega,by omega⟩];omega⟩
     obtain ⟨n16,f16,⟨b16,a16⟩,d16⟩:∃ n:Nat,t - 16 = n ∧ ((n:Int) < 80 ∧ (n:Int) < (t:Int)) ∧ IntKind.i64.wrap ((t:Int) - 16) = (n:Int):=⟨t - 16,rfl,⟨by omega,by omega⟩,by rw [IntWalk.i64_in _ ⟨by omega,by omega⟩];omega⟩
     have bt:(t:Int) < 80:=by omega
     rw [f2] at c2;rw [f7] at c7;rw [f15] at c15;rw [f16] at c16
     clear f2 l2 f7 l7 f15 l15 f16 l16
     go_wp2
     go_region_held3 (fun w'=>w'.cell? ⟨w.heap.size + 1 + 1,n2,none⟩ = some (.int .u64 (x2:Int)) ∧ w'.cell? ⟨w.heap.size + 1 + 1,n7,none⟩ = some (.int .u64 (x7:Int)) ∧ w'.cell? ⟨w.heap.size + 1 + 1,n15,none⟩ = some (.int .u64 (x15:Int)) ∧ w'.cell? ⟨w.heap.size + 1 + 1,n16,none⟩ = some (.int .u64 (x16:Int)))
      (first | exact ⟨c2,c7,c15,c16⟩ | exact ⟨cell_set_ne c2 (by omega),cell_set_ne c7 (by omega),cell_set_ne c15 (by omega),cell_set_ne c16 (by omega)⟩)
      (first | (go_at_call_of 175 x2;refine (p2 _).mono ?_;rintro e w' ⟨rfl,m1,rfl⟩) | (go_at_call_of 175 x15;refine (p15 _).mono ?_;rintro e w' ⟨rfl,m2,rfl⟩))
     generalize 1 + m1 + m2 = mm at *
     have hR3:Row (wr.drewN mm) (w.heap.size + 1 + 1) 170 (C .u64 (sch3 b t ++ List.replicate (80 - t) 0)):=hR3
     have hR2:Row (wr.drewN mm) (w.heap.size + 1) 170 (C .u64 (Z 80)):=hR2
     have hRn:Row ((wr.drewN mm).setCell ⟨w.heap.size + 1 + 1,t,none⟩ (.int .u64 (z:Int))) (w.heap.size + 1 + 1) 170 (C .u64 (sch3 b (t + 1) ++ List.replicate (80 - (t + 1)) 0)):=by
      have:=hR3.set t (.int .u64 (z:Nat))
      rw [← C_set] at this
      have e:(sch3 b t ++ List.replicate (80 - t) 0).set t z = sch3 b (t + 1) ++ List.replicate (80 - (t + 1)) 0:=by
       obtain ⟨n,hn⟩:∃ n,80 - t = n + 1:=⟨79 - t,by omega⟩
       rw [hn,List.replicate_succ,show 80 - (t + 1) = n by omega,sch3,if_neg (by omega),HN.out]
       have:=set_at (sch3 b t) n z 0
       rw [hlS] at this
       rw [this];simp
      rwa [e] at this
     have hR2n:=hR2.other (i:=t) (.int .u64 (z:Int)) (show w.heap.size + 1 ≠ w.heap.size + 1 + 1 by omega)
     have hBn:=(below_drewN hB mm).setCell (p:=⟨w.heap.size + 1 + 1,t,none⟩) (by simp;omega) (.int .u64 (z:Int))
     clear hR2 hR3 hB HN c2 c7 c15 c16 d2 d7 d15 d16 e1 e2 e3 p2 p15
     generalize (wr.drewN mm).setCell ⟨w.heap.size + 1 + 1,t,none⟩ (.int .u64 (z:Int)) = wn at *
     go_wp2
     go_roundw
     case rel=>exact ⟨t + 1,by omega,by omega,by go_num,hR2n,hRn,hBn⟩
     case measure=>simp [intOf];omega
    ·obtain rfl:t = 80:=by omega
     simp only [Nat.sub_self,List.replicate_zero,List.append_nil] at hR3
     have hS:=sch3_length b 80
     generalize hSe:sch3 b 80 = S at *
     have HS:Away (sch3 b 80 = S):=⟨hSe⟩
     clear hSe
     have hs64:(C .u64 S).toArray.size = 80:=by rw [C_size,hS]
     have hi64w:(Tryz.prog.info? 170).map (·.size) = some (C .u64 S).toArray.size:=by rw [hs64];exact i80w
     have ho64:(C .u64 (Z 80)).toArray.size = (C .u64 S).toArray.size:=by rw [hs64,C_size,Z_length]
     have hl64:(Tryz.prog.info? 170).map (·.size) = some (C .u64 S).length:=by rw [C_length,hS];exact i80w
     have hB':=below_setRow hB (g:=w.heap.size + 1) (by omega) (C .u64 S).toArray
     go_wp2_with (first | refine wpList_load_row rfl 170 _ rfl _ rfl _ _ _ _ hR3 Tryz.underlying170 rfl hi64w ?_ | refine wpList_store_row rfl 170 _ _ rfl _ _ rfl rfl _ _ hR2 hi64w ho64 (C_all _ _) ?_ | ((with_reducible refine result_row (g:=w.heap.size + 1) (us:=C .u64 S) Tryz.results167 ?_ (hR2.setRow _) Tryz.underlying170 ?_ hl64 ?_ ⟨by rw [HS.out],hB'⟩) <;> rfl))
def Tab (w:World):Prop:=∃ e f,w.heap[8]? = some (.cells (C .u64 K3L).toArray e f)
theorem Tab.pos {w:World} (h:Tab w):8 < w.heap.size:=by
 obtain ⟨e,f,h⟩:=h
 exact (Array.getElem?_eq_some_iff.1 h).1
theorem Tab.cell {w:World} (h:Tab w) (t:Nat) (ht:t < 80):w.cell? ⟨8,t,none⟩ = some (.int .u64 (K3 t:Nat)):=by
 obtain ⟨e,f,h⟩:=h
 have:=C_get .u64 (xs:=K3L) (i:=t) (by rw [K3L_length];exact ht)
 simp only [World.cell?,h]
 simpa [K3] using this
theorem Tab.below {w w':World} (h:Tab w) (hb:Below w.heap.size w w'):Tab w':=by
 have h0:=h.pos
 obtain ⟨e,f,h⟩:=h
 exact ⟨e,f,(hb.block 8 h0).trans h⟩
theorem Tab.drewN {w:World} (h:Tab w) (n:Nat):Tab (w.drewN n):=h
theorem Tab.drew {w:World} (h:Tab w):Tab w.drew:=h
theorem eight_cells {w:World} {g:Nat} {e:TypeId} {s:S8} (h:Row w g e (C .u64 s.list)) :
  w.cell? ⟨g,0,none⟩ = some (.int .u64 (s.a:Int)) ∧ w.cell? ⟨g,1,none⟩ = some (.int .u64 (s.b:Int)) ∧ w.cell? ⟨g,2,none⟩ = some (.int .u64 (s.c:Int)) ∧ w.cell? ⟨g,3,none⟩ = some (.int .u64 (s.d:Int)) ∧ w.cell? ⟨g,4,none⟩ = some (.int .u64 (s.e:Int)) ∧ w.cell? ⟨g,5,none⟩ = some (.int .u64 (s.f:Int)) ∧ w.cell? ⟨g,6,none⟩ = some (.int .u64 (s.g:Int)) ∧ w.cell? ⟨g,7,none⟩ = some (.int .u64 (s.h:Int)):=by
 refine ⟨?_,?_,?_,?_,?_,?_,?_,?_⟩ <;> rw [h.cell] <;> rfl
set_option maxRecDepth 10000 in
set_option maxHeartbeats 800000 in
theorem stepped_any (s:S8) (hs:s.ok) (W:List Nat) (hW:Lo 18446744073709551616 W) (hl:W.length = 80) (w:World) (hT:Tab w) :
  Calls Tryz.prog 166 #[.agg (C .u64 s.list).toArray,.agg (C .u64 W).toArray] w fun e w'=>e = .returned (.agg (C .u64 (add3 s (stps3 W s 80)).list).toArray) ∧ Below w.heap.size w w':=by
 have hi64:(Tryz.prog.info? 170).map (·.size) = some (C .u64 W).toArray.size:=by rw [C_size,hl];exact i80w
 have hA:=((Row.new w 86 (C .u64 s.list)).alloc (.cells (C .u64 W).toArray 170)).alloc (.cells (C .u64 (Z 8)).toArray 86)
 have hB:=(Row.newAt (w.alloc (.cells (C .u64 s.list).toArray 86)) (w.heap.size + 1) (by simp) 170 (C .u64 W)).alloc (.cells (C .u64 (Z 8)).toArray 86)
 have hC:=Row.newAt ((w.alloc (.cells (C .u64 s.list).toArray 86)).alloc (.cells (C .u64 W).toArray 170)) (w.heap.size + 1 + 1) (by simp) 86 (C .u64 (Z 8))
 have hL0:=Below.more (Below.refl w.heap.size w) (Nat.le_refl _) (.cells (C .u64 s.list).toArray 86)
 have hL1:=Below.more hL0.1 hL0.2 (.cells (C .u64 W).toArray 170)
 have hL:=(Below.more hL1.1 hL1.2 (.cells (C .u64 (Z 8)).toArray 86)).1
 clear hL0 hL1
 go_enter Tryz.func166,Tryz.ntmps166
 go_wp2_with (refine wpList_alloc_row rfl 86 rfl _ z8 ?_)
 generalize ((w.alloc (.cells (C .u64 s.list).toArray 86)).alloc (.cells (C .u64 W).toArray 170)).alloc (.cells (C .u64 (Z 8)).toArray 86) = w3 at *
 obtain ⟨c0,c1,c2,c3,c4,c5,c6,c7⟩:=eight_cells hA
 go_quiet (fail)
 obtain ⟨wa,hwa,hAa,hBa,hCa,hLa⟩:∃ wa:World,w3.drewN nq = wa ∧ Row wa w.heap.size 86 (C .u64 s.list) ∧ Row wa (w.heap.size + 1) 170 (C .u64 W) ∧ Row wa (w.heap.size + 1 + 1) 86 (C .u64 (Z 8)) ∧ Below w.heap.size w wa :=
  ⟨_,rfl,hA,hB,hC,below_drewN hL nq⟩
 rw [hwa]
 clear hwa hA hB hC hL c0 c1 c2 c3 c4 c5 c6 c7
 obtain ⟨c0,c1,c2,c3,c4,c5,c6,c7⟩:=eight_cells hAa
 go_wp2_with fail
 go_quiet (fail)
 obtain ⟨wb,hwb,hAb,hBb,hCb,hLb⟩:∃ wb:World,wa.drewN nq = wb ∧ Row wb w.heap.size 86 (C .u64 s.list) ∧ Row wb (w.heap.size + 1) 170 (C .u64 W) ∧ Row wb (w.heap.size + 1 + 1) 86 (C .u64 (Z 8)) ∧ Below w.heap.size w wb :=
  ⟨_,rfl,hAa,hBa,hCa,below_drewN hLa nq⟩
 rw [hwb]
 clear hwb hAa hBa hCa hLa c0 c1 c2 c3 c4 c5 c6 c7
 go_wp2_with (refine wpList_load_row rfl 170 _ rfl _ rfl _ _ _ _ hBb Tryz.underlying170 rfl hi64 ?_)
 go_loopw [5,6,7,8,9,10,11,12,34] (fun va vb vc vd ve vf vg vh i wr=>∃ k:Nat,k ≤ 80 ∧ i = .int .i64 k ∧ va = .int .u64 ((stps3 W s k).a:Nat) ∧ vb = .int .u64 ((stps3 W s k).b:Nat) ∧ vc = .int .u64 ((stps3 W s k).c:Nat) ∧ vd = .int .u64 ((stps3 W s k).d:Nat) ∧ ve = .int .u64 ((stps3 W s k).e:Nat) ∧ vf = .int .u64 ((stps3 W s k).f:Nat) ∧ vg = .int .u64 ((stps3 W s k).g:Nat) ∧ vh = .int .u64 ((stps3 W s k).h:Nat) ∧ Row wr w.heap.size 86 (C .u64 s.list) ∧ Row wr (w.heap.size + 1 + 1) 86 (C .u64 (Z 8)) ∧ Below w.heap.size w wr) (fun _ _ _ _ _ _ _ _ i _=>80 - (intOf i).toNat)
 case atStart=>exact ⟨0,Nat.zero_le _,rfl,rfl,rfl,rfl,rfl,rfl,rfl,rfl,rfl,hAb,hCb,hLb⟩
 case round =>
  clear hAb hBb hCb hLb
  obtain ⟨k,hk,rfl,rfl,rfl,rfl,rfl,rfl,rfl,rfl,rfl,hAn,hCn,hLn⟩:=hrel
  have HT:Away (stps3 W s (k + 1) = stp3 k (W.getD k 0) (stps3 W s k)):=⟨rfl⟩
  obtain ⟨q1,q2,q3,q4,q5,q6,q7,q8⟩:=stps3_ok (ws:=W) hs k
  by_cases hlt:k < 80
  ·have hix:=fun w=>run_index_C (P:=Tryz.prog) w (q:=.u64) Tryz.underlying170 (by kernel_rfl) i1w W k hlt hl
   have hx:=hW.getD (by decide) k
   have hct:=(hT.below hLn).cell k hlt
   have hkl:=K3_lt k
   have hki:(k:Int) < 80:=by omega
   generalize W.getD k 0 = x at *
   generalize stps3 W s k = S at *
   obtain ⟨a,b,c,d,e,f,g,hh⟩:=S
   simp only at *
   have r1:=turned_any e 14 18 41 q5 (by decide) (by decide) (by decide) (by decide) (by decide) (by decide)
   have r2:=turned_any a 28 34 39 q1 (by decide) (by decide) (by decide) (by decide) (by decide) (by decide)
   have l1:=tri_lt q5 14 18 41
   have l2:=tri_lt q1 28 34 39
   have o1:=u64_and_nat e f q5 q6
   have o2:=not64 e q5
   have sg:IntKind.u64.signed = false:=rfl
   have o3:=u64_and_nat (e ^^^ 18446744073709551615) g (xor_lt64 q5 (by decide)) q7
   have o4:=u64_xor_nat (e &&& f) ((e ^^^ 18446744073709551615) &&& g) (and_lt64 q5) (and_lt64 (xor_lt64 q5 (by decide)))
   have lc:=ch3_lt (f:=f) (g:=g) q5
   have ec:(e &&& f) ^^^ ((e ^^^ 18446744073709551615) &&& g) = ch3 e f g:=rfl
   rw [ec] at o4
   have p1:=u64_and_nat a b q1 q2
   have p2:=u64_and_nat a c q1 q3
   have p3:=u64_and_nat b c q2 q3
   have p4:=u64_xor_nat (a &&& b) (a &&& c) (and_lt64 q1) (and_lt64 q1)
   have p5:=u64_xor_nat ((a &&& b) ^^^ (a &&& c)) (b &&& c) (xor_lt64 (and_lt64 q1) (and_lt64 q1)) (and_lt64 q2)
   have lm:=mj3_lt (c:=c) q1 q2
   have em:(a &&& b) ^^^ (a &&& c) ^^^ (b &&& c) = mj3 a b c:=rfl
   rw [em] at p5
   obtain ⟨t1,ht1⟩:∃ t1,t1f k x ⟨a,b,c,d,e,f,g,hh⟩ = t1:=⟨_,rfl⟩
   obtain ⟨t2,ht2⟩:∃ t2,t2f ⟨a,b,c,d,e,f,g,hh⟩ = t2:=⟨_,rfl⟩
   have HS:Away (stps3 W s (k + 1) = ⟨(t1 + t2) % 18446744073709551616,a,b,c,(d + t1) % 18446744073709551616,e,f,g⟩):=⟨by rw [HT.out,stp3,ht1,ht2]⟩
   simp only [t1f] at ht1
   simp only [t2f] at ht2
   have lt1:t1 < 18446744073709551616:=by rw [← ht1];exact mod_lt64 _
   generalize tri 14 18 41 e = y1 at *
   generalize tri 28 34 39 a = y2 at *
   generalize ch3 e f g = cc at *
   generalize mj3 a b c = mm at *
   generalize K3 k = kk at *
   obtain ⟨m1,e1,m2,e2,m3,e3,e4⟩:∃ m1:Nat,IntKind.u64.wrap ((hh:Int) + (y1:Int)) = (m1:Int) ∧ ∃ m2:Nat,IntKind.u64.wrap ((m1:Int) + (cc:Int)) = (m2:Int) ∧ ∃ m3:Nat,IntKind.u64.wrap ((m2:Int) + (kk:Int)) = (m3:Int) ∧ IntKind.u64.wrap ((m3:Int) + (x:Int)) = (t1:Int):=by
    refine ⟨(hh + y1) % 18446744073709551616,by rw [IntKind.wrap_u64];omega,((hh + y1) % 18446744073709551616 + cc) % 18446744073709551616,by rw [IntKind.wrap_u64];omega,(((hh + y1) % 18446744073709551616 + cc) % 18446744073709551616 + kk) % 18446744073709551616,by rw [IntKind.wrap_u64];omega,by rw [IntKind.wrap_u64];omega⟩
   have HT2:=Away.mk ht2
   clear ht1 ht2 HT ec em hW
   go_wp2_with fail
   go_quiet (first | (go_at_call 174;exact Calls.quiet_of_same ((r1 _).mono (fun e w' h=>⟨h.1,h.2.symm⟩))))
   clear e1 e2 e3 e4 o1 o2 o3 o4
   go_wp2_with fail
   refine (r2 _).mono ?_
   rintro _ w' ⟨rfl,rfl⟩
   go_wp2
   go_roundw
   case rel =>
    refine ⟨k + 1,by omega,by go_num,?_,?_,?_,?_,?_,?_,?_,?_,hAn,hCn,below_drewN hLn nq⟩
    ·rw [HS.out]
     have:=HT2.out
     congr 1
     simp only [IntKind.wrap_u64]
     omega
    ·rw [HS.out]
    ·rw [HS.out]
    ·rw [HS.out]
    ·rw [HS.out]
     congr 1
    ·rw [HS.out]
    ·rw [HS.out]
    ·rw [HS.out]
   case measure=>simp [intOf];omega
  ·obtain rfl:k = 80:=by omega
   obtain ⟨c0,c1,c2,c3,c4,c5,c6,c7⟩:=eight_cells hAn
   generalize hS:stps3 W s 80 = S at *
   have HS:=Away.mk hS
   clear hS HT hi64
   obtain ⟨a,b,c,d,e,f,g,hh⟩:=S
   simp only at *
   have hcs:Away (C .u64 (add3 s ⟨a,b,c,d,e,f,g,hh⟩).list = [.int .u64 (IntKind.u64.wrap ((s.a:Int) + a)),.int .u64 (IntKind.u64.wrap ((s.b:Int) + b)),.int .u64 (IntKind.u64.wrap ((s.c:Int) + c)),.int .u64 (IntKind.u64.wrap ((s.d:Int) + d)),.int .u64 (IntKind.u64.wrap ((s.e:Int) + e)),.int .u64 (IntKind.u64.wrap ((s.f:Int) + f)),.int .u64 (IntKind.u64.wrap ((s.g:Int) + g)),.int .u64 (IntKind.u64.wrap ((s.h:Int) + hh))]):=⟨by simp [C,S8.list,add3,IntKind.wrap_u64]⟩
   have hlt4:=hCn.lt
   go_wp2_with (refine wpList_store_R rfl 86 _ _ rfl _ _ rfl rfl hCn i8 rfl rfl ?_;intro w5 hR5 hg5 hz5)
   exact result_row Tryz.results166 rfl hR5 Tryz.underlying86 rfl i8 rfl ⟨by rw [HS.out,hcs.out],below_grown hLn hg5 (by omega) hlt4⟩
theorem start_any (b:Bool) (w:World):Calls Tryz.prog 133 #[.bool b] w fun e w'=>e = .returned (.agg (C .u64 (start3 b).list).toArray) ∧ Below w.heap.size w w':=by
 have hC:=Row.new w 86 (C .u64 (Z 8))
 have hL:=(Below.more (Below.refl w.heap.size w) (Nat.le_refl _) (.cells (C .u64 (Z 8)).toArray 86)).1
 cases b
 ·go_enter Tryz.func133,Tryz.ntmps133
  go_wp2_with (first | refine wpList_alloc_row rfl 86 rfl _ z8 ?_ | (refine wpList_store_R rfl 86 _ _ rfl _ _ rfl rfl hC i8 rfl rfl ?_;intro w5 hR5 hg5 hz5))
  exact result_row Tryz.results133 rfl hR5 Tryz.underlying86 rfl i8 rfl ⟨rfl,below_grown hL hg5 (by omega) hC.lt⟩
 ·go_enter Tryz.func133,Tryz.ntmps133
  go_wp2_with (first | refine wpList_alloc_row rfl 86 rfl _ z8 ?_ | (refine wpList_store_R rfl 86 _ _ rfl _ _ rfl rfl hC i8 rfl rfl ?_;intro w5 hR5 hg5 hz5))
  exact result_row Tryz.results133 rfl hR5 Tryz.underlying86 rfl i8 rfl ⟨rfl,below_grown hL hg5 (by omega) hC.lt⟩
theorem block_any (s:S8) (hs:s.ok) (b:List Nat) (hb:Lo 256 b) (hl:b.length = 128) (w:World) (hT:Tab w) :
  Calls Tryz.prog 154 #[.agg (C .u64 s.list).toArray,.agg (C .u8 b).toArray] w fun e w'=>e = .returned (.agg (C .u64 (blk3 s b).list).toArray) ∧ Below w.heap.size w w':=by
 have hA:=((Row.new w 86 (C .u64 s.list)).alloc (.cells (C .u8 b).toArray 155)).alloc (.cells (C .u64 (Z 8)).toArray 86)
 have hB:=(Row.newAt (w.alloc (.cells (C .u64 s.list).toArray 86)) (w.heap.size + 1) (by simp) 155 (C .u8 b)).alloc (.cells (C .u64 (Z 8)).toArray 86)
 have hC:=Row.newAt ((w.alloc (.cells (C .u64 s.list).toArray 86)).alloc (.cells (C .u8 b).toArray 155)) (w.heap.size + 1 + 1) (by simp) 86 (C .u64 (Z 8))
 have hL0:=Below.more (Below.refl w.heap.size w) (Nat.le_refl _) (.cells (C .u64 s.list).toArray 86)
 have hL1:=Below.more hL0.1 hL0.2 (.cells (C .u8 b).toArray 155)
 have hL:=(Below.more hL1.1 hL1.2 (.cells (C .u64 (Z 8)).toArray 86)).1
 clear hL0 hL1
 go_enter Tryz.func154,Tryz.ntmps154
 go_wp2_with (refine wpList_alloc_row rfl 86 rfl _ z8 ?_)
 generalize hw3:((w.alloc (.cells (C .u64 s.list).toArray 86)).alloc (.cells (C .u8 b).toArray 155)).alloc (.cells (C .u64 (Z 8)).toArray 86) = w3 at *
 clear hw3
 have HB:Away (blk3 s b = add3 s (stps3 (sch3 b 80) s 80)):=⟨rfl⟩
 have hSl:=sch3_lo hb 80
 have hSn:=sch3_length b 80
 generalize hE:sch3 b 80 = S at *
 have HE:=Away.mk hE
 obtain ⟨T,hT2⟩:∃ T,T = add3 s (stps3 S s 80):=⟨_,rfl⟩
 have HT:=Away.mk hT2
 clear hE hT2
 have hl64:(Tryz.prog.info? 155).map (·.size) = some (C .u8 b).length:=by rw [C_length,hl];exact i128
 simp only [Act.put,stA,st0,st1,alloc_size]
 refine wp_region_noPanic ?_
 refine wp_region_held_drew (S:=fun w'=>Row w' w.heap.size 86 (C .u64 s.list) ∧ Row w' (w.heap.size + 1) 155 (C .u8 b)) (by kernel_rfl) (⟨hA.drew,hB.drew⟩) (fun _=>?_)
 refine tkL 0 (.agg (C .u64 s.list).toArray) rfl (fun w hSw=>exec_load_R 86 _ rfl rfl hSw.1 Tryz.underlying86 i8) ?_
 simp only [Act.put,stA,st0,st1]
 refine tkL 1 (.agg (C .u8 b).toArray) rfl (fun w hSw=>exec_load_R 155 _ rfl rfl hSw.2 Tryz.underlying155 hl64) ?_
 simp only [Act.put,stA,st0,st1]
 refine ar1 2 rfl (fun K hK=>?_)
 go_simp
 refine (words_any b hb hl _).mono ?_
 rintro _ w5 ⟨rfl,hb5⟩
 rw [HE.out]
 have hA5:=hA.drew.belowS hb5
 have hB5:=hB.drew.belowS hb5
 have hC5:=hC.drew.belowS hb5
 have hL5:=hL.drew.trans (hb5.mono hL.size)
 clear hA hB hC hL hb5
 refine hK.out _ _ (⟨hA5,hB5⟩) (fun _=>?_)
 clear hK K
 refine ar1 3 rfl (fun K hK=>?_)
 go_simp
 refine (stepped_any s hs S hSl hSn _ (hT.below hL5)).mono ?_
 rintro _ w6 ⟨rfl,hb6⟩
 rw [← HT.out]
 have hA6:=hA5.belowS hb6
 have hB6:=hB5.belowS hb6
 have hC6:=hC5.belowS hb6
 have hL6:=hL5.trans (hb6.mono hL5.size)
 clear hA5 hB5 hC5 hL5 hb6
 refine hK.out _ _ (⟨hA6,hB6⟩) (fun _=>?_)
 clear hK K
 refine ar1 4 rfl (fun K hK=>?_)
 refine wp_store_R 86 _ _ rfl _ (C .u64 T.list) rfl rfl hC6 i8 rfl (C_allL _ _) ?_
 intro w7 hC7 hg7 hz7
 have hA7:=hA6.grown hg7 (by simp;omega)
 have hB7:=hB6.grown hg7 (by simp)
 have hL7:=below_grown hL6 hg7 (by omega) hC6.lt
 refine hK.out _ _ (⟨hA7,hB7⟩) (fun _=>?_)
 clear hK K
 refine wpAnyH_done (by kernel_rfl) ?_ _
 refine NoPanic.normal ?_
 go_wp2
 exact result_row Tryz.results154 rfl hC7 Tryz.underlying86 rfl i8 rfl ⟨by rw [HT.out,HB.out],hL7⟩
theorem out3_length (s:S8):(out3 s).length = 64:=rfl
def cnt (c:Nat):List Nat:=[0,0,0,0,0,0,0,0] ++ be8 c
def lastB (l:List Nat):List Nat:=l ++ 128 :: Z (127 - l.length)
def fin3 (s:S8) (l:List Nat) (c:Nat):S8 :=
 if l.length < 112 then blk3 s ((lastB l).take 112 ++ cnt c) else blk3 (blk3 s (lastB l)) (Z 112 ++ cnt c)
theorem be8_length (c:Nat):(be8 c).length = 8:=rfl
theorem pad3_length (xs:List Nat):(pad3 xs).length = 128 * (xs.length / 128 + (if xs.length % 128 < 112 then 1 else 2)):=by
 unfold pad3 zs3
 simp only [List.length_append,List.length_cons,List.length_replicate,List.length_nil,be8_length]
 split <;> omega
def beh3 (s:S8) (xs:List Nat):S8:=fin3 (blks3 s xs (xs.length / 128)) (xs.drop (128 * (xs.length / 128))) (8 * xs.length % 18446744073709551616)
end Go.Proofs.YtmjimilhomabfaaGreatDoor.S3
