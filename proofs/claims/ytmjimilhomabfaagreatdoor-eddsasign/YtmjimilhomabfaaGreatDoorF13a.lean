/-
 Texts joined:  FldA FldB FldC FldD FldE
-/
import Derived.Test.YtmjimilhomabfaaGreatDoorW13
import Derived.Test.YtmjimilhomabfaaGreatDoorK13
import Derived.Test.YtmjimilhomabfaaGreatDoorRows
import Derived.Deep.RegionHeld3
import Derived.Deep.DeepCutAuto
import Derived.Deep.Cut
import Derived.Laws.BitsAllLaws
import Derived.Laws.Externs
namespace Go.Proofs.YtmjimilhomabfaaGreatDoor.F
open Go.RowKit
set_option linter.unusedVariables false
set_option maxRecDepth 10000
def el (n:Nat):Value:=.agg (C .u64 (wds n)).toArray
theorem z4 (w:World):(zeroValue 32).run Tryz.prog w = .ok (.agg (C .u64 (Z 4)).toArray) w:=by kernel_rfl
theorem z4' (w:World):(zeroValue 86).run Tryz.prog w = .ok (.agg (C .u64 (Z 8)).toArray) w:=by kernel_rfl
theorem z16 (w:World):(zeroValue 91).run Tryz.prog w = .ok (.agg (C .u64 (Z 16)).toArray) w:=by kernel_rfl
theorem z32 (w:World):(zeroValue 22).run Tryz.prog w = .ok (.agg (C .u8 (Z 32)).toArray) w:=by kernel_rfl
theorem i4:(Tryz.prog.info? 32).map (·.size) = some 4:=by kernel_rfl
theorem i8:(Tryz.prog.info? 86).map (·.size) = some 8:=by kernel_rfl
theorem i16:(Tryz.prog.info? 91).map (·.size) = some 16:=by kernel_rfl
theorem i32:(Tryz.prog.info? 22).map (·.size) = some 32:=by kernel_rfl
theorem i1w:(Tryz.prog.info? 30).map (·.size) = some 1:=by kernel_rfl
theorem i1b:(Tryz.prog.info? 5).map (·.size) = some 1:=by kernel_rfl
theorem b4:Tryz.prog.built 32 [] = some (C .u64 (Z 4)).toArray:=by kernel_rfl
theorem b8:Tryz.prog.built 86 [] = some (C .u64 (Z 8)).toArray:=by kernel_rfl
theorem b16:Tryz.prog.built 91 [] = some (C .u64 (Z 16)).toArray:=by kernel_rfl
theorem b32:Tryz.prog.built 22 [] = some (C .u8 (Z 32)).toArray:=by kernel_rfl
def sub64E:Array Value → Sem Value:=fun args=>do
 let (x, y, b) ← Extern.MathBitsCarry.three "Sub64" args
 pure (Extern.MathBitsCarry.pair ((x + Extern.MathBitsCarry.m64 - y - b) % Extern.MathBitsCarry.m64) (if x < y + b then 1 else 0))
theorem run_sub64E {P:Program} (x y b:Nat) (hb:b ≤ 1) (w:World) :
  (sub64E #[.int .u64 x,.int .u64 y,.int .u64 b]).run P w = .ok (.tuple #[.int .u64 (((x + 18446744073709551616 - y - b) % 18446744073709551616:Nat):Int),.int .u64 ((if x < y + b then 1 else 0:Nat):Int)]) w:=by
 have:b = 0 ∨ b = 1:=by omega
 rcases this with rfl | rfl <;> rfl
theorem sub64_any (x y b:Nat) (hb:b ≤ 1) {z c:Nat} (hz:(x + 18446744073709551616 - y - b) % 18446744073709551616 = z) (hc:(if x < y + b then 1 else 0) = c) (w:World) :
  (callFunc 156 #[.int .u64 (x:Int),.int .u64 (y:Int),.int .u64 (b:Int)]).run Tryz.prog w = .ok (.value (.tuple #[.int .u64 (z:Int),.int .u64 (c:Int)])) w:=by
 rw [run_callFunc_extern (e:=sub64E) (fn:=Tryz.f156) Tryz.func156 (by kernel_rfl) (by kernel_rfl) (by kernel_rfl) (by kernel_rfl),run_sub64E x y b hb w,hz,hc]
 rfl
theorem add64_any (x y c:Nat) (hc:c ≤ 1) {z d:Nat} (hz:(x + y + c) % 18446744073709551616 = z) (hd:(x + y + c) / 18446744073709551616 = d) (w:World) :
  (callFunc 158 #[.int .u64 (x:Int),.int .u64 (y:Int),.int .u64 (c:Int)]).run Tryz.prog w = .ok (.value (.tuple #[.int .u64 (z:Int),.int .u64 (d:Int)])) w:=by
 rw [run_callFunc_extern (e:=add64Entry) (fn:=Tryz.f158) Tryz.func158 (by kernel_rfl) (by kernel_rfl) (by kernel_rfl) (by kernel_rfl),run_add64 x y c (by omega) (by omega) (by omega) (by omega)]
 have e1:((x:Int) + (y:Int) + (c:Int)) % 18446744073709551616 = (z:Int):=by omega
 have e2:((x:Int) + (y:Int) + (c:Int)) / 18446744073709551616 = (d:Int):=by omega
 rw [e1,e2]
 rfl
theorem mul64_any (x y:Nat) (hx:x < 18446744073709551616) (hy:y < 18446744073709551616) (w:World) :
  Calls Tryz.prog 168 #[.int .u64 (x:Int),.int .u64 (y:Int)] w fun e w'=>e = .returned (.tuple #[.int .u64 (x * y / 18446744073709551616:Nat),.int .u64 (x * y % 18446744073709551616:Nat)]) ∧ w = w':=by
 obtain ⟨x0,h0⟩:∃ x0,x % 4294967296 = x0:=⟨_,rfl⟩
 obtain ⟨x1,h1⟩:∃ x1,x / 4294967296 = x1:=⟨_,rfl⟩
 obtain ⟨y0,k0⟩:∃ y0,y % 4294967296 = y0:=⟨_,rfl⟩
 obtain ⟨y1,k1⟩:∃ y1,y / 4294967296 = y1:=⟨_,rfl⟩
 have hand:∀ n:Nat,n < 18446744073709551616 → bits .and .u64 (n:Int) 4294967295 = ((n % 4294967296:Nat):Int):=fun n hn=>by
  have:=u64_and_nat n 4294967295 (by omega) (by decide)
  rw [show ((4294967295:Nat):Int) = 4294967295 from rfl] at this
  rw [this,show (4294967295:Nat) = 2 ^ 32 - 1 from rfl,Nat.and_two_pow_sub_one_eq_mod]
 have a0:bits .and .u64 (x:Int) 4294967295 = (x0:Int):=by rw [hand x hx,h0]
 have a1:bits .and .u64 (y:Int) 4294967295 = (y0:Int):=by rw [hand y hy,k0]
 have s0:(x:Int) / 4294967296 = (x1:Int):=by omega
 have s1:(y:Int) / 4294967296 = (y1:Int):=by omega
 have lx0:x0 < 4294967296:=by omega
 have lx1:x1 < 4294967296:=by omega
 have ly0:y0 < 4294967296:=by omega
 have ly1:y1 < 4294967296:=by omega
 have hm:∀ a b:Nat,a < 4294967296 → b < 4294967296 → a * b ≤ 18446744065119617025:=fun a b ha hb=>Nat.le_trans (Nat.mul_le_mul (Nat.le_pred_of_lt ha) (Nat.le_pred_of_lt hb)) (by decide)
 have m00:=hm x0 y0 lx0 ly0
 have m10:=hm x1 y0 lx1 ly0
 have m01:=hm x0 y1 lx0 ly1
 have m11:=hm x1 y1 lx1 ly1
 have ew:x * y = x0 * y0 + 4294967296 * (x1 * y0 + x0 * y1) + 18446744073709551616 * (x1 * y1):=by
  have ex:x = x0 + 4294967296 * x1:=by omega
  have ey:y = y0 + 4294967296 * y1:=by omega
  rw [ex,ey]
  grind
 have c00:((x0:Int) * (y0:Int)) = ((x0 * y0:Nat):Int):=by simp
 have c10:((x1:Int) * (y0:Int)) = ((x1 * y0:Nat):Int):=by simp
 have c01:((x0:Int) * (y1:Int)) = ((x0 * y1:Nat):Int):=by simp
 have c11:((x1:Int) * (y1:Int)) = ((x1 * y1:Nat):Int):=by simp
 have cxy:((x:Int) * (y:Int)) = ((x * y:Nat):Int):=by simp
 generalize x0 * y0 = p00 at *
 generalize x1 * y0 = p10 at *
 generalize x0 * y1 = p01 at *
 generalize x1 * y1 = p11 at *
 generalize x * y = pxy at *
 obtain ⟨t1,ht1⟩:∃ t1,p00 / 4294967296 = t1:=⟨_,rfl⟩
 obtain ⟨t,ht⟩:∃ t,p10 + t1 = t:=⟨_,rfl⟩
 obtain ⟨w1,hw1⟩:∃ w1,t % 4294967296 = w1:=⟨_,rfl⟩
 obtain ⟨w2,hw2⟩:∃ w2,t / 4294967296 = w2:=⟨_,rfl⟩
 obtain ⟨u,hu⟩:∃ u,w1 + p01 = u:=⟨_,rfl⟩
 obtain ⟨v,hv⟩:∃ v,u / 4294967296 = v:=⟨_,rfl⟩
 obtain ⟨q,hq⟩:∃ q,p11 + w2 = q:=⟨_,rfl⟩
 obtain ⟨hi,hhi⟩:∃ hi,pxy / 18446744073709551616 = hi:=⟨_,rfl⟩
 obtain ⟨lo,hlo⟩:∃ lo,pxy % 18446744073709551616 = lo:=⟨_,rfl⟩
 have e1:IntKind.u64.wrap ((x0:Int) * (y0:Int)) = (p00:Int):=by rw [c00,IntKind.wrap_u64];omega
 have e2:(p00:Int) / 4294967296 = (t1:Int):=by omega
 have e3:IntKind.u64.wrap ((x1:Int) * (y0:Int)) = (p10:Int):=by rw [c10,IntKind.wrap_u64];omega
 have e4:IntKind.u64.wrap ((p10:Int) + (t1:Int)) = (t:Int):=by rw [IntKind.wrap_u64];omega
 have e5:bits .and .u64 (t:Int) 4294967295 = (w1:Int):=by rw [hand t (by omega),hw1]
 have e6:(t:Int) / 4294967296 = (w2:Int):=by omega
 have e7:IntKind.u64.wrap ((x0:Int) * (y1:Int)) = (p01:Int):=by rw [c01,IntKind.wrap_u64];omega
 have e8:IntKind.u64.wrap ((w1:Int) + (p01:Int)) = (u:Int):=by rw [IntKind.wrap_u64];omega
 have e9:(u:Int) / 4294967296 = (v:Int):=by omega
 have e10:IntKind.u64.wrap ((x1:Int) * (y1:Int)) = (p11:Int):=by rw [c11,IntKind.wrap_u64];omega
 have e11:IntKind.u64.wrap ((p11:Int) + (w2:Int)) = (q:Int):=by rw [IntKind.wrap_u64];omega
 have e12:IntKind.u64.wrap ((q:Int) + (v:Int)) = (hi:Int):=by rw [IntKind.wrap_u64];omega
 have e13:IntKind.u64.wrap ((x:Int) * (y:Int)) = (lo:Int):=by rw [cxy,IntKind.wrap_u64];omega
 rw [hhi,hlo]
 clear hand h0 h1 k0 k1 hm m00 m10 m01 m11 ew c00 c10 c01 c11 cxy ht1 ht hw1 hw2 hu hv hq hhi hlo lx0 lx1 ly0 ly1
 go_enter Tryz.func168,Tryz.ntmps168
 go_wp2
 go_ret2
 exact ⟨rfl,rfl⟩
theorem wordProduct_any (x y m c:Nat) (hx:x < 18446744073709551616) (hy:y < 18446744073709551616) (hm:m < 18446744073709551616) (hc:c < 18446744073709551616) (w:World) :
  Calls Tryz.prog 157 #[.int .u64 (x:Int),.int .u64 (y:Int),.int .u64 (m:Int),.int .u64 (c:Int)] w fun e w'=>e = .returned (.tuple #[.int .u64 ((x * y + m + c) % 18446744073709551616:Nat),.int .u64 ((x * y + m + c) / 18446744073709551616:Nat)]) ∧ w = w':=by
 have hp:x * y ≤ 340282366920938463426481119284349108225:=Nat.le_trans (Nat.mul_le_mul (Nat.le_pred_of_lt hx) (Nat.le_pred_of_lt hy)) (by decide)
 have r:=mul64_any x y hx hy
 generalize x * y = p at *
 obtain ⟨hi,hhi⟩:∃ hi,p / 18446744073709551616 = hi:=⟨_,rfl⟩
 obtain ⟨lo,hlo⟩:∃ lo,p % 18446744073709551616 = lo:=⟨_,rfl⟩
 rw [hhi,hlo] at r
 obtain ⟨l1,h1⟩:∃ l1,(lo + m + 0) % 18446744073709551616 = l1:=⟨_,rfl⟩
 obtain ⟨f1,g1⟩:∃ f1,(lo + m + 0) / 18446744073709551616 = f1:=⟨_,rfl⟩
 obtain ⟨l2,h2⟩:∃ l2,(l1 + c + 0) % 18446744073709551616 = l2:=⟨_,rfl⟩
 obtain ⟨f2,g2⟩:∃ f2,(l1 + c + 0) / 18446744073709551616 = f2:=⟨_,rfl⟩
 have a1:=add64_any lo m 0 (by decide) h1 g1
 have a2:=add64_any l1 c 0 (by decide) h2 g2
 obtain ⟨q,hq⟩:∃ q,hi + f1 = q:=⟨_,rfl⟩
 obtain ⟨s,hs⟩:∃ s,(p + m + c) / 18446744073709551616 = s:=⟨_,rfl⟩
 obtain ⟨u,hu⟩:∃ u,(p + m + c) % 18446744073709551616 = u:=⟨_,rfl⟩
 have e1:IntKind.u64.wrap ((hi:Int) + (f1:Int)) = (q:Int):=by rw [IntKind.wrap_u64];omega
 have e2:IntKind.u64.wrap ((q:Int) + (f2:Int)) = (s:Int):=by rw [IntKind.wrap_u64];omega
 have hl:l2 = u:=by omega
 rw [hs,hu]
 subst hl
 simp only [Int.natCast_zero] at a1 a2
 clear hp hhi hlo h1 g1 h2 g2 hq hs hu
 go_enter Tryz.func157,Tryz.ntmps157
 go_wp2_with fail
 refine (r _).mono ?_
 rintro _ w' ⟨rfl,rfl⟩
 go_wp2
 go_ret2
 exact ⟨rfl,rfl⟩
theorem rows2 (w:World) (t1 t2:TypeId) (us vs:List Value):∃ w4:World,(w.alloc (.cells us.toArray t1)).alloc (.cells vs.toArray t2) = w4 ∧ Row w4 w.heap.size t1 us ∧ Row w4 (w.heap.size + 1) t2 vs ∧ Below w.heap.size w w4 ∧ w4.heap.size = w.heap.size + 1 + 1:=by
 have l1:=Below.more (Below.refl w.heap.size w) (Nat.le_refl _) (.cells us.toArray t1)
 have l2:=Below.more l1.1 l1.2 (.cells vs.toArray t2)
 exact ⟨_,rfl,(Row.new w t1 us).alloc _,Row.newAt _ _ (by simp) t2 vs,l2.1,by simp⟩
theorem rows3 (w:World) (t1 t2 t3:TypeId) (us vs xs:List Value):∃ w4:World,((w.alloc (.cells us.toArray t1)).alloc (.cells vs.toArray t2)).alloc (.cells xs.toArray t3) = w4 ∧ Row w4 w.heap.size t1 us ∧ Row w4 (w.heap.size + 1) t2 vs ∧ Row w4 (w.heap.size + 1 + 1) t3 xs ∧ Below w.heap.size w w4 ∧ w4.heap.size = w.heap.size + 1 + 1 + 1:=by
 obtain ⟨w2,h2,r1,r2,hb,hs⟩:=rows2 w t1 t2 us vs
 rw [h2]
 exact ⟨_,rfl,r1.alloc _,r2.alloc _,Row.newAt _ _ hs.symm t3 xs,hb.alloc (by omega) _,by simp [hs]⟩
theorem rows4 (w:World) (t1 t2 t3 t4:TypeId) (us vs xs ys:List Value):∃ w4:World,(((w.alloc (.cells us.toArray t1)).alloc (.cells vs.toArray t2)).alloc (.cells xs.toArray t3)).alloc (.cells ys.toArray t4) = w4 ∧ Row w4 w.heap.size t1 us ∧ Row w4 (w.heap.size + 1) t2 vs ∧ Row w4 (w.heap.size + 1 + 1) t3 xs ∧ Row w4 (w.heap.size + 1 + 1 + 1) t4 ys ∧ Below w.heap.size w w4 ∧ w4.heap.size = w.heap.size + 1 + 1 + 1 + 1:=by
 obtain ⟨w2,h2,r1,r2,r3,hb,hs⟩:=rows3 w t1 t2 t3 us vs xs
 rw [h2]
 exact ⟨_,rfl,r1.alloc _,r2.alloc _,r3.alloc _,Row.newAt _ _ hs.symm t4 ys,hb.alloc (by omega) _,by simp [hs]⟩
theorem row_fill {w:World} {g:Nat} {e:TypeId} {q:IntKind} {l:List Nat} {n k:Nat} (h:Row w g e (C q (l ++ Z n))) (hl:l.length = k) (hn:0 < n) (z:Nat):Row (w.setCell ⟨g,k,none⟩ (.int q (z:Int))) g e (C q ((l ++ [z]) ++ Z (n - 1))):=by
 subst hl
 obtain ⟨m,rfl⟩:∃ m,n = m + 1:=⟨n - 1,by omega⟩
 have:=h.set l.length (.int q (z:Int))
 rw [← C_set,Z,List.replicate_succ,set_at] at this
 simpa [Z] using this
theorem result_row2 {P:Program} {fn:Func} {R:Ending → World → Prop} {a:Act} {w:World} {p q:Tmp} {ty:TypeId} (hr:fn.results = #[.cell p ty,.tmp q]) {g:Nat} {us:List Value} {d:TypeDesc} {v:Value}
  (hp:a.tmps.getD p undef = .pointer (some ⟨g,0,none⟩)) (hq:a.tmps.getD q undef = v) (hg:Row w g ty us) (hu:P.underlying ty = some d) (hd:(match d with | .struct _ | .array _ _=>true | _=>false) = true) (hi:(P.info? ty).map (·.size) = some us.length)
  (hdf:a.defers = []) (h:R (.returned (.tuple #[.agg us.toArray,v])) w):bodyPost P fn R .ret a w:=by
 refine bodyPost_ret ?_ hdf h
 have hp':a.tmps[p]?.getD undef = .pointer (some ⟨g,0,none⟩):=by simpa using hp
 have hq':a.tmps[q]?.getD undef = v:=by simpa using hq
 simp [results,hr,hp',hq',asAddr,run_loadVar_row w g ty ty us.toArray (0,0) d hg hu (by cases d <;> simp_all) (by simpa using hi)]
theorem below_drawn {B:Nat} {w0 w:World} (h:Below B w0 w):Below B w0 w.drew:=⟨h.os,h.tape,h.output,h.size,h.block⟩
theorem cell_other {w:World} {g h i j:Nat} {u x:Value} (hc:w.cell? ⟨g,j,none⟩ = some x) (hne:g ≠ h):(w.setCell ⟨h,i,none⟩ u).drew.cell? ⟨g,j,none⟩ = some x:=by
 show (w.setCell ⟨h,i,none⟩ u).cell? ⟨g,j,none⟩ = some x
 rw [World.cell?_of_block (w:=w) (Below.heap_setCell _ _ _ _ hne)]
 exact hc
theorem minus_any (A B:Nat) (hA:A < 115792089237316195423570985008687907853269984665640564039457584007913129639936) (hB:B < 115792089237316195423570985008687907853269984665640564039457584007913129639936) (w:World) :
  Calls Tryz.prog 141 #[el A,el B] w fun e w'=>e = .returned (.tuple #[el ((A + 115792089237316195423570985008687907853269984665640564039457584007913129639936 - B) % 115792089237316195423570985008687907853269984665640564039457584007913129639936),.bool (decide (A < B))]) ∧ Below w.heap.size w w':=by
 obtain ⟨hM,hBr⟩:=mns_four hA hB
 have hx:=wds_lo A
 have hy:=wds_lo B
 have lx:=wds_length A
 have ly:=wds_length B
 unfold el
 rw [← hM]
 have hdec:decide (A < B) = decide ((mns (wds A) (wds B) 4).2 = 1):=by rw [decide_eq_decide];exact hBr.symm
 rw [hdec]
 clear hM hBr hdec
 generalize wds A = xs at *
 generalize wds B = ys at *
 obtain ⟨w4,h4,r1,r2,r3,r4,hL,hS⟩:=rows4 w 32 32 32 32 (C .u64 xs) (C .u64 ys) (C .u64 (Z 4)) (C .u64 (Z 4))
 go_enter Tryz.func141,Tryz.ntmps141
 go_wp2_with (refine wpList_alloc_row rfl 32 rfl _ z4 ?_)
 clear h4
 go_loopw [7,9] (fun b i wr=>∃ k:Nat,k ≤ 4 ∧ i = .int .i64 k ∧ b = .int .u64 ((mns xs ys k).2:Nat) ∧ Row wr w.heap.size 32 (C .u64 xs) ∧ Row wr (w.heap.size + 1) 32 (C .u64 ys) ∧ Row wr (w.heap.size + 1 + 1) 32 (C .u64 (Z 4)) ∧ Row wr (w.heap.size + 1 + 1 + 1) 32 (C .u64 ((mns xs ys k).1 ++ Z (4 - k))) ∧ Below w.heap.size w wr) (fun _ i _=>4 - (intOf i).toNat)
 case atStart=>exact ⟨0,Nat.zero_le _,rfl,rfl,r1,r2,r3,r4,hL⟩
 case round =>
  clear r1 r2 r3 r4 hL
  obtain ⟨k,hk,rfl,rfl,r1,r2,r3,r4,hL⟩:=hrel
  by_cases hlt:k < 4
  ·have c1:=r1.cell k
   rw [C_get .u64 (by omega)] at c1
   have c2:=r2.cell k
   rw [C_get .u64 (by omega)] at c2
   have c4:=r4.cell k
   have hlen:=mns_length xs ys k
   rw [C_get .u64 (by simp [hlen,Z_length];omega)] at c4
   have hf:=r4.frozen k
   obtain ⟨z,hz⟩:∃ z,(xs.getD k 0 + 18446744073709551616 - ys.getD k 0 - (mns xs ys k).2) % 18446744073709551616 = z:=⟨_,rfl⟩
   obtain ⟨c,hc⟩:∃ c,(if xs.getD k 0 < ys.getD k 0 + (mns xs ys k).2 then 1 else 0) = c:=⟨_,rfl⟩
   have hs:=sub64_any (xs.getD k 0) (ys.getD k 0) (mns xs ys k).2 (mns_le xs ys k) hz hc
   have HN:Away ((mns xs ys (k + 1)) = ((mns xs ys k).1 ++ [z],c)):=⟨by rw [← hz,← hc];rfl⟩
   have hki:(k:Int) < 4:=by omega
   clear hz hc hx hy
   generalize xs.getD k 0 = x at *
   generalize ys.getD k 0 = y at *
   generalize mns xs ys k = ms at *
   obtain ⟨m,b⟩:=ms
   simp only at *
   generalize (m ++ Z (4 - k)).getD k 0 = u at *
   go_wp2
   go_region_held3 (fun w'=>w'.cell? ⟨w.heap.size,k,none⟩ = some (.int .u64 (x:Int)) ∧ w'.cell? ⟨w.heap.size + 1,k,none⟩ = some (.int .u64 (y:Int)))
    (first | exact ⟨c1,c2⟩ | exact ⟨cell_other c1 (by omega),cell_other c2 (by omega)⟩)
    (fail)
   have q1:=(r1.drew.other (i:=k) (.int .u64 (z:Int)) (show w.heap.size ≠ w.heap.size + 1 + 1 + 1 by omega))
   have q2:=(r2.drew.other (i:=k) (.int .u64 (z:Int)) (show w.heap.size + 1 ≠ w.heap.size + 1 + 1 + 1 by omega))
   have q3:=(r3.drew.other (i:=k) (.int .u64 (z:Int)) (show w.heap.size + 1 + 1 ≠ w.heap.size + 1 + 1 + 1 by omega))
   have q4:=row_fill r4.drew hlen (by omega) z
   rw [show 4 - k - 1 = 4 - (k + 1) by omega] at q4
   have q5:=(below_drawn hL).setCell (p:=⟨w.heap.size + 1 + 1 + 1,k,none⟩) (by simp;omega) (.int .u64 (z:Int))
   clear r1 r2 r3 r4 hL c1 c2 c4 hs hf
   go_wp2
   go_roundw
   case rel =>
    exact ⟨k + 1,by omega,by go_num,by rw [HN.out],q1,q2,q3,by rw [HN.out];exact q4,q5⟩
   case measure=>simp [intOf];omega
  ·obtain rfl:k = 4:=by omega
   have h4:=mns_length xs ys 4
   generalize hms:mns xs ys 4 = ms at *
   have HM:=Away.mk hms
   clear hms
   obtain ⟨m,b⟩:=ms
   simp only at *
   rw [show m ++ Z (4 - 4) = m by simp [Z]] at r4
   have hi:=h4
   rw [← C_length .u64 m] at hi
   have hi4:(Tryz.prog.info? 32).map (·.size) = some (C .u64 m).length:=by rw [hi];exact i4
   have db:((b:Int) == 1) = decide (b = 1):=by rw [Bool.eq_iff_iff];simp;omega
   clear h4
   go_wp2_with (first | refine wpList_load_row rfl 32 _ rfl _ rfl _ _ _ _ r4 Tryz.underlying32 rfl hi4 ?_ | (refine wpList_store_R rfl 32 _ _ rfl _ _ rfl rfl r3 hi4 (by rw [hi];rfl) (C_allL _ _) ?_;intro w5 hR5 hg5 hz5))
   exact result_row2 Tryz.results141 (v:=.bool (decide (b = 1))) rfl rfl hR5 Tryz.underlying32 rfl hi4 rfl ⟨by rw [HM.out],below_grown hL hg5 (by omega) r3.lt⟩
theorem plus_any (A B:Nat) (hA:A < 115792089237316195423570985008687907853269984665640564039457584007913129639936) (hB:B < 115792089237316195423570985008687907853269984665640564039457584007913129639936) (w:World) :
  Calls Tryz.prog 144 #[el A,el B] w fun e w'=>e = .returned (.tuple #[el ((A + B) % 115792089237316195423570985008687907853269984665640564039457584007913129639936),.int .u64 ((A + B) / 115792089237316195423570985008687907853269984665640564039457584007913129639936:Nat)]) ∧ Below w.heap.size w w':=by
 obtain ⟨hM,hBr⟩:=pls_four hA hB
 have hx:=wds_lo A
 have hy:=wds_lo B
 have lx:=wds_length A
 have ly:=wds_length B
 unfold el
 rw [← hM,← hBr]
 clear hM hBr
 generalize wds A = xs at *
 generalize wds B = ys at *
 obtain ⟨w4,h4,r1,r2,r3,r4,hL,hS⟩:=rows4 w 32 32 32 32 (C .u64 xs) (C .u64 ys) (C .u64 (Z 4)) (C .u64 (Z 4))
 go_enter Tryz.func144,Tryz.ntmps144
 go_wp2_with (refine wpList_alloc_row rfl 32 rfl _ z4 ?_)
 clear h4
 go_loopw [7,9] (fun b i wr=>∃ k:Nat,k ≤ 4 ∧ i = .int .i64 k ∧ b = .int .u64 ((pls xs ys k).2:Nat) ∧ Row wr w.heap.size 32 (C .u64 xs) ∧ Row wr (w.heap.size + 1) 32 (C .u64 ys) ∧ Row wr (w.heap.size + 1 + 1) 32 (C .u64 (Z 4)) ∧ Row wr (w.heap.size + 1 + 1 + 1) 32 (C .u64 ((pls xs ys k).1 ++ Z (4 - k))) ∧ Below w.heap.size w wr) (fun _ i _=>4 - (intOf i).toNat)
 case atStart=>exact ⟨0,Nat.zero_le _,rfl,rfl,r1,r2,r3,r4,hL⟩
 case round =>
  clear r1 r2 r3 r4 hL
  obtain ⟨k,hk,rfl,rfl,r1,r2,r3,r4,hL⟩:=hrel
  by_cases hlt:k < 4
  ·have c1:=r1.cell k
   rw [C_get .u64 (by omega)] at c1
   have c2:=r2.cell k
   rw [C_get .u64 (by omega)] at c2
   have c4:=r4.cell k
   have hlen:=pls_length xs ys k
   rw [C_get .u64 (by simp [hlen,Z_length];omega)] at c4
   have hf:=r4.frozen k
   obtain ⟨z,hz⟩:∃ z,(xs.getD k 0 + ys.getD k 0 + (pls xs ys k).2) % 18446744073709551616 = z:=⟨_,rfl⟩
   obtain ⟨c,hc⟩:∃ c,(xs.getD k 0 + ys.getD k 0 + (pls xs ys k).2) / 18446744073709551616 = c:=⟨_,rfl⟩
   have hs:=add64_any (xs.getD k 0) (ys.getD k 0) (pls xs ys k).2 (pls_le hx hy k) hz hc
   have HN:Away ((pls xs ys (k + 1)) = ((pls xs ys k).1 ++ [z],c)):=⟨by rw [← hz,← hc];rfl⟩
   have hki:(k:Int) < 4:=by omega
   clear hz hc hx hy
   generalize xs.getD k 0 = x at *
   generalize ys.getD k 0 = y at *
   generalize pls xs ys k = ms at *
   obtain ⟨m,b⟩:=ms
   simp only at *
   generalize (m ++ Z (4 - k)).getD k 0 = u at *
   go_wp2
   go_region_held3 (fun w'=>w'.cell? ⟨w.heap.size,k,none⟩ = some (.int .u64 (x:Int)) ∧ w'.cell? ⟨w.heap.size + 1,k,none⟩ = some (.int .u64 (y:Int)))
    (first | exact ⟨c1,c2⟩ | exact ⟨cell_other c1 (by omega),cell_other c2 (by omega)⟩)
    (fail)
   have q1:=(r1.drew.other (i:=k) (.int .u64 (z:Int)) (show w.heap.size ≠ w.heap.size + 1 + 1 + 1 by omega))
   have q2:=(r2.drew.other (i:=k) (.int .u64 (z:Int)) (show w.heap.size + 1 ≠ w.heap.size + 1 + 1 + 1 by omega))
   have q3:=(r3.drew.other (i:=k) (.int .u64 (z:Int)) (show w.heap.size + 1 + 1 ≠ w.heap.size + 1 + 1 + 1 by omega))
   have q4:=row_fill r4.drew hlen (by omega) z
   rw [show 4 - k - 1 = 4 - (k + 1) by omega] at q4
   have q5:=(below_drawn hL).setCell (p:=⟨w.heap.size + 1 + 1 + 1,k,none⟩) (by simp;omega) (.int .u64 (z:Int))
   clear r1 r2 r3 r4 hL c1 c2 c4 hs hf
   go_wp2
   go_roundw
   case rel =>
    exact ⟨k + 1,by omega,by go_num,by rw [HN.out],q1,q2,q3,by rw [HN.out];exact q4,q5⟩
   case measure=>simp [intOf];omega
  ·obtain rfl:k = 4:=by omega
   have h4:=pls_length xs ys 4
   generalize hms:pls xs ys 4 = ms at *
   have HM:=Away.mk hms
   clear hms
   obtain ⟨m,b⟩:=ms
   simp only at *
   rw [show m ++ Z (4 - 4) = m by simp [Z]] at r4
   have hi:=h4
   rw [← C_length .u64 m] at hi
   have hi4:(Tryz.prog.info? 32).map (·.size) = some (C .u64 m).length:=by rw [hi];exact i4
   clear h4
   go_wp2_with (first | refine wpList_load_row rfl 32 _ rfl _ rfl _ _ _ _ r4 Tryz.underlying32 rfl hi4 ?_ | (refine wpList_store_R rfl 32 _ _ rfl _ _ rfl rfl r3 hi4 (by rw [hi];rfl) (C_allL _ _) ?_;intro w5 hR5 hg5 hz5))
   exact result_row2 Tryz.results144 (v:=.int .u64 (b:Int)) rfl rfl hR5 Tryz.underlying32 rfl hi4 rfl ⟨by rw [HM.out],below_grown hL hg5 (by omega) r3.lt⟩
theorem row_set {w:World} {g:Nat} {e:TypeId} {q:IntKind} {l:List Nat} (h:Row w g e (C q l)) (i z:Nat):Row (w.setCell ⟨g,i,none⟩ (.int q (z:Int))) g e (C q (l.set i z)):=by
 rw [C_set];exact h.set i _
set_option maxHeartbeats 2000000 in
theorem product_any (A B:Nat) (hA:A < 115792089237316195423570985008687907853269984665640564039457584007913129639936) (hB:B < 115792089237316195423570985008687907853269984665640564039457584007913129639936) (w:World) :
  Calls Tryz.prog 143 #[el A,el B] w fun e w'=>(∃ p:List Nat,e = .returned (.agg (C .u64 p).toArray) ∧ p.length = 8 ∧ Lo 18446744073709551616 p ∧ val 18446744073709551616 p = A * B) ∧ Below w.heap.size w w':=by
 have hx:=wds_lo A
 have hy:=wds_lo B
 have lx:=wds_length A
 have ly:=wds_length B
 have vA:=wds_val hA
 have vB:=wds_val hB
 have HE:Away (val 18446744073709551616 (wds A) * val 18446744073709551616 (wds B) = A * B):=⟨by rw [vA,vB]⟩
 unfold el
 clear vA vB hA hB
 generalize wds A = xs at *
 generalize wds B = ys at *
 obtain ⟨w4,h4,r1,r2,r3,r4,hL,hS⟩:=rows4 w 32 32 86 86 (C .u64 xs) (C .u64 ys) (C .u64 (Z 8)) (C .u64 (Z 8))
 have hix:(Tryz.prog.info? 32).map (·.size) = some (C .u64 xs).toArray.size:=by rw [C_size,lx];exact i4
 have hiy:(Tryz.prog.info? 32).map (·.size) = some (C .u64 ys).toArray.size:=by rw [C_size,ly];exact i4
 have hxi:=Away.mk (fun w k h=>run_index_C (P:=Tryz.prog) w (q:=.u64) Tryz.underlying32 (by kernel_rfl) i1w xs k h lx)
 have hyi:=Away.mk (fun w k h=>run_index_C (P:=Tryz.prog) w (q:=.u64) Tryz.underlying32 (by kernel_rfl) i1w ys k h ly)
 go_enter Tryz.func143,Tryz.ntmps143
 go_upto_region 2 with (refine wpList_alloc_row rfl 86 rfl _ z4' ?_)
 simp only [Act.put,stA,st0,st1,alloc_size,h4]
 clear h4
 go_wp2_with (refine wpList_load_row rfl 32 _ rfl _ rfl _ _ _ _ r1 Tryz.underlying32 rfl hix ?_)
 go_loopw [12] (fun i wr=>∃ (k:Nat) (l:List Nat),k ≤ 4 ∧ i = .int .i64 k ∧ Pout 18446744073709551616 4 xs ys l k ∧ Row wr (w.heap.size + 1) 32 (C .u64 ys) ∧ Row wr (w.heap.size + 1 + 1) 86 (C .u64 (Z 8)) ∧ Row wr (w.heap.size + 1 + 1 + 1) 86 (C .u64 l) ∧ Below w.heap.size w wr) (fun i _=>4 - (intOf i).toNat)
 case atStart=>exact ⟨0,Z 8,Nat.zero_le _,rfl,Pout.begin (by decide) xs ys,r2,r3,r4,hL⟩
 case round =>
  clear r1 r2 r3 r4 hL
  obtain ⟨k,l,hk,rfl,ho,r2,r3,r4,hL⟩:=hrel
  by_cases hlt:k < 4
  ·have hxk:=fun w=>hxi.out w k hlt
   have bx:=hx.getD (by decide) k
   obtain ⟨x,hxe⟩:∃ x,xs.getD k 0 = x:=⟨_,rfl⟩
   rw [hxe] at bx
   simp only [hxe] at hxk
   have HX:=Away.mk hxe
   clear hxe
   have hki:(k:Int) < 4:=by omega
   have HP:=Away.mk (ho.inner (by decide))
   clear ho
   go_wp2_with (refine wpList_load_row rfl 32 _ rfl _ rfl _ _ _ _ r2 Tryz.underlying32 rfl hiy ?_)
   go_loopw [8,17] (fun cv i wr=>∃ (j c:Nat) (l:List Nat),j ≤ 4 ∧ i = .int .i64 j ∧ cv = .int .u64 (c:Int) ∧ Away (Pin 18446744073709551616 4 xs ys l k j c) ∧ Row wr (w.heap.size + 1) 32 (C .u64 ys) ∧ Row wr (w.heap.size + 1 + 1) 86 (C .u64 (Z 8)) ∧ Row wr (w.heap.size + 1 + 1 + 1) 86 (C .u64 l) ∧ Below w.heap.size w wr) (fun _ i _=>4 - (intOf i).toNat)
   case atStart=>exact ⟨0,0,l,Nat.zero_le _,rfl,rfl,HP,r2,r3,r4,hL⟩
   case round =>
    clear r2 r3 r4 hL HP l
    obtain ⟨j,c,l,hj,rfl,rfl,HP,r2,r3,r4,hL⟩:=hrel
    have hc:=HP.out.small
    have hlen:=HP.out.len
    by_cases hlt2:j < 4
    ·have hyj:=fun w=>hyi.out w j hlt2
     have by':=hy.getD (by decide) j
     have bl:=HP.out.lo.getD (by decide) (k + j)
     have HN:=Away.mk (HP.out.step (by decide) hx hy hlt2 hlt)
     have c4:=r4.cell (k + j)
     rw [C_get .u64 (by omega)] at c4
     have hf:=r4.frozen (k + j)
     rw [HX.out] at HN
     clear HP
     generalize ys.getD j 0 = y at *
     generalize l.getD (k + j) 0 = v at *
     have hji:(j:Int) < 4:=by omega
     obtain ⟨n,hn⟩:∃ n,k + j = n:=⟨_,rfl⟩
     rw [hn] at HN c4 hf
     have en:(k:Int) + (j:Int) = (n:Int):=by omega
     have wn:IntKind.i64.wrap (n:Int) = (n:Int):=by rw [IntWalk.i64_in _ ⟨by omega,by omega⟩]
     have bn:(n:Int) < 8:=by omega
     clear hn
     go_wp2_with fail
     with_reducible refine (wordProduct_any x y v c bx by' bl hc _).mono ?_
     rintro _ w' ⟨rfl,rfl⟩
     generalize (x * y + v + c) % 18446744073709551616 = z at *
     generalize (x * y + v + c) / 18446744073709551616 = d at *
     go_wp2
     have q2:=r2.other (i:=n) (.int .u64 (z:Int)) (show w.heap.size + 1 ≠ w.heap.size + 1 + 1 + 1 by omega)
     have q3:=r3.other (i:=n) (.int .u64 (z:Int)) (show w.heap.size + 1 + 1 ≠ w.heap.size + 1 + 1 + 1 by omega)
     have q4:=row_set r4 n z
     have q5:=hL.setCell (p:=⟨w.heap.size + 1 + 1 + 1,n,none⟩) (by simp;omega) (.int .u64 (z:Int))
     clear r2 r3 r4 hL c4 hf
     go_roundw
     case rel=>exact ⟨j + 1,d,_,by omega,by go_num,rfl,HN,q2,q3,q4,q5⟩
     case measure=>simp [intOf];omega
    ·obtain rfl:j = 4:=by omega
     have HN:=Away.mk (HP.out.out ly hlt)
     have hf:=r4.frozen (k + 4)
     have c4:=r4.cell (k + 4)
     rw [C_get .u64 (by omega)] at c4
     generalize l.getD (k + 4) 0 = v at *
     obtain ⟨n,hn⟩:∃ n,k + 4 = n:=⟨_,rfl⟩
     rw [hn] at HN c4 hf
     have en:(k:Int) + 4 = (n:Int):=by omega
     have wn:IntKind.i64.wrap (n:Int) = (n:Int):=by rw [IntWalk.i64_in _ ⟨by omega,by omega⟩]
     have bn:(n:Int) < 8:=by omega
     have q2:=r2.other (i:=n) (.int .u64 (c:Int)) (show w.heap.size + 1 ≠ w.heap.size + 1 + 1 + 1 by omega)
     have q3:=r3.other (i:=n) (.int .u64 (c:Int)) (show w.heap.size + 1 + 1 ≠ w.heap.size + 1 + 1 + 1 by omega)
     have q4:=row_set r4 n c
     have q5:=hL.setCell (p:=⟨w.heap.size + 1 + 1 + 1,n,none⟩) (by simp;omega) (.int .u64 (c:Int))
     clear hn HP r2 r3 r4 hL
     go_wp2
     go_roundw
     case rel=>exact ⟨k + 1,_,by omega,by go_num,HN.out,q2,q3,q4,q5⟩
     case measure=>simp [intOf];omega
  ·obtain rfl:k = 4:=by omega
   have hi:=ho.len
   rw [← C_length .u64 l] at hi
   have hi8:(Tryz.prog.info? 86).map (·.size) = some (C .u64 l).length:=by rw [hi];exact i8
   have HV:=Away.mk ho
   clear ho
   go_wp2_with (first | refine wpList_load_row rfl 86 _ rfl _ rfl _ _ _ _ r4 Tryz.underlying86 rfl hi8 ?_ | (refine wpList_store_R rfl 86 _ _ rfl _ _ rfl rfl r3 hi8 (by rw [hi];rfl) (C_allL _ _) ?_;intro w5 hR5 hg5 hz5))
   exact result_row Tryz.results143 rfl hR5 Tryz.underlying86 rfl hi8 rfl ⟨⟨l,rfl,HV.out.len,HV.out.lo,by rw [HV.out.all lx,HE.out]⟩,below_grown hL hg5 (by omega) r3.lt⟩
set_option maxHeartbeats 1000000 in
theorem folded_any (p:List Nat) (lp:p.length = 8) (hp:Lo 18446744073709551616 p) (w:World) :
  Calls Tryz.prog 142 #[.agg (C .u64 p).toArray] w fun e w'=>(∃ M:Nat,e = .returned (el M) ∧ M < 115792089237316195423570985008687907853269984665640564039457584007913129639936 ∧ M % P = val 18446744073709551616 p % P) ∧ Below w.heap.size w w':=by
 obtain ⟨w4,h4,r1,r3,r4,hL,hS⟩:=rows3 w 86 32 32 (C .u64 p) (C .u64 (Z 4)) (C .u64 (Z 4))
 go_enter Tryz.func142,Tryz.ntmps142
 go_wp2_with (refine wpList_alloc_row rfl 32 rfl _ z4 ?_)
 clear h4
 go_loopw [4,6] (fun b i wr=>∃ k:Nat,k ≤ 4 ∧ i = .int .i64 k ∧ b = .int .u64 ((fld 18446744073709551616 4 p k).2:Nat) ∧ Row wr w.heap.size 86 (C .u64 p) ∧ Row wr (w.heap.size + 1) 32 (C .u64 (Z 4)) ∧ Row wr (w.heap.size + 1 + 1) 32 (C .u64 ((fld 18446744073709551616 4 p k).1 ++ Z (4 - k))) ∧ Below w.heap.size w wr) (fun _ i _=>4 - (intOf i).toNat)
 case atStart=>exact ⟨0,Nat.zero_le _,rfl,rfl,r1,r3,r4,hL⟩
 case round =>
  clear r1 r3 r4 hL
  obtain ⟨k,hk,rfl,rfl,r1,r3,r4,hL⟩:=hrel
  by_cases hlt:k < 4
  ·have c1:=r1.cell k
   rw [C_get .u64 (by omega)] at c1
   have c2:=r1.cell (k + 4)
   rw [C_get .u64 (by omega)] at c2
   have c4:=r4.cell k
   have hlen:=fld_length 18446744073709551616 4 p k
   rw [C_get .u64 (by simp [hlen,Z_length];omega)] at c4
   have hf:=r4.frozen k
   have b1:=hp.getD (by decide) k
   have b2:=hp.getD (by decide) (k + 4)
   have b3:=fld_le (n:=4) (by decide) hp k
   have HN:Away (fld 18446744073709551616 4 p (k + 1) = ((fld 18446744073709551616 4 p k).1 ++ [(p.getD (k + 4) 0 * 38 + p.getD k 0 + (fld 18446744073709551616 4 p k).2) % 18446744073709551616],(p.getD (k + 4) 0 * 38 + p.getD k 0 + (fld 18446744073709551616 4 p k).2) / 18446744073709551616)):=⟨rfl⟩
   have hki:(k:Int) < 4:=by omega
   generalize p.getD k 0 = x at *
   generalize p.getD (k + 4) 0 = y at *
   generalize fld 18446744073709551616 4 p k = ms at *
   obtain ⟨m,b⟩:=ms
   simp only at *
   have hw:=wordProduct_any y 38 x b b2 (by decide) b1 (by omega)
   generalize (y * 38 + x + b) % 18446744073709551616 = z at *
   generalize (y * 38 + x + b) / 18446744073709551616 = d at *
   generalize (m ++ Z (4 - k)).getD k 0 = u at *
   obtain ⟨n,hn⟩:∃ n,k + 4 = n:=⟨_,rfl⟩
   rw [hn] at c2
   have en:(k:Int) + 4 = (n:Int):=by omega
   have wn:IntKind.i64.wrap (n:Int) = (n:Int):=by rw [IntWalk.i64_in _ ⟨by omega,by omega⟩]
   have bn:(n:Int) < 8:=by omega
   have bk:(k:Int) < 8:=by omega
   clear hn b1 b2 b3
   go_wp2
   go_region_held3 (fun w'=>w'.cell? ⟨w.heap.size,k,none⟩ = some (.int .u64 (x:Int)) ∧ w'.cell? ⟨w.heap.size,n,none⟩ = some (.int .u64 (y:Int)))
    (first | exact ⟨c1,c2⟩ | exact ⟨cell_other c1 (by omega),cell_other c2 (by omega)⟩)
    (first | (go_at_call 157;refine (hw _).mono ?_;rintro e w' ⟨rfl,rfl⟩))
   have q1:=(r1.drew.other (i:=k) (.int .u64 (z:Int)) (show w.heap.size ≠ w.heap.size + 1 + 1 by omega))
   have q3:=(r3.drew.other (i:=k) (.int .u64 (z:Int)) (show w.heap.size + 1 ≠ w.heap.size + 1 + 1 by omega))
   have q4:=row_fill r4.drew hlen (by omega) z
   rw [show 4 - k - 1 = 4 - (k + 1) by omega] at q4
   have q5:=(below_drawn hL).setCell (p:=⟨w.heap.size + 1 + 1,k,none⟩) (by simp;omega) (.int .u64 (z:Int))
   clear r1 r3 r4 hL c1 c2 c4 hw hf
   go_wp2
   go_roundw
   case rel=>exact ⟨k + 1,by omega,by go_num,by rw [HN.out],q1,q3,by rw [HN.out];exact q4,q5⟩
   case measure=>simp [intOf];omega
  ·have HK:Away (k = 4):=⟨by omega⟩
   have dk:decide ((k:Int) < 4) = false:=decide_eq_false (by omega)
   obtain ⟨c0,hc0,hc0e⟩:∃ c0,c0 = (fld 18446744073709551616 4 p k).2 ∧ (fld 18446744073709551616 4 p 4).2 = c0:=⟨_,rfl,by rw [HK.out]⟩
   rw [← hc0]
   rw [HK.out] at r4
   clear hc0
   obtain ⟨g1,g2,g3⟩:=fld_mod (by decide) hp lp W_pow
   have h4:=fld_length 18446744073709551616 4 p 4
   have h5:=fld_lo (B:=18446744073709551616) (by decide) 4 p 4
   generalize fld 18446744073709551616 4 p 4 = ms at *
   obtain ⟨m,b⟩:=ms
   simp only at *
   subst hc0e
   rw [show m ++ Z (4 - 4) = m by simp [Z],wds_of h4 h5 rfl] at r4
   generalize val 18446744073709551616 m = M at *
   have HG:Away ((M + 115792089237316195423570985008687907853269984665640564039457584007913129639936 * b) % P = val 18446744073709551616 p % P):=⟨g1⟩
   clear g1 h4 h5 m r1 hlt hk
   go_wp2
   go_loopw [4,24] (fun b i wr=>∃ k M c:Nat,k ≤ 2 ∧ i = .int .i64 k ∧ b = .int .u64 (c:Nat) ∧ M < 115792089237316195423570985008687907853269984665640564039457584007913129639936 ∧ c ≤ 38 ∧ Away ((M + 115792089237316195423570985008687907853269984665640564039457584007913129639936 * c) % P = val 18446744073709551616 p % P ∧ (k = 1 → c ≤ 1 ∧ (c = 1 → M < 1444)) ∧ (k = 2 → c = 0)) ∧ Row wr (w.heap.size + 1) 32 (C .u64 (Z 4)) ∧ Row wr (w.heap.size + 1 + 1) 32 (C .u64 (wds M)) ∧ Below w.heap.size w wr) (fun _ i _=>2 - (intOf i).toNat)
   case atStart=>exact ⟨0,M,b,Nat.zero_le _,rfl,rfl,g2,g3,⟨HG.out,fun h=>by omega,fun h=>by omega⟩,r3,r4,hL⟩
   case round =>
    clear r3 r4 hL g2 g3 HG
    obtain ⟨k,M,c,hk,rfl,rfl,hM,hc,HP,r3,r4,hL⟩:=hrel
    by_cases hlt:k < 2
    ·have hki:(k:Int) < 2:=by omega
     have hi:(C .u64 (wds M)).length = 4:=by rw [C_length,wds_length]
     have hi4:(Tryz.prog.info? 32).map (·.size) = some (C .u64 (wds M)).length:=by rw [hi];exact i4
     have ew:IntKind.u64.wrap ((c:Int) * 38) = ((38 * c:Nat):Int):=by rw [IntKind.wrap_u64];omega
     have hb:Value.agg #[.int .u64 ((38 * c:Nat):Int),.int .u64 0,.int .u64 0,.int .u64 0] = el (38 * c):=by
      rw [el,wds_small (by omega)];rfl
     have hpl:=plus_any M (38 * c) hM (by omega)
     have HQ:=Away.mk (fold_next hM hc hlt HP.out)
     generalize 38 * c = q at *
     go_wp2_with (refine wpList_load_row rfl 32 _ rfl _ rfl _ _ _ _ r4 Tryz.underlying32 rfl hi4 ?_)
     refine (hpl _).mono ?_
     rintro _ w' ⟨rfl,hb2⟩
     have hl2:=Nat.mod_lt (M + q) (show 0 < 115792089237316195423570985008687907853269984665640564039457584007913129639936 by decide)
     generalize (M + q) % 115792089237316195423570985008687907853269984665640564039457584007913129639936 = M2 at *
     generalize (M + q) / 115792089237316195423570985008687907853269984665640564039457584007913129639936 = c2 at *
     replace r3:=r3.belowS hb2
     replace r4:=r4.belowS hb2
     replace hL:=hL.trans (hb2.mono hL.size)
     have hi2:(C .u64 (wds M2)).length = 4:=by rw [C_length,wds_length]
     have hi42:(Tryz.prog.info? 32).map (·.size) = some (C .u64 (wds M2)).length:=by rw [hi2];exact i4
     clear hpl hb2 hb ew HP hM hc
     go_wp2_with (refine wpList_store_R rfl 32 _ _ rfl _ (C .u64 (wds M2)) rfl rfl r4 hi42 (by rw [hi,hi2]) (C_allL _ _) ?_;intro w5 hR5 hg5 hz5)
     have r3':=r3.grown hg5 (by simp)
     have hL':=below_grown hL hg5 (by omega) r4.lt
     clear r3 r4 hL
     go_roundw
     case rel=>exact ⟨k + 1,M2,c2,by omega,by go_num,rfl,hl2,HQ.out.1,⟨HQ.out.2⟩,r3',hR5,hL'⟩
     case measure=>simp [intOf];omega
    ·obtain rfl:k = 2:=by omega
     have hi:(C .u64 (wds M)).length = 4:=by rw [C_length,wds_length]
     have hi4:(Tryz.prog.info? 32).map (·.size) = some (C .u64 (wds M)).length:=by rw [hi];exact i4
     go_wp2_with (first | refine wpList_load_row rfl 32 _ rfl _ rfl _ _ _ _ r4 Tryz.underlying32 rfl hi4 ?_ | (refine wpList_store_R rfl 32 _ _ rfl _ _ rfl rfl r3 hi4 (by rw [hi];rfl) (C_allL _ _) ?_;intro w5 hR5 hg5 hz5))
     refine result_row Tryz.results142 rfl hR5 Tryz.underlying32 rfl hi4 rfl ⟨⟨M,rfl,hM,?_⟩,below_grown hL hg5 (by omega) r3.lt⟩
     obtain ⟨e1,_,e2⟩:=HP.out
     rw [e2 (by trivial)] at e1
     exact e1
def Glob (w:World) (g n:Nat):Prop:=∃ t f,w.heap[g]? = some (.cells (C .u64 (wds n)).toArray t f)
theorem Glob.below {w w':World} {g n:Nat} (h:Glob w g n) (hb:Below w.heap.size w w'):Glob w' g n:=by
 obtain ⟨t,f,h⟩:=h
 exact ⟨t,f,(hb.block g (Array.getElem?_eq_some_iff.1 h).1).trans h⟩
theorem Glob.grown {w w':World} {g n k:Nat} (h:Glob w g n) (hg:w.grownBy w' (some k)) (hne:g ≠ k):Glob w' g n:=by
 obtain ⟨t,f,h⟩:=h
 exact ⟨t,f,(hg.block g (Array.getElem?_eq_some_iff.1 h).1 (by simpa using hne)).trans h⟩
theorem Glob.lt {w:World} {g n:Nat} (h:Glob w g n):g < w.heap.size:=by
 obtain ⟨t,f,h⟩:=h
 exact (Array.getElem?_eq_some_iff.1 h).1
theorem Glob.drew {w:World} {g n:Nat} (h:Glob w g n):Glob w.drew g n:=h
abbrev Tab (w:World):Prop:=Glob w 5 P
theorem e4 (n:Nat):(C .u64 (wds n)).length = 4:=by rw [C_length,wds_length]
theorem ie4 (n:Nat):(Tryz.prog.info? 32).map (·.size) = some (C .u64 (wds n)).length:=by rw [e4];exact i4
theorem ze4 (n:Nat):(C .u64 (Z 4)).length = (C .u64 (wds n)).length:=by rw [e4];rfl
theorem ee4 (m n:Nat):(C .u64 (wds m)).length = (C .u64 (wds n)).length:=by rw [e4,e4]
theorem from_any (n:Nat) (hn:n < 18446744073709551616) (w:World):Calls Tryz.prog 108 #[.int .u64 (n:Int)] w fun e w'=>e = .returned (el n) ∧ Below w.heap.size w w':=by
 have hb:Value.agg #[.int .u64 (n:Int),.int .u64 0,.int .u64 0,.int .u64 0] = .agg (C .u64 (wds n)).toArray:=by rw [wds_small hn];rfl
 have r1:=Row.new w 32 (C .u64 (Z 4))
 have hL:=(Below.more (Below.refl w.heap.size w) (Nat.le_refl _) (.cells (C .u64 (Z 4)).toArray 32)).1
 have hz:=ze4 n
 have hi:=ie4 n
 unfold el
 generalize wds n = xs at *
 go_enter Tryz.func108,Tryz.ntmps108
 go_wp2_with (first | refine wpList_alloc_row rfl 32 rfl _ z4 ?_ | (refine wpList_store_R rfl 32 _ _ rfl _ (C .u64 xs) rfl rfl r1 hi hz (C_allL _ _) ?_;intro w5 hR5 hg5 hz5))
 exact result_row Tryz.results108 rfl hR5 Tryz.underlying32 rfl hi rfl ⟨rfl,below_grown hL hg5 (by omega) r1.lt⟩
theorem bit_of {A i:Nat}:A / 18446744073709551616 ^ (i / 64) % 18446744073709551616 / 2 ^ (i % 64) % 2 = A / 2 ^ i % 2:=by
 have hp:(18446744073709551616:Nat) ^ (i / 64) = 2 ^ (64 * (i / 64)):=by rw [Nat.pow_mul]
 obtain ⟨r,hr⟩:∃ r,i % 64 = r:=⟨_,rfl⟩
 have hr64:r < 64:=by omega
 have hW:(18446744073709551616:Nat) = 2 ^ r * 2 ^ (64 - r):=by rw [← Nat.pow_add,show r + (64 - r) = 64 by omega]
 rw [hr,hp,hW,Nat.mod_mul_right_div_self,Nat.div_div_eq_div_mul,← Nat.pow_add,show 64 * (i / 64) + r = i by omega]
 obtain ⟨s,hs⟩:∃ s,64 - r = s + 1:=⟨63 - r,by omega⟩
 rw [hs,Nat.pow_succ',Nat.mod_mul_right_mod]
theorem fbit_any (A i:Nat) (hA:A < 115792089237316195423570985008687907853269984665640564039457584007913129639936) (hi:i < 256) (w:World):Calls Tryz.prog 111 #[el A,.int .i64 (i:Int)] w fun e w'=>e = .returned (.bool (decide (A / 2 ^ i % 2 = 1))) ∧ Below w.heap.size w w':=by
 have r1:=Row.new w 32 (C .u64 (wds A))
 have hL:=(Below.more (Below.refl w.heap.size w) (Nat.le_refl _) (.cells (C .u64 (wds A)).toArray 32)).1
 have c1:=r1.cell (i / 64)
 rw [C_get .u64 (by rw [wds_length];omega)] at c1
 rw [← bit_of]
 have bx:=(wds_lo A).getD (by decide) (i / 64)
 rw [wds_getD hA] at bx c1
 unfold el
 generalize A / 18446744073709551616 ^ (i / 64) % 18446744073709551616 = x at *
 obtain ⟨q,hq⟩:∃ q,i / 64 = q:=⟨_,rfl⟩
 obtain ⟨r,hr⟩:∃ r,i % 64 = r:=⟨_,rfl⟩
 rw [hq] at c1
 rw [hr]
 have dq:(i:Int).tdiv 64 = (q:Int):=by rw [Int.tdiv_eq_ediv_of_nonneg (by omega)];omega
 have dq':(i:Int) / 64 = (q:Int):=by omega
 have bq:(q:Int) < 4:=by omega
 have dr:(i:Int).tmod 64 = (r:Int):=by rw [Int.tmod_eq_emod_of_nonneg (by omega)];omega
 have dr':(i:Int) % 64 = (r:Int):=by omega
 have br:(r:Int) < 64:=by omega
 obtain ⟨y,hy⟩:∃ y,x / 2 ^ r = y:=⟨_,rfl⟩
 have ey:(x:Int) / 2 ^ r = (y:Int):=by rw [← hy];simp
 rw [hy]
 have hyl:y < 18446744073709551616:=by rw [← hy];exact Nat.lt_of_le_of_lt (Nat.div_le_self _ _) bx
 obtain ⟨u,hu⟩:∃ u,y % 2 = u:=⟨_,rfl⟩
 have eu:bits .and .u64 (y:Int) 1 = (u:Int):=by
  have:=u64_and_nat y 1 hyl (by decide)
  rw [show ((1:Nat):Int) = 1 from rfl] at this
  rw [this,Nat.and_one_is_mod,hu]
 rw [hu]
 have du:((u:Int) == 1) = decide (u = 1):=by rw [Bool.eq_iff_iff];simp;omega
 clear hq hr hy hu hyl bx
 generalize wds A = xs at *
 go_enter Tryz.func111,Tryz.ntmps111
 go_wp2
 go_ret
 exact ⟨rfl,hL⟩
def rd (A:Nat):Nat → Nat
 | 0=>A
 | k + 1=>if rd A k < P then rd A k else rd A k - P
theorem rd_two {A:Nat} (h:A < 115792089237316195423570985008687907853269984665640564039457584007913129639936):rd A 2 = A % P:=by
 rw [red_once h]
 have e1:rd A 1 = if A < P then A else A - P:=rfl
 show (if rd A 1 < P then rd A 1 else rd A 1 - P) = _
 rw [e1]
 by_cases h1:A < P
 ·simp only [if_pos h1]
 ·simp only [if_neg h1]
theorem reduce_any (A:Nat) (hA:A < 115792089237316195423570985008687907853269984665640564039457584007913129639936) (w:World) (hT:Tab w):Calls Tryz.prog 107 #[el A] w fun e w'=>e = .returned (el (A % P)) ∧ Below w.heap.size w w':=by
 obtain ⟨w4,h4,r1,r2,hL,hS⟩:=rows2 w 32 32 (C .u64 (wds A)) (C .u64 (Z 4))
 have hT4:=hT.below hL
 have hP:=P_lt
 rw [← rd_two hA]
 unfold el
 go_enter Tryz.func107,Tryz.ntmps107
 go_wp2_with (refine wpList_alloc_row rfl 32 rfl _ z4 ?_)
 clear h4
 go_loopw [5] (fun i wr=>∃ k M:Nat,k ≤ 2 ∧ i = .int .i64 k ∧ Away (M = rd A k) ∧ M < 115792089237316195423570985008687907853269984665640564039457584007913129639936 ∧ Row wr w.heap.size 32 (C .u64 (wds M)) ∧ Row wr (w.heap.size + 1) 32 (C .u64 (Z 4)) ∧ Tab wr ∧ Below w.heap.size w wr ∧ w.heap.size + 1 < wr.heap.size) (fun i _=>2 - (intOf i).toNat)
 case atStart=>exact ⟨0,A,Nat.zero_le _,rfl,⟨rfl⟩,hA,r1,r2,hT4,hL,by omega⟩
 case round =>
  clear r1 r2 hT4 hL
  obtain ⟨k,M,hk,rfl,HM,hM,r1,r2,⟨tg,fg,hTg⟩,hL,hlt0⟩:=hrel
  by_cases hlt:k < 2
  ·have hki:(k:Int) < 2:=by omega
   have hTk:Tab wr:=⟨tg,fg,hTg⟩
   have hiM:=ie4 M
   have hiP:=ie4 P
   have hm:=minus_any M P hM hP
   have hMP:Away (rd A (k + 1) = if M < P then M else M - P):=⟨by rw [HM.out];rfl⟩
   obtain ⟨D,hD⟩:∃ D,(M + 115792089237316195423570985008687907853269984665640564039457584007913129639936 - P) % 115792089237316195423570985008687907853269984665640564039457584007913129639936 = D:=⟨_,rfl⟩
   rw [hD] at hm
   have hDl:D < 115792089237316195423570985008687907853269984665640564039457584007913129639936:=by rw [← hD];exact Nat.mod_lt _ (by decide)
   have hDv:Away (¬ M < P → D = M - P):=⟨fun h=>by omega⟩
   have hiD:=ie4 D
   clear hD
   by_cases hb:M < P
   ·rw [decide_eq_true hb] at hm
    go_wp2_with (first | refine wpList_load_row rfl 32 _ rfl _ rfl _ _ _ _ r1 Tryz.underlying32 rfl hiM ?_ | refine wpList_load_row rfl 32 _ rfl _ rfl _ _ _ _ hTg Tryz.underlying32 rfl hiP ?_)
    refine (hm _).mono ?_
    rintro _ w' ⟨rfl,hb2⟩
    replace r1:=r1.belowS hb2
    replace r2:=r2.belowS hb2
    replace hL:=hL.trans (hb2.mono hL.size)
    replace hTk:=hTk.below hb2
    have hlk:=hTk.lt
    have hs2:=hb2.size
    clear hTg hm hb2
    have r3:=Row.new w' 32 (C .u64 (Z 4))
    replace r1:=r1.alloc (.cells (C .u64 (Z 4)).toArray 32)
    replace r2:=r2.alloc (.cells (C .u64 (Z 4)).toArray 32)
    replace hTk:=hTk.below (Below.more (Below.refl w'.heap.size w') (Nat.le_refl _) (.cells (C .u64 (Z 4)).toArray 32)).1
    replace hL:=hL.alloc (by omega) (.cells (C .u64 (Z 4)).toArray 32)
    have hs3:=alloc_size w' (.cells (C .u64 (Z 4)).toArray 32)
    generalize hg3:w'.heap.size = g3 at *
    go_wp2_with (first | refine wpList_alloc_row rfl 32 rfl _ z4 ?_ | (refine wpList_store_R rfl 32 _ _ rfl _ (C .u64 (wds D)) (by rw [← hg3];rfl) rfl r3 hiD (by rw [e4];rfl) (C_allL _ _) ?_;intro w5 r5 hg5 hz5))
    have r2':=r2.grown hg5 (by simp;omega)
    have r1':=r1.grown hg5 (by simp;omega)
    have hT':=hTk.grown hg5 (by omega)
    have hL':=below_grown hL hg5 (by omega) r3.lt
    clear r1 r2 hTk hL r3 hg5 r5
    go_roundw
    case rel=>exact ⟨k + 1,M,by omega,by go_num,⟨by rw [hMP.out,if_pos hb]⟩,hM,r1',r2',hT',hL',by omega⟩
    case measure=>simp [intOf];omega
   ·rw [decide_eq_false hb] at hm
    go_wp2_with (first | refine wpList_load_row rfl 32 _ rfl _ rfl _ _ _ _ r1 Tryz.underlying32 rfl hiM ?_ | refine wpList_load_row rfl 32 _ rfl _ rfl _ _ _ _ hTg Tryz.underlying32 rfl hiP ?_)
    refine (hm _).mono ?_
    rintro _ w' ⟨rfl,hb2⟩
    replace r1:=r1.belowS hb2
    replace r2:=r2.belowS hb2
    replace hL:=hL.trans (hb2.mono hL.size)
    replace hTk:=hTk.below hb2
    have hlk:=hTk.lt
    have hs2:=hb2.size
    clear hTg hm hb2
    have r3:=Row.new w' 32 (C .u64 (Z 4))
    replace r1:=r1.alloc (.cells (C .u64 (Z 4)).toArray 32)
    replace r2:=r2.alloc (.cells (C .u64 (Z 4)).toArray 32)
    replace hTk:=hTk.below (Below.more (Below.refl w'.heap.size w') (Nat.le_refl _) (.cells (C .u64 (Z 4)).toArray 32)).1
    replace hL:=hL.alloc (by omega) (.cells (C .u64 (Z 4)).toArray 32)
    have hs3:=alloc_size w' (.cells (C .u64 (Z 4)).toArray 32)
    generalize hg3:w'.heap.size = g3 at *
    go_wp2_with (first | refine wpList_alloc_row rfl 32 rfl _ z4 ?_ | (refine wpList_store_R rfl 32 _ _ rfl _ (C .u64 (wds D)) (by rw [← hg3];rfl) rfl r3 hiD (by rw [e4];rfl) (C_allL _ _) ?_;intro w5 r5 hg5 hz5) | refine wpList_load_row rfl 32 _ rfl _ rfl _ _ _ _ r5 Tryz.underlying32 rfl hiD ?_ | (refine wpList_store_R rfl 32 _ _ rfl _ (C .u64 (wds D)) rfl rfl (r1.grown hg5 (by simp;omega)) hiD (ee4 _ _) (C_allL _ _) ?_;intro w6 r6 hg6 hz6))
    have r2':=(r2.grown hg5 (by simp;omega)).grown hg6 (by simp)
    have hT':=(hTk.grown hg5 (by omega)).grown hg6 (by have:=hT.lt;omega)
    have hL':=below_grown (below_grown hL hg5 (by omega) r3.lt) hg6 (by omega) (by omega)
    clear r1 r2 hTk hL r3 hg5 hg6 r5
    go_roundw
    case rel=>exact ⟨k + 1,D,by omega,by go_num,⟨by rw [hMP.out,if_neg hb,hDv.out hb]⟩,hDl,r6,r2',hT',hL',by omega⟩
    case measure=>simp [intOf];omega
  ·have HK:Away (k = 2):=⟨by omega⟩
   have dk:decide ((k:Int) < 2) = false:=decide_eq_false (by omega)
   have hi4:=ie4 M
   clear hlt hk
   go_wp2_with (first | refine wpList_load_row rfl 32 _ rfl _ rfl _ _ _ _ r1 Tryz.underlying32 rfl hi4 ?_ | (refine wpList_store_R rfl 32 _ _ rfl _ (C .u64 (wds M)) rfl rfl r2 hi4 (ze4 _) (C_allL _ _) ?_;intro w5 hR5 hg5 hz5))
   exact result_row Tryz.results107 rfl hR5 Tryz.underlying32 rfl hi4 rfl ⟨by rw [← HK.out,← HM.out],below_grown hL hg5 (by omega) r2.lt⟩
structure H2 (g:Nat) (w0 w:World) (us vs xs:List Value):Prop where
 r1:Row w g 32 us
 r2:Row w (g + 1) 32 vs
 r3:Row w (g + 1 + 1) 32 xs
 bel:Below g w0 w
 lt:g + 1 + 1 < w.heap.size
section
variable {g:Nat} {w0 w w':World} {us vs xs:List Value}
theorem H2.begin (w:World) (us vs xs:List Value):∃ w4:World,((w.alloc (.cells us.toArray 32)).alloc (.cells vs.toArray 32)).alloc (.cells xs.toArray 32) = w4 ∧ H2 w.heap.size w w4 us vs xs:=by
 obtain ⟨w4,h4,r1,r2,r3,hL,hS⟩:=rows3 w 32 32 32 us vs xs
 exact ⟨w4,h4,r1,r2,r3,hL,by omega⟩
theorem H2.below (h:H2 g w0 w us vs xs) (hb:Below w.heap.size w w'):H2 g w0 w' us vs xs :=
 ⟨h.r1.belowS hb,h.r2.belowS hb,h.r3.belowS hb,h.bel.trans (hb.mono (by have:=h.lt;omega)),by have:=h.lt;have:=hb.size;omega⟩
theorem H2.drew (h:H2 g w0 w us vs xs):H2 g w0 w.drew us vs xs:=⟨h.r1,h.r2,h.r3,below_drawn h.bel,h.lt⟩
theorem H2.alloc (h:H2 g w0 w us vs xs) (o:Obj):H2 g w0 (w.alloc o) us vs xs :=
 ⟨h.r1.alloc o,h.r2.alloc o,h.r3.alloc o,h.bel.alloc (by have:=h.lt;omega) o,by have:=h.lt;rw [alloc_size];omega⟩
theorem H2.grown (h:H2 g w0 w us vs xs) {k:Nat} (hg:w.grownBy w' (some k)) (hk:g + 1 + 1 < k):H2 g w0 w' us vs xs :=
 ⟨h.r1.grown hg (by simp;omega),h.r2.grown hg (by simp;omega),h.r3.grown hg (by simp;omega),h.bel.grown hg (by have:=h.lt;omega) (fun k' hk'=>by simp only [Option.some.injEq] at hk';omega),by have:=h.lt;have:=hg.size;omega⟩
theorem H2.tab (h:H2 w0.heap.size w0 w us vs xs) {g n:Nat} (hT:Glob w0 g n):Glob w g n:=hT.below h.bel
end
structure H1 (g:Nat) (w0 w:World) (us xs:List Value):Prop where
 r1:Row w g 32 us
 r3:Row w (g + 1) 32 xs
 bel:Below g w0 w
 lt:g + 1 < w.heap.size
section
variable {g:Nat} {w0 w w':World} {us xs:List Value}
theorem H1.begin (w:World) (us xs:List Value):∃ w4:World,(w.alloc (.cells us.toArray 32)).alloc (.cells xs.toArray 32) = w4 ∧ H1 w.heap.size w w4 us xs:=by
 obtain ⟨w4,h4,r1,r3,hL,hS⟩:=rows2 w 32 32 us xs
 exact ⟨w4,h4,r1,r3,hL,by omega⟩
theorem H1.below (h:H1 g w0 w us xs) (hb:Below w.heap.size w w'):H1 g w0 w' us xs :=
 ⟨h.r1.belowS hb,h.r3.belowS hb,h.bel.trans (hb.mono (by have:=h.lt;omega)),by have:=h.lt;have:=hb.size;omega⟩
theorem H1.drew (h:H1 g w0 w us xs):H1 g w0 w.drew us xs:=⟨h.r1,h.r3,below_drawn h.bel,h.lt⟩
theorem H1.alloc (h:H1 g w0 w us xs) (o:Obj):H1 g w0 (w.alloc o) us xs :=
 ⟨h.r1.alloc o,h.r3.alloc o,h.bel.alloc (by have:=h.lt;omega) o,by have:=h.lt;rw [alloc_size];omega⟩
theorem H1.grown (h:H1 g w0 w us xs) {k:Nat} (hg:w.grownBy w' (some k)) (hk:g + 1 < k):H1 g w0 w' us xs :=
 ⟨h.r1.grown hg (by simp;omega),h.r3.grown hg (by simp;omega),h.bel.grown hg (by have:=h.lt;omega) (fun k' hk'=>by simp only [Option.some.injEq] at hk';omega),by have:=h.lt;have:=hg.size;omega⟩
theorem H1.tab (h:H1 w0.heap.size w0 w us xs) {g n:Nat} (hT:Glob w0 g n):Glob w g n:=hT.below h.bel
end
theorem new_row {g:Nat} {w0 w:World} {us vs xs:List Value} (h:H2 g w0 w us vs xs):∃ g3:Nat,w.heap.size = g3 ∧ Row (w.alloc (.cells (C .u64 (Z 4)).toArray 32)) g3 32 (C .u64 (Z 4)) ∧ (g + 1 + 1 < g3 ∧ g3 < (w.alloc (.cells (C .u64 (Z 4)).toArray 32)).heap.size) :=
 ⟨_,rfl,Row.new w _ _,h.lt,by rw [alloc_size];omega⟩
set_option maxHeartbeats 4000000 in
theorem fadd_any (A B:Nat) (hA:A < 115792089237316195423570985008687907853269984665640564039457584007913129639936) (hB:B < 115792089237316195423570985008687907853269984665640564039457584007913129639936) (w:World) (hT:Tab w):Calls Tryz.prog 113 #[el A,el B] w fun e w'=>e = .returned (el ((A + B) % P)) ∧ Below w.heap.size w w':=by
 obtain ⟨w4,h4,h⟩:=H2.begin w (C .u64 (wds A)) (C .u64 (wds B)) (C .u64 (Z 4))
 have lA:=mod_lt_T A
 have lB:=mod_lt_T B
 obtain ⟨M,hM⟩:∃ M,(A % P + B % P) % 115792089237316195423570985008687907853269984665640564039457584007913129639936 = M:=⟨_,rfl⟩
 have lM:M < 115792089237316195423570985008687907853269984665640564039457584007913129639936:=by rw [← hM];exact Nat.mod_lt _ (by decide)
 have HM:Away (M % P = (A + B) % P):=⟨by rw [← hM,Nat.mod_eq_of_lt (by have:=mod_lt_P A;have:=mod_lt_P B;have:=T_P;omega:A % P + B % P < 115792089237316195423570985008687907853269984665640564039457584007913129639936),← Nat.add_mod]⟩
 unfold el
 go_enter Tryz.func113,Tryz.ntmps113
 go_upto_region 1 with (refine wpList_alloc_row rfl 32 rfl _ z4 ?_)
 simp only [Act.put,stA,st0,st1,alloc_size,h4]
 clear h4
 replace h:=h.drew
 go_cut [5,6] (fun v5 v6 wc=>∃ g3,v5 = .pointer (some ⟨g3,0,none⟩) ∧ True ∧ Row wc g3 32 (C .u64 (wds M)) ∧ w.heap.size + 1 + 1 < g3 ∧ H2 w.heap.size w wc (C .u64 (wds A)) (C .u64 (wds B)) (C .u64 (Z 4)))
 case first =>
  refine wp_region_noPanic ?_
  refine wp_region_held_drew (S:=fun w'=>H2 w.heap.size w w' (C .u64 (wds A)) (C .u64 (wds B)) (C .u64 (Z 4))) (by kernel_rfl) h (fun _=>?_)
  refine tkL 0 (.agg (C .u64 (wds A)).toArray) rfl (fun w hSw=>exec_load_R 32 _ rfl rfl hSw.r1 Tryz.underlying32 (ie4 A)) ?_
  simp only [Act.put,stA,st0,st1]
  refine tkL 2 (.agg (C .u64 (wds B)).toArray) rfl (fun w hSw=>exec_load_R 32 _ rfl rfl hSw.r2 Tryz.underlying32 (ie4 B)) ?_
  simp only [Act.put,stA,st0,st1]
  refine ar2 1 8 rfl rfl (fun K hK=>?_) (fun K hK=>?_)
  ·go_simp
   refine (reduce_any A hA _ (h.tab hT)).mono ?_
   rintro _ wn ⟨rfl,hb⟩
   replace h:=h.below hb
   clear hb
   refine hK.out _ _ h (fun _=>?_)
   clear hK K
   refine ar2 3 8 rfl rfl (fun K hK=>?_) (fun K hK=>?_)
   ·go_simp
    refine (reduce_any B hB _ (h.tab hT)).mono ?_
    rintro _ wn ⟨rfl,hb⟩
    replace h:=h.below hb
    clear hb
    refine hK.out _ _ h (fun _=>?_)
    clear hK K
    refine ar2 4 8 rfl rfl (fun K hK=>?_) (fun K hK=>?_)
    ·go_simp
     refine (plus_any (A % P) (B % P) lA lB _).mono ?_
     rintro _ wn ⟨rfl,hb⟩
     replace h:=h.below hb
     clear hb
     rw [hM]
     refine hK.out _ _ h (fun _=>?_)
     clear hK K
     refine tkg 5 rfl ?_
     simp only [Act.put,stA,st0,st1]
     refine tkg 6 rfl ?_
     simp only [Act.put,stA,st0,st1]
     refine tkg 7 rfl ?_
     simp only [Act.put,stA,st0,st1]
     refine ar1 8 rfl (fun K hK=>?_)
     refine wp_alloc_R 32 rfl (C .u64 (Z 4)) z4 ?_
     obtain ⟨g3,hg3,q,hq⟩:=new_row h
     replace h:=h.alloc (.cells (C .u64 (Z 4)).toArray 32)
     rw [hg3]
     clear hg3
     refine hK.out _ _ h (fun _=>?_)
     clear hK K
     refine ar1 9 rfl (fun K hK=>?_)
     refine wp_store_R 32 _ _ rfl _ (C .u64 (wds M)) rfl rfl q (ie4 M) (ze4 M) (C_allL _ _) ?_
     intro wn q5 hg5 hz5
     replace h:=h.grown hg5 hq.1
     have hq1:=hq.1
     clear q hg5 hz5 hq
     refine hK.out _ _ h (fun _=>?_)
     clear hK K
     refine tkg 10 rfl ?_
     simp only [Act.put,stA,st0,st1]
     refine wpAnyH_done (by kernel_rfl) ?_ _
     refine NoPanic.normal ?_
     go_wp2
     go_meet
     case rel=>exact ⟨g3,rfl,trivial,q5,hq1,h⟩
    ·refine wp_alloc_R 32 rfl (C .u64 (Z 4)) z4 ?_
     obtain ⟨g3,hg3,q,hq⟩:=new_row h
     replace h:=h.alloc (.cells (C .u64 (Z 4)).toArray 32)
     rw [hg3]
     clear hg3
     refine hK.out _ _ h (fun _=>?_)
     clear hK K
     refine ar1 4 rfl (fun K hK=>?_)
     go_simp
     refine (plus_any (A % P) (B % P) lA lB _).mono ?_
     rintro _ wn ⟨rfl,hb⟩
     replace q:=q.belowS hb
     replace hq:w.heap.size + 1 + 1 < g3 ∧ g3 < wn.heap.size:=⟨hq.1,Nat.lt_of_lt_of_le hq.2 hb.size⟩
     replace h:=h.below hb
     clear hb
     rw [hM]
     refine hK.out _ _ h (fun _=>?_)
     clear hK K
     refine tkg 5 rfl ?_
     simp only [Act.put,stA,st0,st1]
     refine tkg 6 rfl ?_
     simp only [Act.put,stA,st0,st1]
     refine tkg 7 rfl ?_
     simp only [Act.put,stA,st0,st1]
     refine ar1 9 rfl (fun K hK=>?_)
     refine wp_store_R 32 _ _ rfl _ (C .u64 (wds M)) rfl rfl q (ie4 M) (ze4 M) (C_allL _ _) ?_
     intro wn q5 hg5 hz5
     replace h:=h.grown hg5 hq.1
     have hq1:=hq.1
     clear q hg5 hz5 hq
     refine hK.out _ _ h (fun _=>?_)
     clear hK K
     refine tkg 10 rfl ?_
     simp only [Act.put,stA,st0,st1]
     refine wpAnyH_done (by kernel_rfl) ?_ _
     refine NoPanic.normal ?_
     go_wp2
     go_meet
     case rel=>exact ⟨g3,rfl,trivial,q5,hq1,h⟩
   ·refine wp_alloc_R 32 rfl (C .u64 (Z 4)) z4 ?_
    obtain ⟨g3,hg3,q,hq⟩:=new_row h
    replace h:=h.alloc (.cells (C .u64 (Z 4)).toArray 32)
    rw [hg3]
    clear hg3
    refine hK.out _ _ h (fun _=>?_)
    clear hK K
    refine ar1 3 rfl (fun K hK=>?_)
    go_simp
    refine (reduce_any B hB _ (h.tab hT)).mono ?_
    rintro _ wn ⟨rfl,hb⟩
    replace q:=q.belowS hb
    replace hq:w.heap.size + 1 + 1 < g3 ∧ g3 < wn.heap.size:=⟨hq.1,Nat.lt_of_lt_of_le hq.2 hb.size⟩
    replace h:=h.below hb
    clear hb
    refine hK.out _ _ h (fun _=>?_)
    clear hK K
    refine ar1 4 rfl (fun K hK=>?_)
    go_simp
    refine (plus_any (A % P) (B % P) lA lB _).mono ?_
    rintro _ wn ⟨rfl,hb⟩
    replace q:=q.belowS hb
    replace hq:w.heap.size + 1 + 1 < g3 ∧ g3 < wn.heap.size:=⟨hq.1,Nat.lt_of_lt_of_le hq.2 hb.size⟩
    replace h:=h.below hb
    clear hb
    rw [hM]
    refine hK.out _ _ h (fun _=>?_)
    clear hK K
    refine tkg 5 rfl ?_
    simp only [Act.put,stA,st0,st1]
    refine tkg 6 rfl ?_
    simp only [Act.put,stA,st0,st1]
    refine tkg 7 rfl ?_
    simp only [Act.put,stA,st0,st1]
    refine ar1 9 rfl (fun K hK=>?_)
    refine wp_store_R 32 _ _ rfl _ (C .u64 (wds M)) rfl rfl q (ie4 M) (ze4 M) (C_allL _ _) ?_
    intro wn q5 hg5 hz5
    replace h:=h.grown hg5 hq.1
    have hq1:=hq.1
    clear q hg5 hz5 hq
    refine hK.out _ _ h (fun _=>?_)
    clear hK K
    refine tkg 10 rfl ?_
    simp only [Act.put,stA,st0,st1]
    refine wpAnyH_done (by kernel_rfl) ?_ _
    refine NoPanic.normal ?_
    go_wp2
    go_meet
    case rel=>exact ⟨g3,rfl,trivial,q5,hq1,h⟩
  ·refine wp_alloc_R 32 rfl (C .u64 (Z 4)) z4 ?_
   obtain ⟨g3,hg3,q,hq⟩:=new_row h
   replace h:=h.alloc (.cells (C .u64 (Z 4)).toArray 32)
   rw [hg3]
   clear hg3
   refine hK.out _ _ h (fun _=>?_)
   clear hK K
   refine ar1 1 rfl (fun K hK=>?_)
   go_simp
   refine (reduce_any A hA _ (h.tab hT)).mono ?_
   rintro _ wn ⟨rfl,hb⟩
   replace q:=q.belowS hb
   replace hq:w.heap.size + 1 + 1 < g3 ∧ g3 < wn.heap.size:=⟨hq.1,Nat.lt_of_lt_of_le hq.2 hb.size⟩
   replace h:=h.below hb
   clear hb
   refine hK.out _ _ h (fun _=>?_)
   clear hK K
   refine ar1 3 rfl (fun K hK=>?_)
   go_simp
   refine (reduce_any B hB _ (h.tab hT)).mono ?_
   rintro _ wn ⟨rfl,hb⟩
   replace q:=q.belowS hb
   replace hq:w.heap.size + 1 + 1 < g3 ∧ g3 < wn.heap.size:=⟨hq.1,Nat.lt_of_lt_of_le hq.2 hb.size⟩
   replace h:=h.below hb
   clear hb
   refine hK.out _ _ h (fun _=>?_)
   clear hK K
   refine ar1 4 rfl (fun K hK=>?_)
   go_simp
   refine (plus_any (A % P) (B % P) lA lB _).mono ?_
   rintro _ wn ⟨rfl,hb⟩
   replace q:=q.belowS hb
   replace hq:w.heap.size + 1 + 1 < g3 ∧ g3 < wn.heap.size:=⟨hq.1,Nat.lt_of_lt_of_le hq.2 hb.size⟩
   replace h:=h.below hb
   clear hb
   rw [hM]
   refine hK.out _ _ h (fun _=>?_)
   clear hK K
   refine tkg 5 rfl ?_
   simp only [Act.put,stA,st0,st1]
   refine tkg 6 rfl ?_
   simp only [Act.put,stA,st0,st1]
   refine tkg 7 rfl ?_
   simp only [Act.put,stA,st0,st1]
   refine ar1 9 rfl (fun K hK=>?_)
   refine wp_store_R 32 _ _ rfl _ (C .u64 (wds M)) rfl rfl q (ie4 M) (ze4 M) (C_allL _ _) ?_
   intro wn q5 hg5 hz5
   replace h:=h.grown hg5 hq.1
   have hq1:=hq.1
   clear q hg5 hz5 hq
   refine hK.out _ _ h (fun _=>?_)
   clear hK K
   refine tkg 10 rfl ?_
   simp only [Act.put,stA,st0,st1]
   refine wpAnyH_done (by kernel_rfl) ?_ _
   refine NoPanic.normal ?_
   go_wp2
   go_meet
   case rel=>exact ⟨g3,rfl,trivial,q5,hq1,h⟩
 case rest =>
  clear h
  obtain ⟨g3,rfl,-,q5,hq1,h⟩:=hcut
  go_wp2_with (refine wpList_load_row rfl 32 _ rfl _ rfl _ _ _ _ q5 Tryz.underlying32 rfl (ie4 M) ?_)
  refine (reduce_any M lM _ (h.tab hT)).mono ?_
  rintro _ wn ⟨rfl,hb⟩
  rw [HM.out]
  replace h:=h.below hb
  go_wp2_with (refine wpList_store_R rfl 32 _ _ rfl _ (C .u64 (wds ((A + B) % P))) rfl rfl h.r3 (ie4 _) (ze4 _) (C_allL _ _) ?_;intro w7 q7 hg7 hz7)
  exact result_row Tryz.results113 rfl q7 Tryz.underlying32 rfl (ie4 _) rfl ⟨rfl,below_grown h.bel hg7 (by omega) h.r3.lt⟩
set_option maxHeartbeats 4000000 in
theorem fsub_any (A B:Nat) (hA:A < 115792089237316195423570985008687907853269984665640564039457584007913129639936) (hB:B < 115792089237316195423570985008687907853269984665640564039457584007913129639936) (w:World) (hT:Tab w):Calls Tryz.prog 112 #[el A,el B] w fun e w'=>e = .returned (el ((A % P + (P - B % P)) % P)) ∧ Below w.heap.size w w':=by
 obtain ⟨w4,h4,h⟩:=H2.begin w (C .u64 (wds A)) (C .u64 (wds B)) (C .u64 (Z 4))
 have lA:=mod_lt_T A
 have lB:=mod_lt_T B
 have hP:=P_lt
 have aP:=mod_lt_P A
 have bP':=mod_lt_P B
 obtain ⟨M,hM⟩:∃ M,(A % P + 115792089237316195423570985008687907853269984665640564039457584007913129639936 - B % P) % 115792089237316195423570985008687907853269984665640564039457584007913129639936 = M:=⟨_,rfl⟩
 have lM:M < 115792089237316195423570985008687907853269984665640564039457584007913129639936:=by rw [← hM];exact Nat.mod_lt _ (by decide)
 obtain ⟨b,hb0⟩:∃ b,decide (A % P < B % P) = b:=⟨_,rfl⟩
 have HM:Away ((b = true → (M + P) % 115792089237316195423570985008687907853269984665640564039457584007913129639936 = (A % P + (P - B % P)) % P) ∧ (b = false → M = (A % P + (P - B % P)) % P)):=by
  have e1:=T_P
  refine ⟨⟨fun h=>?_,fun h=>?_⟩⟩
  ·rw [h] at hb0;have:=of_decide_eq_true hb0;rw [Nat.mod_eq_of_lt (show A % P + (P - B % P) < P by omega)];omega
  ·rw [h] at hb0;have:=of_decide_eq_false hb0;rw [Nat.mod_eq_sub_mod (show P ≤ A % P + (P - B % P) by omega),Nat.mod_eq_of_lt (by omega)];omega
 have hNl:(M + P) % 115792089237316195423570985008687907853269984665640564039457584007913129639936 < 115792089237316195423570985008687907853269984665640564039457584007913129639936:=Nat.mod_lt _ (by decide)
 obtain ⟨R,hR⟩:∃ R,(A % P + (P - B % P)) % P = R:=⟨_,rfl⟩
 rw [hR] at HM ⊢
 clear hR
 unfold el
 go_enter Tryz.func112,Tryz.ntmps112
 go_upto_region 1 with (refine wpList_alloc_row rfl 32 rfl _ z4 ?_)
 simp only [Act.put,stA,st0,st1,alloc_size,h4]
 clear h4
 replace h:=h.drew
 go_cut [5,6] (fun v5 v6 wc=>∃ g3,v5 = .pointer (some ⟨g3,0,none⟩) ∧ v6 = .bool b ∧ Row wc g3 32 (C .u64 (wds M)) ∧ w.heap.size + 1 + 1 < g3 ∧ H2 w.heap.size w wc (C .u64 (wds A)) (C .u64 (wds B)) (C .u64 (Z 4)))
 case first =>
  refine wp_region_noPanic ?_
  refine wp_region_held_drew (S:=fun w'=>H2 w.heap.size w w' (C .u64 (wds A)) (C .u64 (wds B)) (C .u64 (Z 4))) (by kernel_rfl) h (fun _=>?_)
  refine tkL 0 (.agg (C .u64 (wds A)).toArray) rfl (fun w hSw=>exec_load_R 32 _ rfl rfl hSw.r1 Tryz.underlying32 (ie4 A)) ?_
  simp only [Act.put,stA,st0,st1]
  refine tkL 2 (.agg (C .u64 (wds B)).toArray) rfl (fun w hSw=>exec_load_R 32 _ rfl rfl hSw.r2 Tryz.underlying32 (ie4 B)) ?_
  simp only [Act.put,stA,st0,st1]
  refine ar2 1 8 rfl rfl (fun K hK=>?_) (fun K hK=>?_)
  ·go_simp
   refine (reduce_any A hA _ (h.tab hT)).mono ?_
   rintro _ wn ⟨rfl,hb⟩
   replace h:=h.below hb
   clear hb
   refine hK.out _ _ h (fun _=>?_)
   clear hK K
   refine ar2 3 8 rfl rfl (fun K hK=>?_) (fun K hK=>?_)
   ·go_simp
    refine (reduce_any B hB _ (h.tab hT)).mono ?_
    rintro _ wn ⟨rfl,hb⟩
    replace h:=h.below hb
    clear hb
    refine hK.out _ _ h (fun _=>?_)
    clear hK K
    refine ar2 4 8 rfl rfl (fun K hK=>?_) (fun K hK=>?_)
    ·go_simp
     refine (minus_any (A % P) (B % P) lA lB _).mono ?_
     rintro _ wn ⟨rfl,hb⟩
     replace h:=h.below hb
     clear hb
     rw [hM,hb0]
     refine hK.out _ _ h (fun _=>?_)
     clear hK K
     refine tkg 5 rfl ?_
     simp only [Act.put,stA,st0,st1]
     refine tkg 6 rfl ?_
     simp only [Act.put,stA,st0,st1]
     refine tkg 7 rfl ?_
     simp only [Act.put,stA,st0,st1]
     refine ar1 8 rfl (fun K hK=>?_)
     refine wp_alloc_R 32 rfl (C .u64 (Z 4)) z4 ?_
     obtain ⟨g3,hg3,q,hq⟩:=new_row h
     replace h:=h.alloc (.cells (C .u64 (Z 4)).toArray 32)
     rw [hg3]
     clear hg3
     refine hK.out _ _ h (fun _=>?_)
     clear hK K
     refine ar1 9 rfl (fun K hK=>?_)
     refine wp_store_R 32 _ _ rfl _ (C .u64 (wds M)) rfl rfl q (ie4 M) (ze4 M) (C_allL _ _) ?_
     intro wn q5 hg5 hz5
     replace h:=h.grown hg5 hq.1
     have hq1:=hq.1
     clear q hg5 hz5 hq
     refine hK.out _ _ h (fun _=>?_)
     clear hK K
     refine tkg 10 rfl ?_
     simp only [Act.put,stA,st0,st1]
     refine wpAnyH_done (by kernel_rfl) ?_ _
     refine NoPanic.normal ?_
     go_wp2
     go_meet
     case rel=>exact ⟨g3,rfl,rfl,q5,hq1,h⟩
    ·refine wp_alloc_R 32 rfl (C .u64 (Z 4)) z4 ?_
     obtain ⟨g3,hg3,q,hq⟩:=new_row h
     replace h:=h.alloc (.cells (C .u64 (Z 4)).toArray 32)
     rw [hg3]
     clear hg3
     refine hK.out _ _ h (fun _=>?_)
     clear hK K
     refine ar1 4 rfl (fun K hK=>?_)
     go_simp
     refine (minus_any (A % P) (B % P) lA lB _).mono ?_
     rintro _ wn ⟨rfl,hb⟩
     replace q:=q.belowS hb
     replace hq:w.heap.size + 1 + 1 < g3 ∧ g3 < wn.heap.size:=⟨hq.1,Nat.lt_of_lt_of_le hq.2 hb.size⟩
     replace h:=h.below hb
     clear hb
     rw [hM,hb0]
     refine hK.out _ _ h (fun _=>?_)
     clear hK K
     refine tkg 5 rfl ?_
     simp only [Act.put,stA,st0,st1]
     refine tkg 6 rfl ?_
     simp only [Act.put,stA,st0,st1]
     refine tkg 7 rfl ?_
     simp only [Act.put,stA,st0,st1]
     refine ar1 9 rfl (fun K hK=>?_)
     refine wp_store_R 32 _ _ rfl _ (C .u64 (wds M)) rfl rfl q (ie4 M) (ze4 M) (C_allL _ _) ?_
     intro wn q5 hg5 hz5
     replace h:=h.grown hg5 hq.1
     have hq1:=hq.1
     clear q hg5 hz5 hq
     refine hK.out _ _ h (fun _=>?_)
     clear hK K
     refine tkg 10 rfl ?_
     simp only [Act.put,stA,st0,st1]
     refine wpAnyH_done (by kernel_rfl) ?_ _
     refine NoPanic.normal ?_
     go_wp2
     go_meet
     case rel=>exact ⟨g3,rfl,rfl,q5,hq1,h⟩
   ·refine wp_alloc_R 32 rfl (C .u64 (Z 4)) z4 ?_
    obtain ⟨g3,hg3,q,hq⟩:=new_row h
    replace h:=h.alloc (.cells (C .u64 (Z 4)).toArray 32)
    rw [hg3]
    clear hg3
    refine hK.out _ _ h (fun _=>?_)
    clear hK K
    refine ar1 3 rfl (fun K hK=>?_)
    go_simp
    refine (reduce_any B hB _ (h.tab hT)).mono ?_
    rintro _ wn ⟨rfl,hb⟩
    replace q:=q.belowS hb
    replace hq:w.heap.size + 1 + 1 < g3 ∧ g3 < wn.heap.size:=⟨hq.1,Nat.lt_of_lt_of_le hq.2 hb.size⟩
    replace h:=h.below hb
    clear hb
    refine hK.out _ _ h (fun _=>?_)
    clear hK K
    refine ar1 4 rfl (fun K hK=>?_)
    go_simp
    refine (minus_any (A % P) (B % P) lA lB _).mono ?_
    rintro _ wn ⟨rfl,hb⟩
    replace q:=q.belowS hb
    replace hq:w.heap.size + 1 + 1 < g3 ∧ g3 < wn.heap.size:=⟨hq.1,Nat.lt_of_lt_of_le hq.2 hb.size⟩
    replace h:=h.below hb
    clear hb
    rw [hM,hb0]
    refine hK.out _ _ h (fun _=>?_)
    clear hK K
    refine tkg 5 rfl ?_
    simp only [Act.put,stA,st0,st1]
    refine tkg 6 rfl ?_
    simp only [Act.put,stA,st0,st1]
    refine tkg 7 rfl ?_
    simp only [Act.put,stA,st0,st1]
    refine ar1 9 rfl (fun K hK=>?_)
    refine wp_store_R 32 _ _ rfl _ (C .u64 (wds M)) rfl rfl q (ie4 M) (ze4 M) (C_allL _ _) ?_
    intro wn q5 hg5 hz5
    replace h:=h.grown hg5 hq.1
    have hq1:=hq.1
    clear q hg5 hz5 hq
    refine hK.out _ _ h (fun _=>?_)
    clear hK K
    refine tkg 10 rfl ?_
    simp only [Act.put,stA,st0,st1]
    refine wpAnyH_done (by kernel_rfl) ?_ _
    refine NoPanic.normal ?_
    go_wp2
    go_meet
    case rel=>exact ⟨g3,rfl,rfl,q5,hq1,h⟩
  ·refine wp_alloc_R 32 rfl (C .u64 (Z 4)) z4 ?_
   obtain ⟨g3,hg3,q,hq⟩:=new_row h
   replace h:=h.alloc (.cells (C .u64 (Z 4)).toArray 32)
   rw [hg3]
   clear hg3
   refine hK.out _ _ h (fun _=>?_)
   clear hK K
   refine ar1 1 rfl (fun K hK=>?_)
   go_simp
   refine (reduce_any A hA _ (h.tab hT)).mono ?_
   rintro _ wn ⟨rfl,hb⟩
   replace q:=q.belowS hb
   replace hq:w.heap.size + 1 + 1 < g3 ∧ g3 < wn.heap.size:=⟨hq.1,Nat.lt_of_lt_of_le hq.2 hb.size⟩
   replace h:=h.below hb
   clear hb
   refine hK.out _ _ h (fun _=>?_)
   clear hK K
   refine ar1 3 rfl (fun K hK=>?_)
   go_simp
   refine (reduce_any B hB _ (h.tab hT)).mono ?_
   rintro _ wn ⟨rfl,hb⟩
   replace q:=q.belowS hb
   replace hq:w.heap.size + 1 + 1 < g3 ∧ g3 < wn.heap.size:=⟨hq.1,Nat.lt_of_lt_of_le hq.2 hb.size⟩
   replace h:=h.below hb
   clear hb
   refine hK.out _ _ h (fun _=>?_)
   clear hK K
   refine ar1 4 rfl (fun K hK=>?_)
   go_simp
   refine (minus_any (A % P) (B % P) lA lB _).mono ?_
   rintro _ wn ⟨rfl,hb⟩
   replace q:=q.belowS hb
   replace hq:w.heap.size + 1 + 1 < g3 ∧ g3 < wn.heap.size:=⟨hq.1,Nat.lt_of_lt_of_le hq.2 hb.size⟩
   replace h:=h.below hb
   clear hb
   rw [hM,hb0]
   refine hK.out _ _ h (fun _=>?_)
   clear hK K
   refine tkg 5 rfl ?_
   simp only [Act.put,stA,st0,st1]
   refine tkg 6 rfl ?_
   simp only [Act.put,stA,st0,st1]
   refine tkg 7 rfl ?_
   simp only [Act.put,stA,st0,st1]
   refine ar1 9 rfl (fun K hK=>?_)
   refine wp_store_R 32 _ _ rfl _ (C .u64 (wds M)) rfl rfl q (ie4 M) (ze4 M) (C_allL _ _) ?_
   intro wn q5 hg5 hz5
   replace h:=h.grown hg5 hq.1
   have hq1:=hq.1
   clear q hg5 hz5 hq
   refine hK.out _ _ h (fun _=>?_)
   clear hK K
   refine tkg 10 rfl ?_
   simp only [Act.put,stA,st0,st1]
   refine wpAnyH_done (by kernel_rfl) ?_ _
   refine NoPanic.normal ?_
   go_wp2
   go_meet
   case rel=>exact ⟨g3,rfl,rfl,q5,hq1,h⟩
 case rest =>
  clear h
  obtain ⟨g3,rfl,rfl,q5,hq1,h⟩:=hcut
  cases b
  ·have HR:=HM.out.2 rfl
   go_wp2_with (first | refine wpList_load_row rfl 32 _ rfl _ rfl _ _ _ _ q5 Tryz.underlying32 rfl (ie4 _) ?_ | (refine wpList_store_R rfl 32 _ _ rfl _ (C .u64 (wds M)) rfl rfl h.r3 (ie4 _) (ze4 _) (C_allL _ _) ?_;intro w7 q7 hg7 hz7))
   exact result_row Tryz.results112 rfl q7 Tryz.underlying32 rfl (ie4 _) rfl ⟨by rw [HR],below_grown h.bel hg7 (by omega) h.r3.lt⟩
  ·have HR:=HM.out.1 rfl
   obtain ⟨tg,fg,hTg⟩:=h.tab hT
   go_wp2_with (first | refine wpList_load_row rfl 32 _ rfl _ rfl _ _ _ _ q5 Tryz.underlying32 rfl (ie4 _) ?_ | refine wpList_load_row rfl 32 _ rfl _ rfl _ _ _ _ hTg Tryz.underlying32 rfl (ie4 P) ?_)
   refine (plus_any M P lM hP _).mono ?_
   rintro _ wn2 ⟨rfl,hb⟩
   rw [HR]
   clear HR hM hb0 HM
   generalize (M + P) / 115792089237316195423570985008687907853269984665640564039457584007913129639936 = c2
   clear hNl aP bP' hTg lA lB hP lM hA hB
   replace h:=h.below hb
   have q6:=q5.belowS hb
   go_wp2_with (first | (refine wpList_store_R rfl 32 _ _ rfl _ (C .u64 (wds R)) rfl rfl q6 (ie4 _) (ee4 _ _) (C_allL _ _) ?_;intro w6 q6b hg6 hz6;have h6:=h.grown hg6 hq1) | refine wpList_load_row rfl 32 _ rfl _ rfl _ _ _ _ q6b Tryz.underlying32 rfl (ie4 _) ?_ | (refine wpList_store_R rfl 32 _ _ rfl _ (C .u64 (wds R)) rfl rfl h6.r3 (ie4 _) (ze4 _) (C_allL _ _) ?_;intro w7 q7 hg7 hz7))
   exact result_row Tryz.results112 rfl q7 Tryz.underlying32 rfl (ie4 _) rfl ⟨rfl,below_grown h6.bel hg7 (by omega) h6.r3.lt⟩
end Go.Proofs.YtmjimilhomabfaaGreatDoor.F
