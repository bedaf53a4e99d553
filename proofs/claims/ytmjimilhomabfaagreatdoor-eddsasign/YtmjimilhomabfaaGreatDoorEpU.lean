/-
 Unpack, the program's and the document's; over this seat's translation. Conditions: each as it says.
-/
import Derived.Test.YtmjimilhomabfaaGreatDoorEpD
namespace Go.Proofs.YtmjimilhomabfaaGreatDoor.F
open Go.RowKit
set_option linter.unusedVariables false
set_option maxRecDepth 10000
open E (z z_val z_same z_add z_mul z_sub z_inv z_mod z_of dd Pt padd pneg pmul iv ax ay Sc)
def lowB (b:List Nat):Nat:=val 256 (b.set 31 (b.getD 31 0 % 128))
def hiB (b:List Nat):Bool:=decide (128 ≤ b.getD 31 0)
def unOk (odd:Bool) (N:Nat):Bool:=decide (N < P) && ((rt (sqx N)).2 && !(odd && decide ((rt (sqx N)).1 = 0)))
def unX (odd:Bool) (N:Nat):Nat:=if odd = true then (0 % P + (P - (rt (sqx N)).1 % P)) % P else (rt (sqx N)).1
def unC (odd:Bool) (N:Nat):List Value:=if unOk odd N = true then pc (unX odd N) N else pc 0 1
theorem prod_parts {α β:Type} (p:α × β):∃ x y,p = (x,y):=by cases p;exact ⟨_,_,rfl⟩
theorem bit7:∀ x < 256,bits .and .u8 ((x:Nat):Int) 128 = (((if 128 ≤ x then 128 else 0):Nat):Int):=by decide +kernel
theorem rest7:∀ x < 256,bits .andNot .u8 ((x:Nat):Int) 128 = ((x % 128:Nat):Int):=by decide +kernel
set_option maxHeartbeats 8000000 in
theorem unpack_any (b:List Nat) (hb:Lo 256 b) (hl:b.length = 32) (w:World) (hR:TR w):Calls Tryz.prog 31 #[.agg (C .u8 b).toArray] w fun e w'=>e = .returned (.tuple #[.agg (unC (hiB b) (lowB b)).toArray,.bool (unOk (hiB b) (lowB b))]) ∧ Below w.heap.size w w':=by
 obtain ⟨w2,h2,h⟩:=Fr.two w 22 44 (C .u8 b) (pc 0 0)
 have hI:=hR.i
 have hE:=hI.e
 have hP:=hE.p
 have by31:=hb.getD (by decide) 31
 have c31:=(h.row (i:=0) rfl).cell 31
 rw [C_get .u8 (by omega)] at c31
 have f31:=(h.row (i:=0) rfl).frozen 31
 have oc:Lo 256 (b.set 31 (b.getD 31 0 % 128)):=hb.set _ _ (by omega)
 have lc:(b.set 31 (b.getD 31 0 % 128)).length = 32:=by rw [List.length_set];exact hl
 unfold hiB lowB
 obtain ⟨c,hc⟩:∃ c,b.set 31 (b.getD 31 0 % 128) = c:=⟨_,rfl⟩
 rw [hc] at oc lc ⊢
 obtain ⟨y,hy⟩:∃ y,b.getD 31 0 = y:=⟨_,rfl⟩
 rw [hy] at c31 by31 hc ⊢
 obtain ⟨odd,hodd⟩:∃ odd,decide (128 ≤ y) = odd:=⟨_,rfl⟩
 rw [hodd]
 have b7:=bit7 y by31
 obtain ⟨u7,hu7⟩:∃ u,(if 128 ≤ y then 128 else 0) = u:=⟨_,rfl⟩
 rw [hu7] at b7
 have ho1:((u7:Int) != 0) = odd:=by
  rw [← hodd,← hu7]
  by_cases k:128 ≤ y <;> simp [k]
 clear hu7
 obtain ⟨y',hy'⟩:∃ y',y % 128 = y':=⟨_,rfl⟩
 rw [hy'] at hc
 have m0:=row_set (h.row (i:=0) rfl) 31 y'
 rw [hc] at m0
 replace h:Fr w (w2.setCell ⟨w.heap.size,31,none⟩ (.int .u8 (y':Int))) [(w.heap.size,22,C .u8 c),((w.heap.size + 1),44,pc 0 0)]:=h.put (i:=0) rfl m0 (grown_set _ _ _ _)
 have dr:=rest7 y by31
 rw [hy'] at dr
 have wy:IntKind.u8.wrap (y':Int) = (y':Int):=by rw [IntKind.wrap_u8];omega
 have wy':(y':Int) % 256 = (y':Int):=by omega
 have hic:(Tryz.prog.info? 22).map (·.size) = some (C .u8 c).length:=by rw [C_length,lc];exact i32
 have cR:=fread_any c oc lc
 have lN:=val_bytes_lt oc lc
 obtain ⟨N,hN⟩:∃ N,val 256 c = N:=⟨_,rfl⟩
 rw [hN] at cR lN ⊢
 obtain ⟨Yv,hYv⟩:∃ Yv,(if N < P then N else 0) = Yv:=⟨_,rfl⟩
 obtain ⟨okv,hok⟩:∃ okv,decide (N < P) = okv:=⟨_,rfl⟩
 have cR':=fun w=>cR w
 clear cR
 have cR:∀ (w:World),Tab w → Calls Tryz.prog 67 #[.agg (C .u8 c).toArray] w fun e w'=>e = .returned (.tuple #[.agg (ec (if N < P then N else 0)).toArray,.bool (decide (N < P))]) ∧ Below w.heap.size w w':=cR'
 clear cR'
 rw [hYv,hok] at cR
 have lYv:Yv < 115792089237316195423570985008687907853269984665640564039457584007913129639936:=by rw [← hYv];split <;> omega
 have csq:=square_any Yv lYv
 have lsq:=sqx_lt Yv
 obtain ⟨sq,esq⟩:∃ s,sqx Yv = s:=⟨_,rfl⟩
 rw [esq] at csq lsq
 obtain ⟨x,is,hx⟩:∃ x is,rt sq = (x,is):=prod_parts _
 have lx:=rt_lt sq
 have cr:=froot_el sq lsq
 rw [hx] at lx cr
 obtain ⟨m,em,lm,cm⟩:∃ m,(0 % P + (P - x % P)) % P = m ∧ m < 115792089237316195423570985008687907853269984665640564039457584007913129639936 ∧ ∀ (w:World),Tab w → Calls Tryz.prog 71 #[.agg (ec x).toArray] w fun e w'=>e = .returned (.agg (ec m).toArray) ∧ Below w.heap.size w w':=⟨_,rfl,mod_lt_T _,fun w hT=>negative_el x lx w hT⟩
 have hYN:okv = true → Yv = N:=fun e=>by rw [← hYv,if_pos (of_decide_eq_true (hok.trans e))]
 have hR:okv = true → rt (sqx N) = (x,is):=fun e=>by rw [← hYN e,esq,hx]
 have HV:Away (unOk odd N = (okv && (is && !(odd && decide (x = 0))))):=⟨by
  rw [unOk,hok]
  cases okv
  ·rw [Bool.false_and,Bool.false_and]
  ·rw [hR rfl]⟩
 have HX:Away (okv = true → unX odd N = if odd = true then m else x):=⟨fun e=>by rw [unX,hR e,em]⟩
 have HY:Away (okv = true → Yv = N):=⟨hYN⟩
 obtain ⟨rl,hrl⟩:∃ rl,unC odd N = rl:=⟨_,rfl⟩
 rw [hrl]
 have HL:=Away.mk hrl
 obtain ⟨ub,hub⟩:∃ ub,unOk odd N = ub:=⟨_,rfl⟩
 rw [hub]
 have HU:=Away.mk hub
 have hq:=fun w=>eq4 w x 0 lx (by decide)
 clear hrl hub hR hx em hYv hok hN hodd hy hc hy' lN hYN esq
 go_enter Tryz.func31,Tryz.ntmps31
 go_upto_region 1 with (refine wpList_alloc_row rfl 44 rfl _ zPw ?_)
 try simp only [Act.put,stA,st0,st1,alloc_size,h2]
 clear h2
 go_upto_region 3 with fail
 clear c31 f31 dr wy wy' b7 ho1 m0
 generalize w2.setCell ⟨w.heap.size,31,none⟩ (.int .u8 (y':Int)) = w3 at *
 go_wp2_with (refine wpList_load_row rfl 22 _ rfl _ rfl _ _ _ _ (h.row (i:=0) rfl) Tryz.underlying22 rfl hic ?_)
 refine (cR _ (hP.below h.bel)).mono ?_
 rintro _ wn ⟨rfl,hb⟩
 replace h:=h.below hb
 clear hb cR
 obtain ⟨g5,hgq,hq5⟩:=h.more 2 32 (ec 0)
 replace hq5:Fr w _ [(w.heap.size,22,C .u8 c),((w.heap.size + 1),44,pc 0 0),(g5,32,ec 0)]:=hq5
 go_upto_region 4 with (first | refine wpList_alloc_row rfl 32 rfl _ z4w ?_ | (refine wpList_store_R rfl 32 _ _ rfl _ (ec Yv) (congrArg (fun g=>Value.pointer (some ⟨g,0,none⟩)) hgq) rfl (hq5.row (i:=2) rfl) (ie4 _) rfl (ec_all _) ?_;intro wz q hg hz))
 replace h:Fr w wz [(w.heap.size,22,C .u8 c),((w.heap.size + 1),44,pc 0 0),(g5,32,ec Yv)]:=hq5.put (i:=2) rfl q hg
 try rw [hgq]
 clear q hg hz hq5 hgq
 cases okv
 ·have e1:ub = false:=by rw [← HU.out,HV.out];rfl
  have e2:rl = pc 0 1:=by rw [← HL.out,unC,HU.out,e1];exact if_neg (by decide)
  replace e1:=Away.mk e1
  replace e2:=Away.mk e2
  clear HL HU HV HX HY
  go_wp2_with (fail)
  refine (zero_el _).mono ?_
  rintro _ wn9 ⟨rfl,hb⟩
  replace h:=h.below hb
  clear hb
  go_wp2_with (refine wpList_store_R rfl 44 _ _ rfl _ (pc 0 1) rfl rfl (h.row (i:=1) rfl) (iP _ _) rfl (pc_all _ _) ?_;intro wz q hg hz)
  replace h:Fr w wz [(w.heap.size,22,C .u8 c),((w.heap.size + 1),44,pc 0 1),(g5,32,ec Yv)]:=h.put (i:=1) rfl q hg
  exact result_row2 Tryz.results31 (v:=.bool false) rfl rfl (h.row (i:=1) rfl) Tryz.underlying44 rfl (iP _ _) rfl ⟨by rw [e1.out,e2.out],h.bel⟩
 replace HX:=Away.mk (HX.out rfl)
 replace HY:=Away.mk (HY.out rfl)
 go_upto_region 6 with fail
 go_wp2_with (refine wpList_load_row rfl 32 _ rfl _ rfl _ _ _ _ (h.row (i:=2) rfl) Tryz.underlying32 rfl (ie4 _) ?_)
 refine (csq _ (hI.below h.bel)).mono ?_
 rintro _ wn ⟨rfl,hb⟩
 replace h:=h.below hb
 clear hb
 go_wp2_with fail
 refine (cr _ (hR.below h.bel).r).mono ?_
 rintro _ wn ⟨rfl,hb⟩
 replace h:=h.below hb
 clear hb
 obtain ⟨g7,hgq,hq5⟩:=h.more 3 32 (ec 0)
 replace hq5:Fr w _ [(w.heap.size,22,C .u8 c),((w.heap.size + 1),44,pc 0 0),(g5,32,ec Yv),(g7,32,ec 0)]:=hq5
 go_upto_region 7 with (first | refine wpList_alloc_row rfl 32 rfl _ z4w ?_ | (refine wpList_store_R rfl 32 _ _ rfl _ (ec x) (congrArg (fun g=>Value.pointer (some ⟨g,0,none⟩)) hgq) rfl (hq5.row (i:=3) rfl) (ie4 _) rfl (ec_all _) ?_;intro wz q hg hz))
 replace h:Fr w wz [(w.heap.size,22,C .u8 c),((w.heap.size + 1),44,pc 0 0),(g5,32,ec Yv),(g7,32,ec x)]:=hq5.put (i:=3) rfl q hg
 try rw [hgq]
 clear q hg hz hq5 hgq csq cr
 cases is
 ·have e1:ub = false:=by rw [← HU.out,HV.out];rfl
  have e2:rl = pc 0 1:=by rw [← HL.out,unC,HU.out,e1];exact if_neg (by decide)
  replace e1:=Away.mk e1
  replace e2:=Away.mk e2
  clear HL HU HV HX HY
  go_wp2_with (fail)
  refine (zero_el _).mono ?_
  rintro _ wn9 ⟨rfl,hb⟩
  replace h:=h.below hb
  clear hb
  go_wp2_with (refine wpList_store_R rfl 44 _ _ rfl _ (pc 0 1) rfl rfl (h.row (i:=1) rfl) (iP _ _) rfl (pc_all _ _) ?_;intro wz q hg hz)
  replace h:Fr w wz [(w.heap.size,22,C .u8 c),((w.heap.size + 1),44,pc 0 1),(g5,32,ec Yv),(g7,32,ec x)]:=h.put (i:=1) rfl q hg
  exact result_row2 Tryz.results31 (v:=.bool false) rfl rfl (h.row (i:=1) rfl) Tryz.underlying44 rfl (iP _ _) rfl ⟨by rw [e1.out,e2.out],h.bel⟩
 cases odd
 ·have e1:ub = true:=by rw [← HU.out,HV.out];rfl
  have e0:unX false N = x:=HX.out.trans (by first | exact if_neg (by decide) | exact if_neg (fun h=>h))
  have e2:rl = pc x Yv:=by rw [← HL.out,unC,HU.out,e1,e0,HY.out];exact if_pos rfl
  clear e0
  replace e1:=Away.mk e1
  replace e2:=Away.mk e2
  clear HL HU HV HX HY
  go_wp2_with (first | refine wpList_load_row rfl 32 _ rfl _ rfl _ _ _ _ (h.row (i:=3) rfl) Tryz.underlying32 rfl (ie4 _) ?_ | refine wpList_load_row rfl 32 _ rfl _ rfl _ _ _ _ (h.row (i:=2) rfl) Tryz.underlying32 rfl (ie4 _) ?_ | refine wpList_build_C rfl 44 _ rfl (pc x Yv) (by kernel_rfl) ?_ | (refine wpList_store_R rfl 44 _ _ rfl _ (pc x Yv) rfl rfl (h.row (i:=1) rfl) (iP _ _) rfl (pc_all _ _) ?_;intro wz q hg hz))
  replace h:Fr w wz [(w.heap.size,22,C .u8 c),((w.heap.size + 1),44,pc x Yv),(g5,32,ec Yv),(g7,32,ec x)]:=h.put (i:=1) rfl q hg
  exact result_row2 Tryz.results31 (v:=.bool true) rfl rfl (h.row (i:=1) rfl) Tryz.underlying44 rfl (iP _ _) rfl ⟨by rw [e1.out,e2.out],h.bel⟩
 obtain ⟨x0,x1,x2,x3,hwx⟩:∃ x0 x1 x2 x3,wds x = [x0,x1,x2,x3]:=⟨_,_,_,_,rfl⟩
 have gx:Value.agg #[.int .u64 (x0:Int),.int .u64 (x1:Int),.int .u64 (x2:Int),.int .u64 (x3:Int)] = .agg (ec x).toArray:=by rw [ec,hwx];rfl
 have r9:=h.row (i:=3) rfl
 rw [ec,hwx] at r9
 have k0:=r9.cell 0
 have k1:=r9.cell 1
 have k2:=r9.cell 2
 have k3:=r9.cell 3
 simp only [C,List.map_cons,List.map_nil,List.getElem?_cons_zero,List.getElem?_cons_succ] at k0 k1 k2 k3
 have z0:Value.agg #[.int .u64 0,.int .u64 0,.int .u64 0,.int .u64 0] = .agg (ec 0).toArray:=by kernel_rfl
 have hq2:∀ w,(Op.equalIn 10000 32 (.agg #[.int .u64 (x0:Int),.int .u64 (x1:Int),.int .u64 (x2:Int),.int .u64 (x3:Int)]) (.agg #[.int .u64 0,.int .u64 0,.int .u64 0,.int .u64 0])).run Tryz.prog w = .ok (decide (x = 0)) w:=fun w=>by rw [gx,z0];exact hq w
 clear r9 hwx gx z0 hq
 by_cases hx0:x = 0
 ·have HE:=Away.mk hx0
  simp only [decide_eq_true hx0] at hq2 HV
  clear hx0
  have e1:ub = false:=by rw [← HU.out,HV.out];rfl
  have e2:rl = pc 0 1:=by rw [← HL.out,unC,HU.out,e1];exact if_neg (by decide)
  replace e1:=Away.mk e1
  replace e2:=Away.mk e2
  clear HL HU HV HX HY
  go_wp2_with (fail)
  refine (zero_el _).mono ?_
  rintro _ wn9 ⟨rfl,hb⟩
  replace h:=h.below hb
  clear hb
  go_wp2_with (refine wpList_store_R rfl 44 _ _ rfl _ (pc 0 1) rfl rfl (h.row (i:=1) rfl) (iP _ _) rfl (pc_all _ _) ?_;intro wz q hg hz)
  replace h:Fr w wz [(w.heap.size,22,C .u8 c),((w.heap.size + 1),44,pc 0 1),(g5,32,ec Yv),(g7,32,ec x)]:=h.put (i:=1) rfl q hg
  exact result_row2 Tryz.results31 (v:=.bool false) rfl rfl (h.row (i:=1) rfl) Tryz.underlying44 rfl (iP _ _) rfl ⟨by rw [e1.out,e2.out],h.bel⟩
 ·simp only [decide_eq_false hx0] at hq2 HV
  clear hx0
  go_wp2_with (first | refine wpList_load_row rfl 32 _ rfl _ rfl _ _ _ _ (h.row (i:=3) rfl) Tryz.underlying32 rfl (ie4 _) ?_ | refine wpList_build_C rfl 32 _ rfl (ec 0) (by kernel_rfl) ?_)
  refine (cm _ (hP.below h.bel)).mono ?_
  rintro _ wn9 ⟨rfl,hb⟩
  replace h:=h.below hb
  clear hb k0 k1 k2 k3
  go_upto_region 11 with (refine wpList_store_R rfl 32 _ _ rfl _ (ec m) rfl rfl (h.row (i:=3) rfl) (ie4 _) rfl (ec_all _) ?_;intro wz q hg hz)
  replace h:Fr w wz [(w.heap.size,22,C .u8 c),((w.heap.size + 1),44,pc 0 0),(g5,32,ec Yv),(g7,32,ec m)]:=h.put (i:=3) rfl q hg
  clear q hg hz
  have e1:ub = true:=by rw [← HU.out,HV.out];rfl
  have e0:unX true N = m:=HX.out.trans (by first | exact if_pos rfl | exact if_pos trivial)
  have e2:rl = pc m Yv:=by rw [← HL.out,unC,HU.out,e1,e0,HY.out];exact if_pos rfl
  clear e0
  replace e1:=Away.mk e1
  replace e2:=Away.mk e2
  clear HL HU HV HX HY
  go_wp2_with (first | refine wpList_load_row rfl 32 _ rfl _ rfl _ _ _ _ (h.row (i:=3) rfl) Tryz.underlying32 rfl (ie4 _) ?_ | refine wpList_load_row rfl 32 _ rfl _ rfl _ _ _ _ (h.row (i:=2) rfl) Tryz.underlying32 rfl (ie4 _) ?_ | refine wpList_build_C rfl 44 _ rfl (pc m Yv) (by kernel_rfl) ?_ | (refine wpList_store_R rfl 44 _ _ rfl _ (pc m Yv) rfl rfl (h.row (i:=1) rfl) (iP _ _) rfl (pc_all _ _) ?_;intro wz q hg hz))
  replace h:Fr w wz [(w.heap.size,22,C .u8 c),((w.heap.size + 1),44,pc m Yv),(g5,32,ec Yv),(g7,32,ec m)]:=h.put (i:=1) rfl q hg
  exact result_row2 Tryz.results31 (v:=.bool true) rfl rfl (h.row (i:=1) rfl) Tryz.underlying44 rfl (iP _ _) rfl ⟨by rw [e1.out,e2.out],h.bel⟩
set_option maxHeartbeats 8000000 in
theorem unpack13_any (b:List Nat) (hb:Lo 256 b) (hl:b.length = 32) (w:World):Calls Tryz.prog 37 #[.agg (C .u8 b).toArray] w fun e w'=>e = .returned (.tuple #[.agg (unC (hiB b) (lowB b)).toArray,.bool (unOk (hiB b) (lowB b))]) ∧ Below w.heap.size w w':=by
 obtain ⟨w2,h2,h⟩:=Fr.two w 22 44 (C .u8 b) (pc 0 0)
 have by31:=hb.getD (by decide) 31
 have c31:=(h.row (i:=0) rfl).cell 31
 rw [C_get .u8 (by omega)] at c31
 have f31:=(h.row (i:=0) rfl).frozen 31
 have oc:Lo 256 (b.set 31 (b.getD 31 0 % 128)):=hb.set _ _ (by omega)
 have lc:(b.set 31 (b.getD 31 0 % 128)).length = 32:=by rw [List.length_set];exact hl
 unfold hiB lowB
 obtain ⟨c,hc⟩:∃ c,b.set 31 (b.getD 31 0 % 128) = c:=⟨_,rfl⟩
 rw [hc] at oc lc ⊢
 obtain ⟨y,hy⟩:∃ y,b.getD 31 0 = y:=⟨_,rfl⟩
 rw [hy] at c31 by31 hc ⊢
 obtain ⟨odd,hodd⟩:∃ odd,decide (128 ≤ y) = odd:=⟨_,rfl⟩
 rw [hodd]
 have ho1:decide ((128:Int) ≤ (y:Int)) = odd:=by rw [← hodd,decide_eq_decide];omega
 obtain ⟨y',hy'⟩:∃ y',y % 128 = y':=⟨_,rfl⟩
 rw [hy'] at hc
 have m0:=row_set (h.row (i:=0) rfl) 31 y'
 rw [hc] at m0
 replace h:Fr w (w2.setCell ⟨w.heap.size,31,none⟩ (.int .u8 (y':Int))) [(w.heap.size,22,C .u8 c),((w.heap.size + 1),44,pc 0 0)]:=h.put (i:=0) rfl m0 (grown_set _ _ _ _)
 have dr:(y:Int).tmod 128 = (y':Int):=by rw [Int.tmod_eq_emod_of_nonneg (by omega)];omega
 have dr':(y:Int) % 128 = (y':Int):=by omega
 have wy:IntKind.u8.wrap (y':Int) = (y':Int):=by rw [IntKind.wrap_u8];omega
 have wy':(y':Int) % 256 = (y':Int):=by omega
 have hic:(Tryz.prog.info? 22).map (·.size) = some (C .u8 c).length:=by rw [C_length,lc];exact i32
 have cR:=frefread_any c oc lc
 have lN:=val_bytes_lt oc lc
 obtain ⟨N,hN⟩:∃ N,val 256 c = N:=⟨_,rfl⟩
 rw [hN] at cR lN ⊢
 obtain ⟨Yv,hYv⟩:∃ Yv,(if N < P then N else 0) = Yv:=⟨_,rfl⟩
 obtain ⟨okv,hok⟩:∃ okv,decide (N < P) = okv:=⟨_,rfl⟩
 have cR':=fun w=>cR w
 clear cR
 have cR:∀ (w:World),Calls Tryz.prog 80 #[.agg (C .u8 c).toArray] w fun e w'=>e = .returned (.tuple #[.agg (ec (if N < P then N else 0)).toArray,.bool (decide (N < P))]) ∧ Below w.heap.size w w':=cR'
 clear cR'
 rw [hYv,hok] at cR
 have lYv:Yv < 115792089237316195423570985008687907853269984665640564039457584007913129639936:=by rw [← hYv];split <;> omega
 obtain ⟨n1,en1,ln1,cn1⟩:=erMul Yv Yv lYv lYv
 obtain ⟨n2,en2,ln2,cn2⟩:=erSub n1 1 ln1 (by decide)
 obtain ⟨n3,en3,ln3,cn3⟩:=erMul Dn n1 lDn ln1
 obtain ⟨n4,en4,ln4,cn4⟩:=erAdd n3 1 ln3 (by decide)
 obtain ⟨n5,en5,ln5,cn5⟩:=erInv n4 ln4
 obtain ⟨n6,en6,ln6,cn6⟩:=erMul n2 n5 ln2 ln5
 obtain ⟨x,is,hx⟩:∃ x is,rt n6 = (x,is):=prod_parts _
 have lx:=rt_lt n6
 have cr:=fun w=>frefroot_el n6 ln6 w
 rw [hx] at lx cr
 obtain ⟨m,em,lm,cm⟩:∃ m,(0 % P + (P - x % P)) % P = m ∧ m < 115792089237316195423570985008687907853269984665640564039457584007913129639936 ∧ ∀ (w:World),Calls Tryz.prog 81 #[.agg (ec 0).toArray,.agg (ec x).toArray] w fun e w'=>e = .returned (.agg (ec m).toArray) ∧ Below w.heap.size w w':=⟨_,rfl,mod_lt_T _,fun w=>frefsub_el 0 x (by decide) lx w⟩
 have hYN:okv = true → Yv = N:=fun e=>by rw [← hYv,if_pos (of_decide_eq_true (hok.trans e))]
 have hR:okv = true → rt (sqx N) = (x,is):=fun e=>by rw [← hYN e,sqx,en1.out,en2.out,en3.out,en4.out,en5.out,en6.out,hx]
 have HV:Away (unOk odd N = (okv && (is && !(odd && decide (x = 0))))):=⟨by
  rw [unOk,hok]
  cases okv
  ·rw [Bool.false_and,Bool.false_and]
  ·rw [hR rfl]⟩
 have HX:Away (okv = true → unX odd N = if odd = true then m else x):=⟨fun e=>by rw [unX,hR e,em]⟩
 have HY:Away (okv = true → Yv = N):=⟨hYN⟩
 obtain ⟨rl,hrl⟩:∃ rl,unC odd N = rl:=⟨_,rfl⟩
 rw [hrl]
 have HL:=Away.mk hrl
 obtain ⟨ub,hub⟩:∃ ub,unOk odd N = ub:=⟨_,rfl⟩
 rw [hub]
 have HU:=Away.mk hub
 have hq:=fun w=>eq4 w x 0 lx (by decide)
 clear hrl hub hR hx em hYv hok hN hodd hy hc hy' lN hYN
 go_enter Tryz.func37,Tryz.ntmps37
 go_upto_region 1 with (refine wpList_alloc_row rfl 44 rfl _ zPw ?_)
 try simp only [Act.put,stA,st0,st1,alloc_size,h2]
 clear h2
 go_upto_region 3 with fail
 clear c31 f31 dr dr' wy wy' ho1 m0
 generalize w2.setCell ⟨w.heap.size,31,none⟩ (.int .u8 (y':Int)) = w3 at *
 go_wp2_with (refine wpList_load_row rfl 22 _ rfl _ rfl _ _ _ _ (h.row (i:=0) rfl) Tryz.underlying22 rfl hic ?_)
 refine (cR _).mono ?_
 rintro _ wn ⟨rfl,hb⟩
 replace h:=h.below hb
 clear hb cR
 obtain ⟨g5,hgq,hq5⟩:=h.more 2 32 (ec 0)
 replace hq5:Fr w _ [(w.heap.size,22,C .u8 c),((w.heap.size + 1),44,pc 0 0),(g5,32,ec 0)]:=hq5
 go_upto_region 4 with (first | refine wpList_alloc_row rfl 32 rfl _ z4w ?_ | (refine wpList_store_R rfl 32 _ _ rfl _ (ec Yv) (congrArg (fun g=>Value.pointer (some ⟨g,0,none⟩)) hgq) rfl (hq5.row (i:=2) rfl) (ie4 _) rfl (ec_all _) ?_;intro wz q hg hz))
 replace h:Fr w wz [(w.heap.size,22,C .u8 c),((w.heap.size + 1),44,pc 0 0),(g5,32,ec Yv)]:=hq5.put (i:=2) rfl q hg
 try rw [hgq]
 clear q hg hz hq5 hgq
 go_wp2_with (first | refine wpList_load_row rfl 32 _ rfl _ rfl _ _ _ _ (h.row (i:=2) rfl) Tryz.underlying32 rfl (ie4 _) ?_)
 refine callOK (cn1 _) h ?_
 clear h
 rintro _ wn rfl h
 obtain ⟨g7,hgq,hq⟩:=h.more 3 32 (ec 0)
 replace hq:Fr w _ [(w.heap.size,22,C .u8 c),((w.heap.size + 1),44,pc 0 0),(g5,32,ec Yv),(g7,32,ec 0)]:=hq
 go_upto_region 5 with (first | refine wpList_alloc_row rfl 32 rfl _ z4w ?_ | (refine wpList_store_R rfl 32 _ _ rfl _ (ec n1) (congrArg (fun g=>Value.pointer (some ⟨g,0,none⟩)) hgq) rfl (hq.row (i:=3) rfl) (ie4 _) rfl (ec_all _) ?_;intro wz q hg hz))
 replace h:Fr w wz [(w.heap.size,22,C .u8 c),((w.heap.size + 1),44,pc 0 0),(g5,32,ec Yv),(g7,32,ec n1)]:=hq.put (i:=3) rfl q hg
 try rw [hgq]
 clear q hg hz hq hgq
 go_wp2_with (first | refine wpList_load_row rfl 32 _ rfl _ rfl _ _ _ _ (h.row (i:=3) rfl) Tryz.underlying32 rfl (ie4 _) ?_ | refine wpList_build_C rfl 32 _ rfl (ec 1) (by kernel_rfl) ?_)
 refine callOK (cn2 _) h ?_
 clear h
 rintro _ wn rfl h
 obtain ⟨g8,hgq,hq⟩:=h.more 4 32 (ec 0)
 replace hq:Fr w _ [(w.heap.size,22,C .u8 c),((w.heap.size + 1),44,pc 0 0),(g5,32,ec Yv),(g7,32,ec n1),(g8,32,ec 0)]:=hq
 go_upto_region 6 with (first | refine wpList_alloc_row rfl 32 rfl _ z4w ?_ | (refine wpList_store_R rfl 32 _ _ rfl _ (ec n2) (congrArg (fun g=>Value.pointer (some ⟨g,0,none⟩)) hgq) rfl (hq.row (i:=4) rfl) (ie4 _) rfl (ec_all _) ?_;intro wz q hg hz))
 replace h:Fr w wz [(w.heap.size,22,C .u8 c),((w.heap.size + 1),44,pc 0 0),(g5,32,ec Yv),(g7,32,ec n1),(g8,32,ec n2)]:=hq.put (i:=4) rfl q hg
 try rw [hgq]
 clear q hg hz hq hgq
 replace h:=h.drew
 refine wp_region_inv (by kernel_rfl) (fun a0 l b w'=>∃ (l0 l1 l2 l3 l4 l5 l6:Bool) (g9:Nat) ,l = #[l0,l1,l2,l3,l4,l5,l6] ∧ b = putsA a0 [(30,l0,.agg (ec Dn).toArray,undef),(31,l1,.agg (ec n1).toArray,undef),(32,l2,.agg (ec n3).toArray,undef),(33,l3,.agg (ec 1).toArray,undef),(34,l4,.agg (ec n4).toArray,undef),(9,l5,.pointer (some ⟨g9,0,none⟩),undef)] ∧ Fr w w' (opt [(true,(w.heap.size,22,C .u8 c)),(true,((w.heap.size + 1),44,pc 0 0)),(true,(g5,32,ec Yv)),(true,(g7,32,ec n1)),(true,(g8,32,ec n2)),(l5,(g9,32,bif l6 then ec n4 else ec 0))]) ∧ (l6 = true → l5 = true)) ?start ?step ?rest
 case start=>exact ⟨false,false,false,false,false,false,false,0,by kernel_rfl,by kernel_rfl,h,(fun e=>by cases e)⟩
 case step =>
  clear h
  intro l b w' hI i hi
  obtain ⟨l0,l1,l2,l3,l4,l5,l6,g9,rfl,rfl,h,hc6⟩:=hI
  have hlt:i < 7:=ready_lt hi
  obtain rfl | rfl | rfl | rfl | rfl | rfl | rfl:=(by omega:i = 0 ∨ i = 1 ∨ i = 2 ∨ i = 3 ∨ i = 4 ∨ i = 5 ∨ i = 6)
  all_goals (obtain ⟨hn,hd⟩:=rin hi rfl;cases hn;(repeat (obtain ⟨hn,hd⟩:=hd;cases hn));clear hi hlt hd;refine wpOp_inv rfl rfl (fun K hK=>?_);simp only [putsA,Act.put,stA,st0,st1,cond_true,cond_false] at h ⊢)
  ·go_simp
   refine callOK (d13_any _) h ?_
   clear h
   rintro _ wn rfl h
   refine hK.out _ _ ⟨_,_,_,_,_,_,_,_,rfl,by kernel_rfl,h,?_⟩ <;> first | assumption | exact fun _=>rfl | exact nofun
  ·refine wp_value (.agg (ec n1).toArray) (exec_load_W 32 _ rfl rfl (h.rowo (k:=3) rfl) Tryz.underlying32 rfl (ie4 _)) ?_
   refine hK.out _ _ ⟨_,_,_,_,_,_,_,_,rfl,by kernel_rfl,h,?_⟩ <;> first | assumption | exact fun _=>rfl | exact nofun
  ·go_simp
   refine callOK (cn3 _) h ?_
   clear h
   rintro _ wn rfl h
   refine hK.out _ _ ⟨_,_,_,_,_,_,_,_,rfl,by kernel_rfl,h,?_⟩ <;> first | assumption | exact fun _=>rfl | exact nofun
  ·refine wp_value (.agg (ec 1).toArray) (exec_build_C 32 _ rfl (ec 1) (by kernel_rfl)) ?_
   refine hK.out _ _ ⟨_,_,_,_,_,_,_,_,rfl,by kernel_rfl,h,?_⟩ <;> first | assumption | exact fun _=>rfl | exact nofun
  ·go_simp
   refine callOK (cn4 _) h ?_
   clear h
   rintro _ wn rfl h
   refine hK.out _ _ ⟨_,_,_,_,_,_,_,_,rfl,by kernel_rfl,h,?_⟩ <;> first | assumption | exact fun _=>rfl | exact nofun
  ·obtain rfl:l6 = false:=by cases l6 with | false=>rfl | true=>exact absurd (hc6 rfl) (by decide)
   simp only [cond_false] at h ⊢
   refine wp_alloc_R 32 rfl (ec 0) z4w ?_
   obtain ⟨gn,hgq,hq⟩:=h.on (k:=5) rfl 32 (ec 0)
   rw [hgq]
   refine hK.out _ _ ⟨_,_,_,_,_,_,_,_,rfl,by kernel_rfl,hq,?_⟩ <;> first | assumption | exact fun _=>rfl | exact nofun
  ·refine wp_store_R 32 _ _ rfl _ (ec n4) rfl rfl (h.rowo (k:=5) rfl) (ie4 _) rfl (ec_all _) ?_
   intro wz q hg hz
   replace h:=h.puto (k:=5) rfl q hg
   refine hK.out _ _ ⟨_,_,_,_,_,_,_,_,rfl,by kernel_rfl,h,?_⟩ <;> first | assumption | exact fun _=>rfl | exact nofun
 case rest =>
  clear h
  intro l b w' hI hr
  obtain ⟨l0,l1,l2,l3,l4,l5,l6,g9,rfl,rfl,h,hc6⟩:=hI
  cases rall hr rfl (by rfl)
  clear hr hc6
  simp only [putsA,Act.put,stA,st0,st1,cond_true]
  replace h:Fr w w' [(w.heap.size,22,C .u8 c),((w.heap.size + 1),44,pc 0 0),(g5,32,ec Yv),(g7,32,ec n1),(g8,32,ec n2),(g9,32,ec n4)]:=h
  go_upto_region 7 with fail
  try simp only [Act.put,stA,st0,st1]
  replace h:=h.drew
  refine wp_region_inv (by kernel_rfl) (fun a0 l b w'=>∃ (l0 l1 l2 l3 l4 l5 l6 l7 l8 l9 l10:Bool) (g10:Nat) ,l = #[l0,l1,l2,l3,l4,l5,l6,l7,l8,l9,l10] ∧ b = putsA a0 [(36,l0,.agg (ec n2).toArray,undef),(37,l1,.agg (ec n4).toArray,undef),(38,l2,.agg (ec n5).toArray,undef),(39,l3,.agg (ec n6).toArray,undef),(40,l4,.tuple #[.agg (ec x).toArray,.bool is],undef),(35,l5,.tuple #[.agg (ec x).toArray,.bool is],undef),(41,l6,.agg (ec x).toArray,undef),(42,l7,.bool is,undef),(10,l8,.pointer (some ⟨g10,0,none⟩),undef),(11,l10,.bool is,undef)] ∧ Fr w w' (opt [(true,(w.heap.size,22,C .u8 c)),(true,((w.heap.size + 1),44,pc 0 0)),(true,(g5,32,ec Yv)),(true,(g7,32,ec n1)),(true,(g8,32,ec n2)),(true,(g9,32,ec n4)),(l8,(g10,32,bif l9 then ec x else ec 0))]) ∧ (l9 = true → l8 = true)) ?start ?step ?rest
  case start=>exact ⟨false,false,false,false,false,false,false,false,false,false,false,0,by kernel_rfl,by kernel_rfl,h,(fun e=>by cases e)⟩
  case step =>
   clear h
   intro l b w' hI i hi
   obtain ⟨l0,l1,l2,l3,l4,l5,l6,l7,l8,l9,l10,g10,rfl,rfl,h,hc9⟩:=hI
   have hlt:i < 11:=ready_lt hi
   obtain rfl | rfl | rfl | rfl | rfl | rfl | rfl | rfl | rfl | rfl | rfl:=(by omega:i = 0 ∨ i = 1 ∨ i = 2 ∨ i = 3 ∨ i = 4 ∨ i = 5 ∨ i = 6 ∨ i = 7 ∨ i = 8 ∨ i = 9 ∨ i = 10)
   all_goals (obtain ⟨hn,hd⟩:=rin hi rfl;cases hn;(repeat (obtain ⟨hn,hd⟩:=hd;cases hn));clear hi hlt hd;refine wpOp_inv rfl rfl (fun K hK=>?_);simp only [putsA,Act.put,stA,st0,st1,cond_true,cond_false] at h ⊢)
   ·refine wp_value (.agg (ec n2).toArray) (exec_load_W 32 _ rfl rfl (h.rowo (k:=4) rfl) Tryz.underlying32 rfl (ie4 _)) ?_
    refine hK.out _ _ ⟨_,_,_,_,_,_,_,_,_,_,_,_,rfl,by kernel_rfl,h,?_⟩ <;> first | assumption | exact fun _=>rfl | exact nofun
   ·refine wp_value (.agg (ec n4).toArray) (exec_load_W 32 _ rfl rfl (h.rowo (k:=5) rfl) Tryz.underlying32 rfl (ie4 _)) ?_
    refine hK.out _ _ ⟨_,_,_,_,_,_,_,_,_,_,_,_,rfl,by kernel_rfl,h,?_⟩ <;> first | assumption | exact fun _=>rfl | exact nofun
   ·go_simp
    refine callOK (cn5 _) h ?_
    clear h
    rintro _ wn rfl h
    refine hK.out _ _ ⟨_,_,_,_,_,_,_,_,_,_,_,_,rfl,by kernel_rfl,h,?_⟩ <;> first | assumption | exact fun _=>rfl | exact nofun
   ·go_simp
    refine callOK (cn6 _) h ?_
    clear h
    rintro _ wn rfl h
    refine hK.out _ _ ⟨_,_,_,_,_,_,_,_,_,_,_,_,rfl,by kernel_rfl,h,?_⟩ <;> first | assumption | exact fun _=>rfl | exact nofun
   ·go_simp
    refine callOK (cr _) h ?_
    clear h
    rintro _ wn rfl h
    refine hK.out _ _ ⟨_,_,_,_,_,_,_,_,_,_,_,_,rfl,by kernel_rfl,h,?_⟩ <;> first | assumption | exact fun _=>rfl | exact nofun
   ·refine wp_value (.tuple #[.agg (ec x).toArray,.bool is]) (by go_simp) ?_
    refine hK.out _ _ ⟨_,_,_,_,_,_,_,_,_,_,_,_,rfl,by kernel_rfl,h,?_⟩ <;> first | assumption | exact fun _=>rfl | exact nofun
   ·refine wp_value (.agg (ec x).toArray) (by go_simp) ?_
    refine hK.out _ _ ⟨_,_,_,_,_,_,_,_,_,_,_,_,rfl,by kernel_rfl,h,?_⟩ <;> first | assumption | exact fun _=>rfl | exact nofun
   ·refine wp_value (.bool is) (by go_simp) ?_
    refine hK.out _ _ ⟨_,_,_,_,_,_,_,_,_,_,_,_,rfl,by kernel_rfl,h,?_⟩ <;> first | assumption | exact fun _=>rfl | exact nofun
   ·obtain rfl:l9 = false:=by cases l9 with | false=>rfl | true=>exact absurd (hc9 rfl) (by decide)
    simp only [cond_false] at h ⊢
    refine wp_alloc_R 32 rfl (ec 0) z4w ?_
    obtain ⟨gn,hgq,hq⟩:=h.on (k:=6) rfl 32 (ec 0)
    rw [hgq]
    refine hK.out _ _ ⟨_,_,_,_,_,_,_,_,_,_,_,_,rfl,by kernel_rfl,hq,?_⟩ <;> first | assumption | exact fun _=>rfl | exact nofun
   ·refine wp_store_R 32 _ _ rfl _ (ec x) rfl rfl (h.rowo (k:=6) rfl) (ie4 _) rfl (ec_all _) ?_
    intro wz q hg hz
    replace h:=h.puto (k:=6) rfl q hg
    refine hK.out _ _ ⟨_,_,_,_,_,_,_,_,_,_,_,_,rfl,by kernel_rfl,h,?_⟩ <;> first | assumption | exact fun _=>rfl | exact nofun
   ·refine wp_value (.bool is) (by go_simp) ?_
    refine hK.out _ _ ⟨_,_,_,_,_,_,_,_,_,_,_,_,rfl,by kernel_rfl,h,?_⟩ <;> first | assumption | exact fun _=>rfl | exact nofun
  case rest =>
   clear h
   intro l b w' hI hr
   obtain ⟨l0,l1,l2,l3,l4,l5,l6,l7,l8,l9,l10,g10,rfl,rfl,h,hc9⟩:=hI
   cases rall hr rfl (by rfl)
   clear hr hc9
   simp only [putsA,Act.put,stA,st0,st1,cond_true]
   replace h:Fr w w' [(w.heap.size,22,C .u8 c),((w.heap.size + 1),44,pc 0 0),(g5,32,ec Yv),(g7,32,ec n1),(g8,32,ec n2),(g9,32,ec n4),(g10,32,ec x)]:=h
   cases okv
   ·have e1:ub = false:=by rw [← HU.out,HV.out];rfl
    have e2:rl = pc 0 1:=by rw [← HL.out,unC,HU.out,e1];exact if_neg (by decide)
    replace e1:=Away.mk e1
    replace e2:=Away.mk e2
    clear HL HU HV HX HY
    go_wp2_with (fail)
    refine (zero13_any _).mono ?_
    rintro _ wn9 ⟨rfl,hb⟩
    replace h:=h.below hb
    clear hb
    go_wp2_with (refine wpList_store_R rfl 44 _ _ rfl _ (pc 0 1) rfl rfl (h.row (i:=1) rfl) (iP _ _) rfl (pc_all _ _) ?_;intro wz q hg hz)
    replace h:Fr w wz [(w.heap.size,22,C .u8 c),((w.heap.size + 1),44,pc 0 1),(g5,32,ec Yv),(g7,32,ec n1),(g8,32,ec n2),(g9,32,ec n4),(g10,32,ec x)]:=h.put (i:=1) rfl q hg
    exact result_row2 Tryz.results37 (v:=.bool false) rfl rfl (h.row (i:=1) rfl) Tryz.underlying44 rfl (iP _ _) rfl ⟨by rw [e1.out,e2.out],h.bel⟩
   replace HX:=Away.mk (HX.out rfl)
   replace HY:=Away.mk (HY.out rfl)
   cases is
   ·have e1:ub = false:=by rw [← HU.out,HV.out];rfl
    have e2:rl = pc 0 1:=by rw [← HL.out,unC,HU.out,e1];exact if_neg (by decide)
    replace e1:=Away.mk e1
    replace e2:=Away.mk e2
    clear HL HU HV HX HY
    go_wp2_with (fail)
    refine (zero13_any _).mono ?_
    rintro _ wn9 ⟨rfl,hb⟩
    replace h:=h.below hb
    clear hb
    go_wp2_with (refine wpList_store_R rfl 44 _ _ rfl _ (pc 0 1) rfl rfl (h.row (i:=1) rfl) (iP _ _) rfl (pc_all _ _) ?_;intro wz q hg hz)
    replace h:Fr w wz [(w.heap.size,22,C .u8 c),((w.heap.size + 1),44,pc 0 1),(g5,32,ec Yv),(g7,32,ec n1),(g8,32,ec n2),(g9,32,ec n4),(g10,32,ec x)]:=h.put (i:=1) rfl q hg
    exact result_row2 Tryz.results37 (v:=.bool false) rfl rfl (h.row (i:=1) rfl) Tryz.underlying44 rfl (iP _ _) rfl ⟨by rw [e1.out,e2.out],h.bel⟩
   cases odd
   ·have e1:ub = true:=by rw [← HU.out,HV.out];rfl
    have e0:unX false N = x:=HX.out.trans (by first | exact if_neg (by decide) | exact if_neg (fun h=>h))
    have e2:rl = pc x Yv:=by rw [← HL.out,unC,HU.out,e1,e0,HY.out];exact if_pos rfl
    clear e0
    replace e1:=Away.mk e1
    replace e2:=Away.mk e2
    clear HL HU HV HX HY
    go_wp2_with (first | refine wpList_load_row rfl 32 _ rfl _ rfl _ _ _ _ (h.row (i:=6) rfl) Tryz.underlying32 rfl (ie4 _) ?_ | refine wpList_load_row rfl 32 _ rfl _ rfl _ _ _ _ (h.row (i:=2) rfl) Tryz.underlying32 rfl (ie4 _) ?_ | refine wpList_build_C rfl 44 _ rfl (pc x Yv) (by kernel_rfl) ?_ | (refine wpList_store_R rfl 44 _ _ rfl _ (pc x Yv) rfl rfl (h.row (i:=1) rfl) (iP _ _) rfl (pc_all _ _) ?_;intro wz q hg hz))
    replace h:Fr w wz [(w.heap.size,22,C .u8 c),((w.heap.size + 1),44,pc x Yv),(g5,32,ec Yv),(g7,32,ec n1),(g8,32,ec n2),(g9,32,ec n4),(g10,32,ec x)]:=h.put (i:=1) rfl q hg
    exact result_row2 Tryz.results37 (v:=.bool true) rfl rfl (h.row (i:=1) rfl) Tryz.underlying44 rfl (iP _ _) rfl ⟨by rw [e1.out,e2.out],h.bel⟩
   obtain ⟨x0,x1,x2,x3,hwx⟩:∃ x0 x1 x2 x3,wds x = [x0,x1,x2,x3]:=⟨_,_,_,_,rfl⟩
   have gx:Value.agg #[.int .u64 (x0:Int),.int .u64 (x1:Int),.int .u64 (x2:Int),.int .u64 (x3:Int)] = .agg (ec x).toArray:=by rw [ec,hwx];rfl
   have r9:=h.row (i:=6) rfl
   rw [ec,hwx] at r9
   have k0:=r9.cell 0
   have k1:=r9.cell 1
   have k2:=r9.cell 2
   have k3:=r9.cell 3
   simp only [C,List.map_cons,List.map_nil,List.getElem?_cons_zero,List.getElem?_cons_succ] at k0 k1 k2 k3
   have z0:Value.agg #[.int .u64 0,.int .u64 0,.int .u64 0,.int .u64 0] = .agg (ec 0).toArray:=by kernel_rfl
   have hq2:∀ w,(Op.equalIn 10000 32 (.agg #[.int .u64 (x0:Int),.int .u64 (x1:Int),.int .u64 (x2:Int),.int .u64 (x3:Int)]) (.agg #[.int .u64 0,.int .u64 0,.int .u64 0,.int .u64 0])).run Tryz.prog w = .ok (decide (x = 0)) w:=fun w=>by rw [gx,z0];exact hq w
   clear r9 hwx gx z0 hq
   by_cases hx0:x = 0
   ·have HE:=Away.mk hx0
    simp only [decide_eq_true hx0] at hq2 HV
    clear hx0
    have e1:ub = false:=by rw [← HU.out,HV.out];rfl
    have e2:rl = pc 0 1:=by rw [← HL.out,unC,HU.out,e1];exact if_neg (by decide)
    replace e1:=Away.mk e1
    replace e2:=Away.mk e2
    clear HL HU HV HX HY
    go_wp2_with (fail)
    refine (zero13_any _).mono ?_
    rintro _ wn9 ⟨rfl,hb⟩
    replace h:=h.below hb
    clear hb
    go_wp2_with (refine wpList_store_R rfl 44 _ _ rfl _ (pc 0 1) rfl rfl (h.row (i:=1) rfl) (iP _ _) rfl (pc_all _ _) ?_;intro wz q hg hz)
    replace h:Fr w wz [(w.heap.size,22,C .u8 c),((w.heap.size + 1),44,pc 0 1),(g5,32,ec Yv),(g7,32,ec n1),(g8,32,ec n2),(g9,32,ec n4),(g10,32,ec x)]:=h.put (i:=1) rfl q hg
    exact result_row2 Tryz.results37 (v:=.bool false) rfl rfl (h.row (i:=1) rfl) Tryz.underlying44 rfl (iP _ _) rfl ⟨by rw [e1.out,e2.out],h.bel⟩
   ·simp only [decide_eq_false hx0] at hq2 HV
    clear hx0
    go_wp2_with (first | refine wpList_load_row rfl 32 _ rfl _ rfl _ _ _ _ (h.row (i:=6) rfl) Tryz.underlying32 rfl (ie4 _) ?_ | refine wpList_build_C rfl 32 _ rfl (ec 0) (by kernel_rfl) ?_)
    refine (cm _).mono ?_
    rintro _ wn9 ⟨rfl,hb⟩
    replace h:=h.below hb
    clear hb k0 k1 k2 k3
    go_upto_region 12 with (refine wpList_store_R rfl 32 _ _ rfl _ (ec m) rfl rfl (h.row (i:=6) rfl) (ie4 _) rfl (ec_all _) ?_;intro wz q hg hz)
    replace h:Fr w wz [(w.heap.size,22,C .u8 c),((w.heap.size + 1),44,pc 0 0),(g5,32,ec Yv),(g7,32,ec n1),(g8,32,ec n2),(g9,32,ec n4),(g10,32,ec m)]:=h.put (i:=6) rfl q hg
    clear q hg hz
    have e1:ub = true:=by rw [← HU.out,HV.out];rfl
    have e0:unX true N = m:=HX.out.trans (by first | exact if_pos rfl | exact if_pos trivial)
    have e2:rl = pc m Yv:=by rw [← HL.out,unC,HU.out,e1,e0,HY.out];exact if_pos rfl
    clear e0
    replace e1:=Away.mk e1
    replace e2:=Away.mk e2
    clear HL HU HV HX HY
    go_wp2_with (first | refine wpList_load_row rfl 32 _ rfl _ rfl _ _ _ _ (h.row (i:=6) rfl) Tryz.underlying32 rfl (ie4 _) ?_ | refine wpList_load_row rfl 32 _ rfl _ rfl _ _ _ _ (h.row (i:=2) rfl) Tryz.underlying32 rfl (ie4 _) ?_ | refine wpList_build_C rfl 44 _ rfl (pc m Yv) (by kernel_rfl) ?_ | (refine wpList_store_R rfl 44 _ _ rfl _ (pc m Yv) rfl rfl (h.row (i:=1) rfl) (iP _ _) rfl (pc_all _ _) ?_;intro wz q hg hz))
    replace h:Fr w wz [(w.heap.size,22,C .u8 c),((w.heap.size + 1),44,pc m Yv),(g5,32,ec Yv),(g7,32,ec n1),(g8,32,ec n2),(g9,32,ec n4),(g10,32,ec m)]:=h.put (i:=1) rfl q hg
    exact result_row2 Tryz.results37 (v:=.bool true) rfl rfl (h.row (i:=1) rfl) Tryz.underlying44 rfl (iP _ _) rfl ⟨by rw [e1.out,e2.out],h.bel⟩
end Go.Proofs.YtmjimilhomabfaaGreatDoor.F
