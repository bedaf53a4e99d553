/-
 Numbers as words: bits, sums, differences, products, comparing (package nat). Conditions: each as it says.
-/
import Derived.Shelf.Small.Bits
import Derived.Test.YtmjimilhomabfaaGreatDoorProg
import Derived.Test.YtmjimilhomabfaaGreatDoorK13
import Derived.Test.YtmjimilhomabfaaGreatDoorRows
import Derived.RangeFuncNested
import Derived.RangeFuncBox
import Derived.RangeFuncBound
import Derived.RangeFuncCalls
import Derived.RangeFuncLeaves
import Derived.Shelf.Abstract
import Derived.Shelf.RegionOpen
import Derived.WalkKit
import Derived.OwnWalkIn
import Derived.TacticsInMore
import Derived.LoopNIn
import Derived.LoopIn
import Derived.Deep.Cut
import Derived.Deep.CutRange
import Derived.Deep.RegionWith
namespace Go.Proofs
open Go.Shelf
def Tryz.lays128_ren:Go.Shelf.Ren:=⟨fun | 128=>150 | n=>n,fun | 51=>95 | 3=>3 | 4=>4 | 46=>36 | 5=>5 | 9=>9 | n=>n,fun | n=>n⟩
theorem Tryz.lays128:Go.Proofs.Lays.n128 Tryz.prog Tryz.lays128_ren:={
 mixed:=by kernel_rfl
 f128:=Tryz.func150.trans (congrArg some (by kernel_rfl))
 t3:=Tryz.underlying3
 a3:=Tryz.isAgg3
 z3:=Tryz.sizeOf3
 v3:=Tryz.zeroValue3
 t4:=Tryz.underlying4
 a4:=Tryz.isAgg4
 z4:=Tryz.sizeOf4
 v4:=Tryz.zeroValue4
 t5:=Tryz.underlying5
 a5:=Tryz.isAgg5
 z5:=Tryz.sizeOf5
 v5:=Tryz.zeroValue5
 t9:=Tryz.underlying9
 a9:=Tryz.isAgg9
 z9:=Tryz.sizeOf9
 v9:=Tryz.zeroValue9
 t46:=Tryz.underlying36
 a46:=Tryz.isAgg36
 z46:=Tryz.sizeOf36
 v46:=Tryz.zeroValue36
 t51:=Tryz.underlying95
 a51:=Tryz.isAgg95
 z51:=Tryz.sizeOf95
 v51:=Tryz.zeroValue95 }
theorem Tryz.bits_Len32 (x:Int) (w:World) (h0:0 ≤ x) (h1:x ≤ 4294967295) :
  Calls Tryz.prog 150 #[.int .u32 x] w fun e w'=>e = .returned (.int .i64 (Lib.bitLen x.toNat)) ∧ w' = w:=Any.bits_Len32 Tryz.lays128 x w h0 h1
def Tryz.lays133_ren:Go.Shelf.Ren:=⟨fun | 133=>147 | 128=>150 | n=>n,fun | 51=>95 | 3=>3 | 4=>4 | 46=>36 | 5=>5 | 9=>9 | n=>n,fun | n=>n⟩
theorem Tryz.lays133:Go.Proofs.Lays.n133 Tryz.prog Tryz.lays133_ren:={
 mixed:=by kernel_rfl
 f128:=Tryz.func150.trans (congrArg some (by kernel_rfl))
 f133:=Tryz.func147.trans (congrArg some (by kernel_rfl))
 t3:=Tryz.underlying3
 a3:=Tryz.isAgg3
 z3:=Tryz.sizeOf3
 v3:=Tryz.zeroValue3
 t4:=Tryz.underlying4
 a4:=Tryz.isAgg4
 z4:=Tryz.sizeOf4
 v4:=Tryz.zeroValue4
 t5:=Tryz.underlying5
 a5:=Tryz.isAgg5
 z5:=Tryz.sizeOf5
 v5:=Tryz.zeroValue5
 t9:=Tryz.underlying9
 a9:=Tryz.isAgg9
 z9:=Tryz.sizeOf9
 v9:=Tryz.zeroValue9
 t46:=Tryz.underlying36
 a46:=Tryz.isAgg36
 z46:=Tryz.sizeOf36
 v46:=Tryz.zeroValue36
 t51:=Tryz.underlying95
 a51:=Tryz.isAgg95
 z51:=Tryz.sizeOf95
 v51:=Tryz.zeroValue95 }
theorem Tryz.bits_LeadingZeros32 (x:Int) (w:World) (h0:0 ≤ x) (h1:x ≤ 4294967295) :
  Calls Tryz.prog 147 #[.int .u32 x] w fun e w'=>e = .returned (.int .i64 (32 - (Lib.bitLen x.toNat:Int))) ∧ w' = w:=Any.bits_LeadingZeros32 Tryz.lays133 x w h0 h1
end Go.Proofs
namespace Go.Proofs.YtmjimilhomabfaaGreatDoor
open Go.RowKit Go.Shelf
set_option linter.unusedVariables false
attribute [local go_sem] Oper.semAt_some
theorem bitLen_bl (x:Nat) (h:x < 4294967296):Lib.bitLen x = bl x:=by
 induction x using Nat.strongRecOn with
 | _ x ih =>
  by_cases h0:x = 0
  ·subst h0;rfl
  ·rw [Lib.bitLen_half x h0 (by omega),bl_half h0,ih (x / 2) (by omega) (by omega),Nat.add_comm]
theorem len32_any (x:Nat) (hx:x < 4294967296) (w:World) :
  Calls Tryz.prog 150 #[.int .u32 (x:Int)] w fun e w'=>e = .returned (.int .i64 (bl x:Nat)) ∧ w = w':=by
 refine (Tryz.bits_Len32 (x:Int) w (by omega) (by omega)).mono ?_
 rintro e w' ⟨rfl,rfl⟩
 rw [Int.toNat_natCast,bitLen_bl x hx]
 exact ⟨rfl,rfl⟩
theorem lz32_any (x:Nat) (hx:x < 4294967296) (w:World) :
  Calls Tryz.prog 147 #[.int .u32 (x:Int)] w fun e w'=>e = .returned (.int .i64 ((32 - bl x:Nat):Int)) ∧ w = w':=by
 refine (Tryz.bits_LeadingZeros32 (x:Int) w (by omega) (by omega)).mono ?_
 rintro e w' ⟨rfl,rfl⟩
 rw [Int.toNat_natCast,bitLen_bl x hx]
 have:=(bl_le x 32).2 (by omega)
 exact ⟨by congr 2;omega,rfl⟩
abbrev Al (n:Nat) (V:Nat → Nat → Prop):Type:={ p:Nat × Nat // p.1 < n ∧ p.2 < 4294967296 ∧ V p.1 p.2 }
def desc (n k:Nat):List Nat:=(List.range k).map fun j=>n - 1 - j
theorem desc_succ (n k:Nat):desc n (k + 1) = desc n k ++ [n - 1 - k]:=by simp [desc,List.range_succ]
theorem desc_length (n k:Nat):(desc n k).length = k:=by simp [desc]
def places {n:Nat} {V:Nat → Nat → Prop} (xs:List (Al n V)):List Nat:=xs.map fun x=>x.1.1
theorem places_snoc {n:Nat} {V:Nat → Nat → Prop} (xs:List (Al n V)) (x:Al n V):places (xs ++ [x]) = places xs ++ [x.1.1]:=by unfold places;rw [List.map_append];rfl
def Seen (V:Nat → Nat → Prop) (Bs:Nat) (a:Option Addr) (n cap:Nat) (W:World):Prop :=
 W.cell? ⟨Bs,0,none⟩ = some (.slice a n cap) ∧ ∀ j,j < n → ∃ b off z,a = some ⟨b,off,none⟩ ∧ z < 4294967296 ∧ V j z ∧ W.cell? ⟨b,off + j,none⟩ = some (.int .u32 (z:Int))
set_option maxRecDepth 100000 in
set_option maxHeartbeats 2000000 in
theorem down1_stops (m Bs n cap:Nat) (a:Option Addr) (V:Nat → Nat → Prop) (hn:n ≤ maxLen) (w:World) (hw:∀ W,Below w.heap.size w W → Seen V Bs a n cap W) :
  SeqStopsK Fence.wide m Tryz.prog 159 #[.pointer (some ⟨Bs,0,none⟩)] (fun x:Al n V=>#[Value.int .i64 (x.1.1:Int),Value.int .u32 (x.1.2:Int)]) (fun A B=>Seen V Bs a n cap A → Seen V Bs a n cap B)
   (fun ys=>places ys = desc n n) (fun pre=>∃ k,k ≤ n ∧ places pre = desc n k) n w:=fun l J Jx W hW _ _ hY h0=>by
 have hs:=hw W hW
 have hmx:(n:Int) ≤ 9223372036854775807:=by unfold maxLen at hn;omega
 clear hw hW
 have hc0:=hs.1
 refine callsIn_of_wp Tryz.func159 rfl trivial ?_ rfl
 simp only [Tryz.ntmps159,List.size_toArray,List.length_cons,List.length_nil,Nat.reduceAdd,Nat.reduceSub,Array.replicate_succ,Array.replicate_zero,List.push_toArray,List.append_toArray,List.nil_append,List.cons_append]
 gi_wp2
 clear hc0
 gi_loopw [3] (fun i wr=>∃ (k:Nat) (pre:List (Al n V)),k ≤ n ∧ i = .int .i64 ((n:Int) - 1 - k) ∧ places pre = desc n k ∧ J pre wr ∧ Seen V Bs a n cap wr) (fun i _=>(intOf i + 1).toNat)
 case atStart=>exact ⟨0,[],Nat.zero_le _,by simp,rfl,h0,hs⟩
 case round =>
  obtain ⟨k,pre,hk,rfl,hp,hJ,hS⟩:=hrel
  by_cases hlt:k < n
  ·obtain ⟨b,off,z,rfl,hz,hV,hcell⟩:=hS.2 (n - 1 - k) (by omega)
   have hc1:=hS.1
   have hpl:pre.length = k:=by have:=congrArg List.length hp;simpa [places,desc_length] using this
   obtain ⟨fn,tmps,assign,body,hy,hR⟩:=hY pre ⟨(n - 1 - k,z),by omega,hz,hV⟩ wr hJ (by omega)
   dsimp only at hy
   have e1:((n - 1 - k:Nat):Int) = (n:Int) - 1 - k:=by omega
   rw [e1] at hy
   obtain ⟨q,hq⟩:∃ q:Nat,q = n - 1 - k:=⟨_,rfl⟩
   have e2:(n:Int) - 1 - k = (q:Int):=by omega
   rw [← hq] at hcell
   rw [e2] at hy ⊢
   have hqn:q < n:=by omega
   have HQ:=Away.mk hq
   clear e1 e2 hq
   gi_wp2
   refine ⟨fun h=>by simp [Fence.wide] at h,hR.mono ?_⟩
   rintro e W3 (⟨rfl,hJ3,hk3⟩ | ⟨rfl,hJx3⟩)
   ·have hS3:=hk3 hS
    gi_wp2
    have hq:=HQ.out
    go_roundw
    case rel=>exact ⟨k + 1,_,by omega,by congr 1;omega,by rw [desc_succ,places_snoc,hp],hJ3,hS3⟩
    case measure=>simp [intOf]
   ·gi_wp2
    refine bodyPost_ret (results_none rfl _ _ _) rfl ?_
    have hq:=HQ.out
    exact ⟨⟨_,rfl⟩,.inr ⟨_,⟨k + 1,by omega,by rw [desc_succ,places_snoc,hp]⟩,hJx3⟩⟩
  ·obtain rfl:k = n:=by omega
   have hc1:=hS.1
   have d1:decide ((0:Int) ≤ (k:Int) - 1 - k) = false:=decide_eq_false (by omega)
   gi_wp2
   go_end0
   exact ⟨⟨_,rfl⟩,.inl ⟨_,hp,hJ⟩⟩
theorem down_any (a:Option Addr) (n cap:Nat) (w:World) :
  Calls Tryz.prog 145 #[.slice a n cap] w fun e w'=>e = .returned (.func (.func 159) #[] #[.pointer (some ⟨w.heap.size,0,none⟩)]) ∧ w' = w.alloc (.cells #[.slice a n cap] 68):=by
 have hmf:∀ (fn:Fn) (first cap:Array Value) (w:World),(Instr.makeFunc fn first cap).run Tryz.prog w = .ok (.func fn first cap) w:=fun _ _ _ _=>rfl
 go_enter Tryz.func145,Tryz.ntmps145
 go_wp2
 go_ret
 exact ⟨rfl,rfl⟩
theorem Seen.kept {V:Nat → Nat → Prop} {Bs:Nat} {a:Option Addr} {n cap:Nat} {A B:World} {row:Option Nat} (h:Seen V Bs a n cap A) (hg:A.grownBy B row) (hr:∀ r,row = some r → ∃ o:Obj,A.heap[r]? = some o ∧ o.isCells = false):Seen V Bs a n cap B :=
 ⟨cell_kept h.1 hg hr,fun j hj=>by
  obtain ⟨b,off,z,e,hz,hV,hc⟩:=h.2 j hj
  exact ⟨b,off,z,e,hz,hV,cell_kept hc hg hr⟩⟩
theorem Seen.putObj {V:Nat → Nat → Prop} {Bs:Nat} {a:Option Addr} {n cap:Nat} {W:World} {l:Nat} {o:Obj} (o':Obj) (h:Seen V Bs a n cap W) (hl:W.heap[l]? = some o) (ho:o.isCells = false):Seen V Bs a n cap (W.putObj l o') :=
 h.kept (grownBy_putObj' W l o') (fun r e=>by cases e;exact ⟨o,hl,ho⟩)
theorem Seen.below {V:Nat → Nat → Prop} {Bs:Nat} {a:Option Addr} {n cap B:Nat} {W W':World} (h:Seen V Bs a n cap W) (hb:Below B W W') (h1:Bs < B) (h2:∀ b off,0 < n → a = some ⟨b,off,none⟩ → b < B):Seen V Bs a n cap W' :=
 ⟨(
  hb.cell (p:=⟨Bs,0,none⟩) h1).trans h.1,fun j hj=>by
  obtain ⟨b,off,z,e,hz,hV,hc⟩:=h.2 j hj
  exact ⟨b,off,z,e,hz,hV,(hb.cell (p:=⟨b,off + j,none⟩) (h2 b off (by omega) e)).trans hc⟩⟩
theorem Seen.of {w:World} {a:Option Addr} {n cap:Nat} {xs:List Nat} (h:SlV w (.slice a n cap) (C .u32 xs)) (hn:xs.length = n) (hl:Lo 4294967296 xs) :
  Seen (fun j z=>z = xs.getD j 0) w.heap.size a n cap (w.alloc (.cells #[.slice a n cap] 68)):=by
 refine ⟨(Boxed.new w 68 (.slice a n cap)).cell,fun j hj=>?_⟩
 obtain ⟨b,off,rfl,hb,hc⟩:=h.cells (by rw [C_length];omega)
 exact ⟨b,off,_,rfl,hl.getD (by decide) j,rfl,cell_alloc (hc j _ (C_get _ (by omega))) _⟩
end Go.Proofs.YtmjimilhomabfaaGreatDoor
namespace Go.Proofs.YtmjimilhomabfaaGreatDoor
open Go.RowKit Go.Shelf
set_option linter.unusedVariables false
theorem range_down {g:Operand} {ps:Array Tmp} {assign body:Code} {Q:Exit → Act → World → Prop} {a:Act} {w:World} (w0:World) (Bs n cap:Nat) (ad:Option Addr) (V:Nat → Nat → Prop) (hn:n ≤ maxLen)
  (hg:a.eval g = .func (.func 159) #[] #[.pointer (some ⟨Bs,0,none⟩)]) (hps:ps.size = 2) (hb0:Below w0.heap.size w0 w) (hseen:∀ W,Below w.heap.size w W → Seen V Bs ad n cap W)
  (I Ix:List (Al n V) → World → Prop) (hI:Own I) (hIx:Own Ix) (h0:I [] w) (a₁:Nat → Nat → Act)
  (hassign:∀ (l i z:Nat) (W:World) (K:Act → World → Prop),K (a₁ i z) W →
   assign.wpIn (Fence.wide.inRound l) 1 Tryz.prog (Exit.then K (fun _ _ _=>False)) { tmps:=(ps.zip #[Value.int .i64 (i:Int),Value.int .u32 (z:Int)]).foldl (fun t (p,v)=>t.setIfInBounds p v) a.tmps,defers:=[] } W)
  (hbody:∀ (l:Nat) (pre:List (Al n V)) (x:Al n V) (i z:Nat) (W:World) (R:Exit → Act → World → Prop),Away (x.1.1 = i ∧ x.1.2 = z) → i < n → z < 4294967296 → Away (V i z) → I pre W → Below w0.heap.size w0 W →
   Away (∀ a' W',KeepsOthers W W' → (Seen V Bs ad n cap W → Seen V Bs ad n cap W') → I (pre ++ [x]) W' → Below w0.heap.size w0 W' → R .normal a' W') →
   Away (∀ a' W',KeepsOthers W W' → Ix (pre ++ [x]) W' → Below w0.heap.size w0 W' → R .ret a' W') → body.wpIn (Fence.wide.inRound l) 1 Tryz.prog R (a₁ i z) W)
  (hdone:∀ (D:Nat) (xs:List (Al n V)) (W:World),w.heap.size ≤ D → places xs = desc n n → I xs W → Below w0.heap.size w0 W → W.heap[D]? = some (.deferred (some [])) → Q .normal { a with defers:={ target:=.collected D,args:=#[] } :: a.defers } W)
  (hstop:∀ (D k:Nat) (pre:List (Al n V)) (W:World),w.heap.size ≤ D → k ≤ n → places pre = desc n k → Ix pre W → Below w0.heap.size w0 W → W.heap[D]? = some (.deferred (some [])) → Code.ret.wp Tryz.prog Q { a with defers:={ target:=.collected D,args:=#[] } :: a.defers } W) :
  (Code.rangeFunc g ps assign body).wp Tryz.prog Q a w:=by
 refine (wpIn_wide (n:=3)).1 ?_
 refine wpIn_rangeFunc_ownF (α:=Al n V) (Kp:=fun A B=>Seen V Bs ad n cap A → Seen V Bs ad n cap B) rfl (by decide) hg trivial (enters_of Tryz.func159 (by kernel_rfl) rfl)
  (down1_stops 2 Bs n cap ad V hn w hseen) (fun h k hs=>k (h hs)) (fun W l o o' _ hl ho _ hs=>hs.putObj o' hl ho) (Below.refl _ _) (fun _=>hps.symm)
  (fun pre W=>I pre W ∧ Below w0.heap.size w0 W)
  (fun c pre W=>(c = .ret ∧ Ix pre W) ∧ Below w0.heap.size w0 W)
  (OwnFrom.and (hI.from _) (ownFrom_below (Nat.le_refl _) hb0.size))
  (fun c=>OwnFrom.and (Own.from (fun s A B row hs hg hr=>⟨hs.1,hIx s A B row hs.2 hg hr⟩) _) (ownFrom_below (Nat.le_refl _) hb0.size))
  ⟨h0,hb0⟩ (fun x=>a₁ x.1.1 x.1.2) (fun l x=>hassign l x.1.1 x.1.2) ?body (fun D xs W hD hS hi hK=>hdone D xs W hD hS hi.1 hi.2 hK) ?stop
 case body =>
  rintro l pre x W ⟨hi,hb⟩ _
  exact hbody l pre x _ _ W _ ⟨rfl,rfl⟩ x.2.1 x.2.2.1 ⟨x.2.2.2⟩ hi hb ⟨fun a' W' h1 h2 h3 h4=>⟨h1,h2,h3,h4⟩⟩ ⟨fun a' W' h1 h2 h3=>⟨h1,⟨rfl,h2⟩,h3⟩⟩
 case stop =>
  rintro D c pre W hD ⟨k,hk,hp⟩ ⟨⟨rfl,hx⟩,hb⟩ hK
  exact wpIn_wide.2 (hstop D k pre W hD hk hp hx hb hK)
theorem below_shut {w0 w W:World} {D:Nat} (hB:Below w0.heap.size w0 W) (hD:w0.heap.size ≤ D) (hK:W.heap[D]? = some (.deferred (some []))):Below w0.heap.size w0 (W.putObj D (.deferred none)) :=
 hB.trans (belowK_b (w:=w0) (Nat.le_refl _) W D _ _ hD hK rfl rfl)
attribute [local go_sem] Oper.semAt_some
theorem mem_desc {n j:Nat} (h:j < n):j ∈ desc n n:=by
 simp only [desc,List.mem_map,List.mem_range];exact ⟨n - 1 - j,by omega,by omega⟩
theorem all_zero {xs:List Nat} {n:Nat} (hn:xs.length = n) (ys:List (Al n fun j z=>z = xs.getD j 0)) (hp:places ys = desc n n) (h:∀ p ∈ ys,p.1.2 = 0):∀ j,xs.getD j 0 = 0:=by
 intro j
 by_cases hj:j < n
 ·have:=mem_desc hj
  rw [← hp] at this
  obtain ⟨p,hp1,hp2⟩:=List.mem_map.1 this
  have h2:=p.2.2.2
  rw [h p hp1,hp2] at h2
  exact h2.symm
 ·exact getD_past (by omega)
theorem last_place {n k:Nat} {V:Nat → Nat → Prop} {ini:List (Al n V)} {x:Al n V} (h:places (ini ++ [x]) = desc n k):∃ k',k = k' + 1 ∧ places ini = desc n k' ∧ x.1.1 = n - 1 - k':=by
 rw [places_snoc] at h
 cases k with
 | zero=>simp [desc] at h
 | succ k =>
  rw [desc_succ] at h
  obtain ⟨h1,h2⟩:=List.append_inj' h rfl
  exact ⟨k,rfl,h1,by simpa using h2⟩
theorem above_zero {xs:List Nat} {n k:Nat} (hn:xs.length = n) (hk:k ≤ n) (ys:List (Al n fun j z=>z = xs.getD j 0)) (hp:places ys = desc n k) (h:∀ p ∈ ys,p.1.2 = 0):∀ j,n - 1 - k < j → xs.getD j 0 = 0:=by
 intro j hj
 by_cases hjn:j < n
 ·have:j ∈ desc n k:=by simp only [desc,List.mem_map,List.mem_range];exact ⟨n - 1 - j,by omega,by omega⟩
  rw [← hp] at this
  obtain ⟨p,hp1,hp2⟩:=List.mem_map.1 this
  have h2:=p.2.2.2
  rw [h p hp1,hp2] at h2
  exact h2.symm
 ·exact getD_past (by omega)
theorem bl_top {xs:List Nat} {i:Nat} (hl:Lo W32 xs) (h0:xs.getD i 0 ≠ 0) (hz:∀ j,i < j → xs.getD j 0 = 0):bl (val W32 xs) = i * 32 + bl (xs.getD i 0):=by
 rw [val_split xs i,val_drop_zero (fun j hj=>hz j (by omega)),Nat.mul_zero,Nat.add_zero,pow32,bl_add ?_ h0]
 ·omega
 ·have:=val_take_lt (B:=W32) (by decide) hl i
  rwa [pow32] at this
set_option maxRecDepth 100000 in
set_option maxHeartbeats 2000000 in
theorem bits_any (v:Value) (xs:List Nat) (w:World) (hs:SlV w v (C .u32 xs)) (hl:Lo W32 xs) (hm:xs.length ≤ 1000000) :
  Calls Tryz.prog 125 #[v] w fun e w'=>e = .returned (.int .i64 (bl (val W32 xs):Nat)) ∧ Below w.heap.size w w':=by
 obtain ⟨a,cap,hv,hcl,hcm⟩:=hs.shape
 rw [C_length] at hv hcl
 subst hv
 obtain ⟨n,hn⟩:∃ n,xs.length = n:=⟨_,rfl⟩
 rw [hn] at hs hcl hm ⊢
 refine (callsIn_wide (n:=3)).1 ?_
 refine callsIn_of_wp_marks Tryz.func125 rfl trivial ?_ rfl
 refine wpIn_wide.2 ?_
 simp only [Tryz.ntmps125,List.size_toArray,List.length_cons,List.length_nil,Nat.reduceAdd,Nat.reduceSub,Array.replicate_succ,Array.replicate_zero,List.push_toArray,List.append_toArray,List.nil_append,List.cons_append]
 go_wp2_with fail
 refine (down_any _ _ _ _).mono ?_
 rintro _ w' ⟨rfl,rfl⟩
 go_wp2
 have bR:=Boxed.new w 3 (.int .i64 0)
 have hB0:Below w.heap.size w (w.alloc (.cells #[.int .i64 0] 3)):=(Below.refl _ w).alloc (Nat.le_refl _) _
 have hS:=Seen.of (hs.below hB0) hn hl
 have hB1:Below w.heap.size w ((w.alloc (.cells #[.int .i64 0] 3)).alloc (.cells #[.slice a n cap] 68)):=hB0.alloc (by simp) _
 rw [World.size_alloc] at hS
 refine range_down w (w.heap.size + 1) n cap a (fun j z=>z = xs.getD j 0) (by omega) rfl rfl hB1
  (fun W hW=>hS.below hW (by simp) (fun b off hp e=>by subst e;obtain ⟨b',off',e',hb',_⟩:=hs.cells (by rw [C_length];omega);cases e';simp;omega))
  (fun pre W=>(∀ p ∈ pre,p.1.2 = 0) ∧ W.cell? ⟨w.heap.size,0,none⟩ = some (.int .i64 0) ∧ W.frozen? ⟨w.heap.size,0,none⟩ = false)
  (fun pre W=>∃ ini last,pre = ini ++ [last] ∧ (∀ p ∈ ini,p.1.2 = 0) ∧ last.1.2 ≠ 0 ∧ W.cell? ⟨w.heap.size,0,none⟩ = some (.int .i64 ((last.1.1 * 32 + bl last.1.2:Nat):Int)))
  (fun s A B row hs hg hr=>⟨hs.1,cell_kept hs.2.1 hg hr,(frozen_kept hs.2.1 hg hr).trans hs.2.2⟩)
  (fun s A B row hs hg hr=>by obtain ⟨ini,last,e1,e2,e3,e4⟩:=hs;exact ⟨ini,last,e1,e2,e3,cell_kept e4 hg hr⟩)
  ⟨by simp,(bR.alloc _).cell,(bR.alloc _).frozen⟩
  (fun i z=>{ tmps:=#[.slice a n cap,undef,.pointer (some ⟨w.heap.size,0,none⟩),.int .i64 (i:Int),.int .u32 (z:Int),.slice a n cap,.func (.func 159) #[] #[.pointer (some ⟨w.heap.size + 1,0,none⟩)],.int .i64 (i:Int),.int .u32 (z:Int),undef,undef,undef,undef,undef,undef,undef],defers:=[] }) ?assign ?body ?done ?stop
 case assign =>
  intro l i z W K hK
  gi_wp2
  exact hK
 case body =>
  rintro l pre x i z W R HX hi hz HV ⟨hp,hcr,hfr⟩ hB HN HR
  clear hS bR hB0 hB1 hs
  have HP:=Away.mk hp
  clear hp
  by_cases h0:z = 0
  ·subst h0
   gi_wp2
   exact HN.out _ _ (KeepsOthers.refl _) (fun h=>h) ⟨fun p hp'=>(List.mem_append.1 hp').elim (HP.out p) (fun e=>by rw [List.mem_singleton.1 e];exact HX.out.2),hcr,hfr⟩ hB
  ·have d0:((z:Int) != 0) = true:=by simpa using h0
   have hlb:=(bl_le z 32).2 (by omega)
   gi_wp2_with fail
   refine ⟨trivial,CallsIn.inRound l (callsIn_wide.2 ((len32_any z hz W).mono ?_))⟩
   rintro _ w' ⟨rfl,rfl⟩
   gi_wp2
   refine HR.out _ _ (KeepsOthers.setCell _ _ _) ⟨pre,x,rfl,HP.out,?_,?_⟩ (hB.setCell (p:=⟨w.heap.size,0,none⟩) (Nat.le_refl _) _)
   ·rw [HX.out.2];exact h0
   ·rw [HX.out.1,HX.out.2];exact World.cell?_setCell_same' _ _ _ (by rw [hcr];rfl)
 case done =>
  rintro D ys W hD hp ⟨h0,hcr,hfr⟩ hB hK
  go_wp2
  have hK':=(KeepsOthers.setCell W ⟨w.heap.size,0,none⟩ (.int .i64 0)).same D _ hK rfl
  refine ⟨by simp,.inl ⟨_,_,rfl,run_takeDeferred hK',?_⟩⟩
  have hc5:=cell_kept (World.cell?_setCell_same' W ⟨w.heap.size,0,none⟩ (.int .i64 0) (by rw [hcr];rfl)) (grownBy_putObj' _ D (.deferred none)) (fun r e=>by cases e;exact ⟨_,hK',rfl⟩)
  have hz:=val_drop_zero (B:=W32) (i:=0) (fun j _=>all_zero hn ys hp h0 j)
  rw [List.drop_zero] at hz
  refine ⟨.int .i64 0,?_,by rw [hz];rfl,below_shut (w:=w) (hB.setCell (p:=⟨w.heap.size,0,none⟩) (Nat.le_refl _) _) (by simp at hD;omega) hK'⟩
  simp [results,Tryz.f125,go_sem,hc5]
 case stop =>
  rintro D k pre W hD hk hp ⟨ini,last,rfl,h0,h1,hcr⟩ hB hK
  go_wp2
  refine ⟨by simp,.inl ⟨_,_,rfl,run_takeDeferred hK,?_⟩⟩
  have hc5:=cell_kept hcr (grownBy_putObj' _ D (.deferred none)) (fun r e=>by cases e;exact ⟨_,hK,rfl⟩)
  obtain ⟨k',rfl,hp',hi⟩:=last_place hp
  have hV:=last.2.2.2
  have hz:=above_zero hn (by omega) ini hp' h0
  rw [← hi] at hz
  rw [hV] at h1 hc5
  refine ⟨_,?_,by rw [bl_top hl h1 hz],below_shut (w:=w) hB (by simp at hD;omega) hK⟩
  simp [results,Tryz.f125,go_sem,hc5]
theorem trimmed_any (v:Value) (xs:List Nat) (w:World) (hs:SlV w v (C .u32 xs)) (hl:Lo W32 xs) (hm:xs.length ≤ 1000000) :
  Calls Tryz.prog 98 #[v] w fun e w'=>∃ a n cap k,v = .slice a n cap ∧ k ≤ n ∧ xs.length = n ∧ e = .returned (.slice a k k) ∧ Is W32 (val W32 xs) (xs.take k) ∧ Below w.heap.size w w':=by
 obtain ⟨a,cap,hv,hcl,hcm⟩:=hs.shape
 rw [C_length] at hv hcl
 subst hv
 obtain ⟨n,hn⟩:∃ n,xs.length = n:=⟨_,rfl⟩
 rw [hn] at hs hcl hm ⊢
 obtain ⟨hw1,hw2⟩:=Is.words hl
 have hbb:bl (val W32 xs) ≤ 32 * n:=by have:=(bl_le (val W32 xs) (32 * n)).2 (by have:=val_lt (B:=W32) (by decide) hl;rw [pow32,hn] at this;exact this);exact this
 have HB:=Away.mk (bits_any _ xs w hs hl (by omega))
 have HW:=Away.mk hw2
 clear hw2 hs
 generalize hL:bl (val W32 xs) = L at *
 obtain ⟨k,hk⟩:∃ k,(L + 31) / 32 = k:=⟨_,rfl⟩
 rw [hk] at hw1 HW
 have HK:=Away.mk hk
 have hkn:k ≤ n:=by omega
 have e1:((L:Int) + 31) / 32 = (k:Int):=by omega
 clear hk hL hw1
 go_enter Tryz.func98,Tryz.ntmps98
 go_wp2_with fail
 refine HB.out.mono ?_
 rintro _ w' ⟨rfl,hb⟩
 go_wp2
 go_ret
 have hk:=HK.out
 rw [show (L + 32 - 1) / 32 = k by omega]
 exact ⟨a,n,cap,k,rfl,hkn,rfl,rfl,HW.out,hb⟩
theorem SlV.cap {w:World} {a:Option Addr} {n cap:Nat} {xs:List Value} (h:SlV w (.slice a n cap) xs) (k:Nat) (hk:k ≤ n):SlV w (.slice a k k) (xs.take k):=by
 obtain ⟨a',c',e,q1,q2,q3,q4⟩:=h
 simp only [Value.slice.injEq] at e
 obtain ⟨rfl,rfl,rfl⟩:=e
 have hl:(xs.take k).length = k:=by rw [List.length_take];omega
 refine ⟨a,k,by rw [hl],by omega,by omega,fun e=>by have:=q3 e;omega,fun hp=>?_⟩
 obtain ⟨b,off,rfl,q5⟩:=q4 (by omega)
 refine ⟨b,off,rfl,fun i u hu=>q5 i u ?_⟩
 rw [List.getElem?_take] at hu
 split at hu
 ·exact hu
 ·cases hu
def Ans (B:Nat) (w:World) (v:Value) (N:Nat):Prop :=
 ∃ zs,Is W32 N zs ∧ SlV w v (C .u32 zs) ∧ (0 < zs.length → ∃ g rest,v = .slice (some ⟨g,0,none⟩) zs.length zs.length ∧ B ≤ g ∧ Row w g 95 (C .u32 zs ++ rest))
theorem Ans.below {B B':Nat} {w w':World} {v:Value} {N:Nat} (h:Ans B w v N) (hb:Below w.heap.size w w'):Ans B w' v N:=by
 obtain ⟨zs,h1,h2,h3⟩:=h
 refine ⟨zs,h1,h2.below hb,fun hp=>?_⟩
 obtain ⟨g,rest,e,hg,hr⟩:=h3 hp
 exact ⟨g,rest,e,hg,hr.belowS hb⟩
theorem Ans.nil (B:Nat) (w:World):Ans B w (.slice none 0 0) 0:=⟨[],Is.nil,SlV.nil w,fun h=>by simp at h⟩
theorem Ans.base {B B':Nat} {w:World} {v:Value} {N:Nat} (h:Ans B w v N) (hb:B' ≤ B):Ans B' w v N:=by
 obtain ⟨zs,h1,h2,h3⟩:=h
 refine ⟨zs,h1,h2,fun hp=>?_⟩
 obtain ⟨g,rest,e,hg,hr⟩:=h3 hp
 exact ⟨g,rest,e,by omega,hr⟩
theorem trimmed_read (v:Value) (xs:List Nat) (w:World) (hs:SlV w v (C .u32 xs)) (hl:Lo W32 xs) (hm:xs.length ≤ 1000000) :
  Calls Tryz.prog 98 #[v] w fun e w'=>∃ v' zs,e = .returned v' ∧ Is W32 (val W32 xs) zs ∧ zs.length ≤ xs.length ∧ SlV w' v' (C .u32 zs) ∧ Below w.heap.size w w':=by
 refine (trimmed_any v xs w hs hl hm).mono ?_
 rintro _ w' ⟨a,n,cap,k,rfl,hk,hn,rfl,hI,hb⟩
 refine ⟨_,_,rfl,hI,by rw [List.length_take];omega,?_,hb⟩
 rw [C_take]
 exact (hs.below hb).cap k hk
theorem trimmed_new (B g:Nat) (xs:List Nat) (w:World) (hr:Row w g 95 (C .u32 xs)) (hg:B ≤ g) (hl:Lo W32 xs) (hm:xs.length ≤ 1000000) :
  Calls Tryz.prog 98 #[.slice (some ⟨g,0,none⟩) xs.length xs.length] w fun e w'=>∃ v',e = .returned v' ∧ Ans B w' v' (val W32 xs) ∧ Below w.heap.size w w':=by
 have hs:=hr.slAll (by rw [C_length];unfold maxLen;omega)
 rw [C_length] at hs
 refine (trimmed_any _ xs w hs hl hm).mono ?_
 rintro _ w' ⟨a,n,cap,k,hv,hk,hn,rfl,hI,hb⟩
 simp only [Value.slice.injEq] at hv
 obtain ⟨rfl,rfl,rfl⟩:=hv
 have hkl:(xs.take k).length = k:=by rw [List.length_take];omega
 refine ⟨_,rfl,⟨xs.take k,hI,?_,fun _=>⟨g,C .u32 (xs.drop k),by rw [hkl],hg,?_⟩⟩,hb⟩
 ·rw [C_take];exact (hs.below hb).cap k hk
 ·rw [← C_append,List.take_append_drop];exact hr.belowS hb
end Go.Proofs.YtmjimilhomabfaaGreatDoor
namespace Go.Proofs.YtmjimilhomabfaaGreatDoor
set_option linter.unusedVariables false
section
variable {B:Nat}
theorem val_take_set {xs:List Nat} {k:Nat} (hk:k < xs.length) (z:Nat):val B ((xs.set k z).take (k + 1)) = val B (xs.take k) + B ^ k * z:=by
 rw [val_take_succ,List.take_set_of_le (Nat.le_refl _)]
 simp [List.getD,hk]
theorem drop_set_succ (xs:List Nat) (k z:Nat):(xs.set k z).drop (k + 1) = xs.drop (k + 1):=List.drop_set_of_lt (by omega)
theorem drop_succ_of {xs ys:List Nat} {k:Nat} (h:xs.drop k = ys.drop k):xs.drop (k + 1) = ys.drop (k + 1):=by
 have:=congrArg (List.drop 1) h
 simpa [List.drop_drop] using this
theorem getD_of_drop {xs ys:List Nat} {k:Nat} (h:xs.drop k = ys.drop k):xs.getD k 0 = ys.getD k 0:=by
 have:=congrArg (fun l=>l.getD 0 0) h
 simpa only [getD_drop,Nat.add_zero] using this
theorem add_step (P A X M y x t c s:Nat) (h:A + P * c = M + y * X) (hs:s = c + (x * y + t)):A + P * (s % B) + P * B * (s / B) = (M + P * t) + y * (X + P * x):=by
 have h1:=Nat.mod_add_div s B
 generalize s % B = r at *
 generalize s / B = q at *
 grind
theorem carry_step (P A M Y t c s:Nat) (h:A + P * c = M + Y) (hs:s = c + t):A + P * (s % B) + P * B * (s / B) = (M + P * t) + Y:=by
 have h1:=Nat.mod_add_div s B
 generalize s % B = r at *
 generalize s / B = q at *
 grind
theorem take_step (P A X M y x f f' c c' n:Nat) (h:A + y * X = M + P * c) (hn:n = c + x * y) (hf:f' + n = f + B * c'):(A + P * f') + y * (X + P * x) = (M + P * f) + P * B * c':=by
 grind
theorem borrow_step (P A M Y f f' c c':Nat) (h:A + Y = M + P * c) (hf:f' + c = f + B * c'):(A + P * f') + Y = (M + P * f) + P * B * c':=by
 grind
theorem val_whole {xs ys:List Nat} {k:Nat} (h:xs.drop k = ys.drop k) (hk:k ≤ xs.length) (hl:xs.length = ys.length):val B xs + val B (ys.take k) = val B ys + val B (xs.take k):=by
 rw [val_take_drop xs k hk,val_take_drop ys k (by omega),h];omega
theorem mid_step {pre mid mid':List Nat} {k r c S:Nat} (hp:pre.length = k) (h:val B mid' + B ^ r * c = val B mid + S):val B (pre ++ mid') + B ^ (k + r) * c = val B (pre ++ mid) + B ^ k * S:=by
 rw [val_append,val_append,hp,Nat.pow_add]
 generalize B ^ k = P at *
 generalize B ^ r = R at *
 grind
theorem no_carry {P V S c:Nat} (h:V + P * c = S) (hs:S < P):V = S:=by
 have:c = 0:=by
  apply Nat.eq_zero_of_not_pos
  intro hc
  have h3:P * 1 ≤ P * c:=Nat.mul_le_mul_left _ hc
  omega
 subst this;omega
theorem sum_fits (hB:1 < B) {X Y m:Nat} (hx:X < B ^ m) (hy:Y < B ^ m):X + Y < B ^ (m + 1):=by
 rw [Nat.pow_succ]
 have:B ^ m * 2 ≤ B ^ m * B:=Nat.mul_le_mul_left _ hB
 omega
theorem mul_fits {X Y m n:Nat} (hx:X < B ^ m) (hy:Y < B ^ n):X * Y < B ^ (m + n):=by
 rw [Nat.pow_add]
 exact Nat.mul_lt_mul'' hx hy
theorem no_borrow {P V S Y c:Nat} (h:V + Y = S + P * c) (hv:V < P) (hy:Y ≤ S):c = 0 ∧ V = S - Y:=by
 have:c = 0:=by
  apply Nat.eq_zero_of_not_pos
  intro hc
  have h3:P * 1 ≤ P * c:=Nat.mul_le_mul_left _ hc
  omega
 subst this;omega
theorem Is.val_lt {n m:Nat} {zs:List Nat} (hB:1 < B) (h:Is B n zs) (hm:zs.length ≤ m):n < B ^ m:=(h.len hB m).1 hm
end
open Go.RowKit
theorem set_mid {α:Type} (pre mid post:List α) (k:Nat) (hk:k < mid.length) (z:α):(pre ++ (mid ++ post)).set (pre.length + k) z = pre ++ (mid.set k z ++ post):=by
 rw [List.set_append_right _ _ (by omega),Nat.add_sub_cancel_left,List.set_append_left _ _ hk]
theorem get_mid {α:Type} (pre mid post:List α) (k:Nat) (hk:k < mid.length):(pre ++ (mid ++ post))[pre.length + k]? = mid[k]?:=by
 rw [List.getElem?_append_right (by omega),Nat.add_sub_cancel_left,List.getElem?_append_left hk]
def Wnd (w:World) (g off:Nat) (pre mid post:List Nat):Prop:=Row w g 95 (C .u32 (pre ++ (mid ++ post))) ∧ pre.length = off
theorem Wnd.cell {w:World} {g off:Nat} {pre mid post:List Nat} (h:Wnd w g off pre mid post) {k:Nat} (hk:k < mid.length):w.cell? ⟨g,off + k,none⟩ = some (.int .u32 (mid.getD k 0:Nat)):=by
 rw [h.1.cell,← h.2]
 have:=get_mid pre mid post k hk
 simp only [C,List.getElem?_map,this,List.getElem?_eq_getElem hk,List.getD]
 rfl
theorem Wnd.set {w:World} {g off:Nat} {pre mid post:List Nat} (h:Wnd w g off pre mid post) {k:Nat} (hk:k < mid.length) (z:Nat):Wnd (w.setCell ⟨g,off + k,none⟩ (.int .u32 (z:Int))) g off pre (mid.set k z) post:=by
 refine ⟨?_,h.2⟩
 have:=h.1.set (off + k) (.int .u32 (z:Int))
 rwa [← C_set,← h.2,set_mid _ _ _ _ hk,h.2] at this
theorem Wnd.frozen {w:World} {g off:Nat} {pre mid post:List Nat} (h:Wnd w g off pre mid post) (k:Nat):w.frozen? ⟨g,k,none⟩ = false:=h.1.frozen k
theorem wrapU (x:Int):IntKind.u64.wrap x = x % 18446744073709551616:=by simp [IntKind.wrap,IntKind.signed,IntKind.bits]
theorem mul_bound {x y:Nat} (hx:x < 4294967296) (hy:y < 4294967296):x * y ≤ 18446744065119617025:=by
 have:=Nat.mul_le_mul (Nat.le_of_lt_succ (by omega:x < 4294967295 + 1)) (Nat.le_of_lt_succ (by omega:y < 4294967295 + 1))
 omega
theorem takeWord_any (g off m cap k n f:Nat) (w:World) (hk:k < m) (hm:m ≤ 1000000) (hc:m ≤ cap) (hn:n < 18446744073709551616) (hf:f < 4294967296)
  (hcell:w.cell? ⟨g,off + k,none⟩ = some (.int .u32 (f:Int))) (hfr:w.frozen? ⟨g,off + k,none⟩ = false) :
  Calls Tryz.prog 169 #[.slice (some ⟨g,off,none⟩) m cap,.int .i64 (k:Int),.int .u64 (n:Int)] w fun e w'=>∃ f' c:Nat,e = .returned (.int .u64 (c:Int)) ∧ f' < 4294967296 ∧ f' + n = f + 4294967296 * c ∧ w' = w.setCell ⟨g,off + k,none⟩ (.int .u32 (f':Int)):=by
 go_enter Tryz.func169,Tryz.ntmps169
 go_wp2
 go_ret
 simp only [wrapU]
 obtain ⟨x,hx⟩:∃ x:Nat,(x:Int) = ((f:Int) - (n:Int) % 4294967296) % 18446744073709551616:=⟨_,Int.toNat_of_nonneg (Int.emod_nonneg _ (by decide))⟩
 rw [← hx]
 refine ⟨x % 4294967296,n / 4294967296 + x / 9223372036854775808,?_,by omega,by omega,?_⟩
 ·refine ret_int ?_
  rw [Int.natCast_add,Int.natCast_ediv,Int.natCast_ediv]
  omega
 ·rw [Int.natCast_emod];rfl
set_option maxHeartbeats 1000000 in
theorem addTimes_any (g off m cap y:Nat) (v:Value) (pre mid post xs:List Nat) (w:World) (hW:Wnd w g off pre mid post) (hml:mid.length = m) (hlo:Lo W32 mid) (hm:m ≤ 1000000) (hcap:m ≤ cap) (hcm:cap ≤ maxLen)
  (hs:SlV w v (C .u32 xs)) (hxl:Lo W32 xs) (hx:xs.length ≤ m) (hne:0 < xs.length → ∀ b,v.ownBlock = some b → b ≠ g) (hy:y < 4294967296) :
  Calls Tryz.prog 101 #[.slice (some ⟨g,off,none⟩) m cap,v,.int .u32 (y:Int)] w fun e w'=>∃ (mid':List Nat) (c:Nat),(∃ u,e = .returned u) ∧ Wnd w' g off pre mid' post ∧ mid'.length = m ∧ Lo W32 mid' ∧ val W32 mid' + W32 ^ m * c = val W32 mid + y * val W32 xs ∧ w.grownBy w' (some g):=by
 obtain ⟨a,xc,hv,hxc,hxm⟩:=hs.shape
 rw [C_length] at hv hxc
 subst hv
 obtain ⟨n,hn⟩:∃ n,xs.length = n:=⟨_,rfl⟩
 rw [hn] at hs hx hxc hne ⊢
 go_enter Tryz.func101,Tryz.ntmps101
 go_wp2
 go_loopw [6,12] (fun cv iv wr=>∃ (k c:Nat) (mid':List Nat),k ≤ n ∧ iv = .int .i64 (k:Int) ∧ cv = .int .u64 (c:Int) ∧ c < 4294967296 ∧ mid'.length = m ∧ Lo W32 mid' ∧ mid'.drop k = mid.drop k ∧
   val W32 (mid'.take k) + W32 ^ k * c = val W32 (mid.take k) + y * val W32 (xs.take k) ∧ Wnd wr g off pre mid' post ∧ w.grownBy wr (some g)) (fun _ i _=>n - (intOf i).toNat)
 case atStart=>exact ⟨0,0,mid,Nat.zero_le _,rfl,rfl,by decide,hml,hlo,rfl,by simp [val],hW,grown_refl _ _⟩
 case round =>
  obtain ⟨k,c,mid',hk,rfl,rfl,hc,hl',hlo',hdrop,hval,hW',hg'⟩:=hrel
  by_cases hlt:k < n
  ·obtain ⟨b,xo,rfl,hb,hcx⟩:=(hs.grown hg' (fun b e h=>hne (by omega) b e (by cases h;rfl))).cells (by rw [C_length];omega)
   have hck:=hcx k _ (C_get _ (by omega))
   have hct:=hW'.cell (k:=k) (by omega)
   have hfr:=hW'.frozen (off + k)
   have hxb:xs.getD k 0 < 4294967296:=hxl.getD (by decide) k
   have htb:mid'.getD k 0 < 4294967296:=hlo'.getD (by decide) k
   have hvs:=val_take_succ (B:=W32) xs k
   have hvm:=val_take_succ (B:=W32) mid k
   have hmk:mid.getD k 0 = mid'.getD k 0:=by
    have:=congrArg (fun l=>l.getD 0 0) hdrop
    simp only [getD_drop,Nat.add_zero] at this
    exact this.symm
   rw [hmk] at hvm
   generalize xs.getD k 0 = x at *
   generalize ht:mid'.getD k 0 = t at *
   have hpb:=mul_bound hxb hy
   have hpe:(x:Int) * (y:Int) = ((x * y:Nat):Int):=by simp
   have HM:=Away.mk (show Away (x * y = x * y) from ⟨rfl⟩)
   obtain ⟨p,hp⟩:∃ p,x * y = p:=⟨_,rfl⟩
   rw [hp] at hpb hpe
   have HP:=Away.mk hp
   have H1:=Away.mk hval;have H2:=Away.mk hvs;have H3:=Away.mk hvm;have H4:=Away.mk hdrop;have H5:=Away.mk ht;have H6:=Away.mk hmk
   clear hp hcx hs hval hvs hvm hdrop ht hmk HM hne hW
   go_wp2
   go_roundw
   case rel =>
    have hp:=HP.out
    refine ⟨k + 1,(c + (p + t)) / 4294967296,mid'.set k ((c + (p + t)) % 4294967296),by omega,by go_num,by simp,by omega,by simp [hl'],hlo'.set _ _ (Nat.mod_lt _ (by decide)),?_,?_,?_,grown_tr hg' (grown_set _ _ _ _)⟩
    ·rw [drop_set_succ];exact drop_succ_of H4.out
    ·rw [val_take_set (by omega),H2.out,H3.out,Nat.pow_succ]
     exact add_step _ _ _ _ _ _ _ _ _ H1.out (by rw [hp])
    ·have:=hW'.set (k:=k) (by omega) ((c + (p + t)) % 4294967296)
     simpa using this
   case measure=>simp [intOf];omega
  ·obtain rfl:k = n:=by omega
   rw [List.take_of_length_le (by omega:xs.length ≤ k)] at hval
   clear hs hW
   have HD:=Away.mk hdrop;have HV:=Away.mk hval
   clear hdrop hval
   go_wp2
   go_loopw [6,9] (fun cv iv wr=>∃ (i c:Nat) (mid':List Nat),i ≤ m ∧ iv = .int .i64 (i:Int) ∧ cv = .int .u64 (c:Int) ∧ c < 4294967296 ∧ mid'.length = m ∧ Lo W32 mid' ∧ mid'.drop i = mid.drop i ∧
     val W32 (mid'.take i) + W32 ^ i * c = val W32 (mid.take i) + y * val W32 xs ∧ Wnd wr g off pre mid' post ∧ w.grownBy wr (some g)) (fun _ i _=>m - (intOf i).toNat)
   case atStart=>exact ⟨k,c,mid',by omega,rfl,rfl,hc,hl',hlo',HD.out,HV.out,hW',hg'⟩
   case round =>
    clear HD HV hW' hg' hl' hlo' hc
    obtain ⟨i,c,mid',hi,rfl,rfl,hc,hl',hlo',hdrop,hval,hW',hg'⟩:=hrel
    by_cases hlt:i < m
    ·by_cases hc0:0 < c
     ·have hct:=hW'.cell (k:=i) (by omega)
      have hfr:=hW'.frozen (off + i)
      have htb:mid'.getD i 0 < 4294967296:=hlo'.getD (by decide) i
      have hvm:=val_take_succ (B:=W32) mid i
      rw [← getD_of_drop hdrop] at hvm
      generalize ht:mid'.getD i 0 = t at *
      have H1:=Away.mk hval;have H3:=Away.mk hvm;have H4:=Away.mk hdrop;have H5:=Away.mk ht
      clear hval hvm hdrop ht hne
      go_wp2
      go_roundw
      case rel =>
       refine ⟨i + 1,(c + t) / 4294967296,mid'.set i ((c + t) % 4294967296),by omega,by go_num,by simp,by omega,by simp [hl'],hlo'.set _ _ (Nat.mod_lt _ (by decide)),?_,?_,?_,grown_tr hg' (grown_set _ _ _ _)⟩
       ·rw [drop_set_succ];exact drop_succ_of H4.out
       ·rw [val_take_set (by omega),H3.out,Nat.pow_succ]
        exact carry_step _ _ _ _ _ _ _ H1.out rfl
       ·have:=hW'.set (k:=i) (by omega) ((c + t) % 4294967296)
        simpa using this
      case measure=>simp [intOf];omega
     ·obtain rfl:c = 0:=by omega
      have hw:=val_whole (B:=W32) hdrop (by omega) (by omega)
      have HV:=Away.mk hval;have HW:=Away.mk hw
      clear hval hw hdrop hne
      go_wp2
      go_end0
      have h1:=HV.out;have h2:=HW.out
      exact ⟨mid',0,⟨_,rfl⟩,hW',hl',hlo',by omega,hg'⟩
    ·obtain rfl:i = m:=by omega
     rw [List.take_of_length_le (by omega),List.take_of_length_le (by omega)] at hval
     have HV:=Away.mk hval
     clear hval hdrop hne
     go_wp2
     go_end0
     exact ⟨mid',c,⟨_,rfl⟩,hW',hl',hlo',HV.out,hg'⟩
set_option maxHeartbeats 1000000 in
theorem takeTimes_any (g off m cap y:Nat) (v:Value) (pre mid post xs:List Nat) (w:World) (hW:Wnd w g off pre mid post) (hml:mid.length = m) (hlo:Lo W32 mid) (hm:m ≤ 1000000) (hcap:m ≤ cap) (hcm:cap ≤ maxLen)
  (hs:SlV w v (C .u32 xs)) (hxl:Lo W32 xs) (hx:xs.length ≤ m) (hne:0 < xs.length → ∀ b,v.ownBlock = some b → b ≠ g) (hy:y < 4294967296) :
  Calls Tryz.prog 161 #[.slice (some ⟨g,off,none⟩) m cap,v,.int .u32 (y:Int)] w fun e w'=>∃ (mid':List Nat) (c:Nat),e = .returned (.bool (decide (0 < c))) ∧ Wnd w' g off pre mid' post ∧ mid'.length = m ∧ Lo W32 mid' ∧ val W32 mid' + y * val W32 xs = val W32 mid + W32 ^ m * c ∧ w.grownBy w' (some g):=by
 obtain ⟨a,xc,hv,hxc,hxm⟩:=hs.shape
 rw [C_length] at hv hxc
 subst hv
 obtain ⟨n,hn⟩:∃ n,xs.length = n:=⟨_,rfl⟩
 rw [hn] at hs hx hxc hne ⊢
 go_enter Tryz.func161,Tryz.ntmps161
 go_wp2
 go_loopw [7,13] (fun cv iv wr=>∃ (k c:Nat) (mid':List Nat),k ≤ n ∧ iv = .int .i64 (k:Int) ∧ cv = .int .u64 (c:Int) ∧ c < 4294967296 ∧ mid'.length = m ∧ Lo W32 mid' ∧ mid'.drop k = mid.drop k ∧
   val W32 (mid'.take k) + y * val W32 (xs.take k) = val W32 (mid.take k) + W32 ^ k * c ∧ Wnd wr g off pre mid' post ∧ w.grownBy wr (some g)) (fun _ i _=>n - (intOf i).toNat)
 case atStart=>exact ⟨0,0,mid,Nat.zero_le _,rfl,rfl,by decide,hml,hlo,rfl,by simp [val],hW,grown_refl _ _⟩
 case round =>
  obtain ⟨k,c,mid',hk,rfl,rfl,hc,hl',hlo',hdrop,hval,hW',hg'⟩:=hrel
  by_cases hlt:k < n
  ·obtain ⟨b,xo,rfl,hb,hcx⟩:=(hs.grown hg' (fun b e h=>hne (by omega) b e (by cases h;rfl))).cells (by rw [C_length];omega)
   have hck:=hcx k _ (C_get _ (by omega))
   have hct:=hW'.cell (k:=k) (by omega)
   have hfr:=hW'.frozen (off + k)
   have hxb:xs.getD k 0 < 4294967296:=hxl.getD (by decide) k
   have htb:mid'.getD k 0 < 4294967296:=hlo'.getD (by decide) k
   have hvs:=val_take_succ (B:=W32) xs k
   have hvm:=val_take_succ (B:=W32) mid k
   rw [← getD_of_drop hdrop] at hvm
   generalize xs.getD k 0 = x at *
   generalize ht:mid'.getD k 0 = t at *
   have hpb:=mul_bound hxb hy
   have hpe:(x:Int) * (y:Int) = ((x * y:Nat):Int):=by simp
   obtain ⟨p,hp⟩:∃ p,x * y = p:=⟨_,rfl⟩
   rw [hp] at hpb hpe
   have HP:=Away.mk hp
   have H1:=Away.mk hval;have H2:=Away.mk hvs;have H3:=Away.mk hvm;have H4:=Away.mk hdrop;have H5:=Away.mk ht
   have HT:=Away.mk (takeWord_any g off m cap k (c + p) t wr (by omega) hm hcap (by omega) htb hct hfr)
   clear hp hcx hs hval hvs hvm hdrop ht hne hW hct hfr
   go_wp2_with fail
   rw [show (c:Int) + (p:Int) = ((c + p:Nat):Int) by simp]
   refine HT.out.mono ?_
   rintro _ w' ⟨f',c',rfl,hf',he,rfl⟩
   have hbd:c' < 4294967296:=by omega
   have HE:=Away.mk he
   clear he HT
   go_wp2
   go_roundw
   case rel =>
    have hp:=HP.out
    refine ⟨k + 1,c',mid'.set k f',by omega,by go_num,rfl,hbd,by simp [hl'],hlo'.set _ _ hf',?_,?_,?_,grown_tr hg' (grown_set _ _ _ _)⟩
    ·rw [drop_set_succ];exact drop_succ_of H4.out
    ·rw [val_take_set (by omega),H2.out,H3.out,Nat.pow_succ]
     exact take_step _ _ _ _ _ _ _ _ _ _ _ H1.out (by rw [hp]) HE.out
    ·exact hW'.set (k:=k) (by omega) f'
   case measure=>simp [intOf];omega
  ·obtain rfl:k = n:=by omega
   rw [List.take_of_length_le (by omega:xs.length ≤ k)] at hval
   clear hs hW
   have HD:=Away.mk hdrop;have HV:=Away.mk hval
   clear hdrop hval
   go_wp2
   go_loopw [7,10] (fun cv iv wr=>∃ (i c:Nat) (mid':List Nat),i ≤ m ∧ iv = .int .i64 (i:Int) ∧ cv = .int .u64 (c:Int) ∧ c < 4294967296 ∧ mid'.length = m ∧ Lo W32 mid' ∧ mid'.drop i = mid.drop i ∧
     val W32 (mid'.take i) + y * val W32 xs = val W32 (mid.take i) + W32 ^ i * c ∧ Wnd wr g off pre mid' post ∧ w.grownBy wr (some g)) (fun _ i _=>m - (intOf i).toNat)
   case atStart=>exact ⟨k,c,mid',by omega,rfl,rfl,hc,hl',hlo',HD.out,HV.out,hW',hg'⟩
   case round =>
    clear HD HV hW' hg' hl' hlo' hc
    obtain ⟨i,c,mid',hi,rfl,rfl,hc,hl',hlo',hdrop,hval,hW',hg'⟩:=hrel
    by_cases hlt:i < m
    ·by_cases hc0:0 < c
     ·have hct:=hW'.cell (k:=i) (by omega)
      have hfr:=hW'.frozen (off + i)
      have htb:mid'.getD i 0 < 4294967296:=hlo'.getD (by decide) i
      have hvm:=val_take_succ (B:=W32) mid i
      rw [← getD_of_drop hdrop] at hvm
      generalize ht:mid'.getD i 0 = t at *
      have H1:=Away.mk hval;have H3:=Away.mk hvm;have H4:=Away.mk hdrop;have H5:=Away.mk ht
      have HT:=Away.mk (takeWord_any g off m cap i c t wr (by omega) hm hcap (by omega) htb hct hfr)
      clear hval hvm hdrop ht hne hct hfr
      go_wp2_with fail
      refine HT.out.mono ?_
      rintro _ w' ⟨f',c',rfl,hf',he,rfl⟩
      have hbd:c' < 4294967296:=by omega
      have HE:=Away.mk he
      clear he HT
      go_wp2
      go_roundw
      case rel =>
       refine ⟨i + 1,c',mid'.set i f',by omega,by go_num,rfl,hbd,by simp [hl'],hlo'.set _ _ hf',?_,?_,?_,grown_tr hg' (grown_set _ _ _ _)⟩
       ·rw [drop_set_succ];exact drop_succ_of H4.out
       ·rw [val_take_set (by omega),H3.out,Nat.pow_succ]
        exact borrow_step _ _ _ _ _ _ _ _ H1.out HE.out
       ·exact hW'.set (k:=i) (by omega) f'
      case measure=>simp [intOf];omega
     ·obtain rfl:c = 0:=by omega
      have hw:=val_whole (B:=W32) hdrop (by omega) (by omega)
      have HV:=Away.mk hval;have HW:=Away.mk hw
      clear hval hw hdrop hne
      go_wp2
      go_ret
      have h1:=HV.out;have h2:=HW.out
      exact ⟨mid',0,by simp,hW',hl',hlo',by omega,hg'⟩
    ·obtain rfl:i = m:=by omega
     rw [List.take_of_length_le (by omega:mid'.length ≤ i),List.take_of_length_le (by omega:mid.length ≤ i)] at hval
     have HV:=Away.mk hval
     clear hval hdrop hne
     go_wp2
     go_ret
     exact ⟨mid',c,by simp,hW',hl',hlo',HV.out,hg'⟩
theorem Tryz.info95:(Tryz.prog.info? 95).map (fun i=>(i.zero,i.size,i.bytes)) = some (some (.int .u32 0),1,4):=by kernel_rfl
theorem Tryz.size95:(Tryz.prog.info? 95).map (·.size) = some 1:=by kernel_rfl
theorem SlV.own {w:World} {v:Value} {xs:List Value} (h:SlV w v xs) (hp:0 < xs.length):∀ b,v.ownBlock = some b → b < w.heap.size:=by
 obtain ⟨a,cap,rfl,_,_,_,h4⟩:=h
 intro b hb
 obtain ⟨b',off,rfl,h5⟩:=h4 hp
 simp only [Value.ownBlock,Option.some.injEq] at hb
 subst hb
 exact World.block_lt_of_cell? w _ (h5 0 _ (List.getElem?_eq_getElem hp))
theorem SlV.shapeC {k:IntKind} {w:World} {v:Value} {xs:List Nat} (h:SlV w v (C k xs)) {n:Nat} (hn:xs.length = n):∃ a cap,v = .slice a n cap ∧ n ≤ cap ∧ cap ≤ maxLen:=by
 obtain ⟨a,cap,e,h1,h2⟩:=h.shape
 rw [C_length,hn] at e h1
 exact ⟨a,cap,e,h1,h2⟩
set_option maxHeartbeats 1000000 in
theorem add_any (va vb:Value) (xs ys:List Nat) (w:World) (ha:SlV w va (C .u32 xs)) (hb:SlV w vb (C .u32 ys)) (hx:Lo W32 xs) (hy:Lo W32 ys) (hxm:xs.length ≤ 100000) (hym:ys.length ≤ 100000) :
  Calls Tryz.prog 57 #[va,vb] w fun e w'=>∃ v',e = .returned v' ∧ Ans w.heap.size w' v' (val W32 xs + val W32 ys) ∧ Below w.heap.size w w':=by
 obtain ⟨i0,hi,hz0,hz1,hz2⟩:=info_parts Tryz.info95
 go_enter Tryz.func57,Tryz.ntmps57
 go_wp2_with fail
 refine (trimmed_read va xs w ha hx (by omega)).mono ?_
 rintro _ w1 ⟨v1,zs,rfl,hI1,hl1,hs1,hb1⟩
 go_wp2_with fail
 refine (trimmed_read vb ys w1 (hb.below hb1) hy (by omega)).mono ?_
 rintro _ w2 ⟨v2,us,rfl,hI2,hl2,hs2,hb2⟩
 have hs1:=hs1.below hb2
 obtain ⟨n1,hn1⟩:∃ n,zs.length = n:=⟨_,rfl⟩
 obtain ⟨n2,hn2⟩:∃ n,us.length = n:=⟨_,rfl⟩
 obtain ⟨a1,c1,rfl,q1,r1⟩:=hs1.shapeC hn1
 obtain ⟨a2,c2,rfl,q2,r2⟩:=hs2.shapeC hn2
 have hb02:Below w.heap.size w w2:=hb1.trans (hb2.mono hb1.size)
 obtain ⟨m,hmx,h1m,h2m,hmm⟩:∃ m:Nat,max (n1:Int) (n2:Int) = (m:Int) ∧ n1 ≤ m ∧ n2 ≤ m ∧ m ≤ 100000:=⟨max n1 n2,by omega,by omega,by omega,by omega⟩
 have HS1:=Away.mk hs1;have HS2:=Away.mk hs2;have HI1:=Away.mk hI1;have HI2:=Away.mk hI2;have HB:=Away.mk hb02
 clear ha hb hs1 hs2 hI1 hI2 hb1 hb2 hb02
 go_wp2_with (at_make;refine wpList_make_full _ rfl _ _ 68 rfl w.heap.size 95 i0 _ 1 Tryz.underlying68 hi hz0 hz1 _ _ _ _ (m + 1) rfl rfl (by omega) (by omega) (by rw [hz2];omega) (by unfold maxLen;omega) HB.out.size ?_)
 intro w3 hown hg3
 have hown:=own_made hown
 have HO:=Away.mk hown;have HG3:=Away.mk hg3
 clear hown hg3
 have HS1':=Away.mk (HS1.out.grown HG3.out (by simp));have HS2':=Away.mk (HS2.out.grown HG3.out (by simp))
 go_wp2_with (refine wpList_copy_full rfl (.tmp 17) (.tmp 18) 68 rfl 95 Tryz.underlying68 Tryz.size95 w.heap.size (m + 1) (m + 1) n1 w2.heap.size _ (C .u32 zs) _ _ rfl rfl (by rw [C_length];exact hn1.symm) HO.out HS1'.out (by rw [C_length];omega) (C_one _ _) ?_)
 intro w4 hown4 hg4 hsz4
 have hr4:=Row.ofOwn hown4
 rw [C_length,hn1,← C_zeros,← C_append] at hr4
 have hB24:Below w2.heap.size w2 w4:=((Below.refl _ w2).grown HG3.out (Nat.le_refl _) (by simp)).grown hg4 (HG3.out.size) (by simp)
 have hb4:Below w.heap.size w w4:=HB.out.trans (hB24.mono HB.out.size)
 have hs24:=HS2.out.below hB24
 have hne:=HS2.out.own
 obtain ⟨mid,hmid⟩:∃ mid,zs ++ List.replicate (m + 1 - n1) 0 = mid:=⟨_,rfl⟩
 rw [hmid] at hr4
 have hml:mid.length = m + 1:=by rw [← hmid];simp;omega
 have hlo:Lo W32 mid:=by rw [← hmid];exact HI1.out.2.1.append (Lo.zeros (by decide) _)
 have hvm:val W32 mid = val W32 xs:=by rw [← hmid,val_append,val_zeros,HI1.out.1];omega
 have HA:=Away.mk (addTimes_any w2.heap.size 0 (m + 1) (m + 1) 1 (.slice a2 n2 c2) [] mid [] us w4 ⟨by simpa using hr4,rfl⟩ hml hlo (by omega) (Nat.le_refl _) (by unfold maxLen;omega) hs24 HI2.out.2.1 (by omega) (fun hp b e=>by have:=hne (by rw [C_length];exact hp) b e;omega) (by decide))
 have HB4:=Away.mk hb4;have HG:=Away.mk HB.out.size
 clear hown4 hg4 hr4 hB24 hb4 hs24 hne hmid HS1 HS1' HS2' HG3 HO
 go_wp2_with fail
 refine HA.out.mono ?_
 rintro _ w5 ⟨mid',c,⟨u,rfl⟩,hW5,hl5,hlo5,hv5,hg5⟩
 have hb5:Below w.heap.size w w5:=HB4.out.grown hg5 HB4.out.size (fun k e=>by cases e;exact HG.out)
 have hv:val W32 mid' = val W32 xs + val W32 ys:=by
  rw [hvm,HI2.out.1,Nat.one_mul] at hv5
  exact no_carry hv5 (sum_fits (by decide) (HI1.out.val_lt (by decide) (by omega)) (HI2.out.val_lt (by decide) (by omega)))
 have hr5:Row w5 w2.heap.size 95 (C .u32 mid'):=by simpa using hW5.1
 have HT:=Away.mk (trimmed_new w.heap.size w2.heap.size mid' w5 hr5 HG.out hlo5 (by omega))
 rw [hv,hl5] at HT
 have HB5:=Away.mk hb5
 clear hW5 hv5 hv hg5 hb5 hr5 hvm HA
 go_wp2_with fail
 refine HT.out.mono ?_
 rintro _ w6 ⟨v',rfl,hans,hb6⟩
 go_wp2
 go_ret
 exact ⟨_,rfl,hans,HB5.out.trans (hb6.mono HB5.out.size)⟩
open Go.Shelf
set_option linter.unusedSimpArgs false
attribute [local go_sem] Oper.semAt_some
end Go.Proofs.YtmjimilhomabfaaGreatDoor
namespace Go.Proofs.YtmjimilhomabfaaGreatDoor
open Go.RowKit
set_option linter.unusedVariables false
def errLt (a b:Nat):Int:=if a < b then 1 else 0
set_option maxHeartbeats 1000000 in
theorem mul_any (va vb:Value) (xs ys:List Nat) (w:World) (ha:SlV w va (C .u32 xs)) (hb:SlV w vb (C .u32 ys)) (hx:Lo W32 xs) (hy:Lo W32 ys) (hxm:xs.length ≤ 100000) (hym:ys.length ≤ 100000) :
  Calls Tryz.prog 59 #[va,vb] w fun e w'=>∃ v',e = .returned v' ∧ Ans w.heap.size w' v' (val W32 xs * val W32 ys) ∧ Below w.heap.size w w':=by
 obtain ⟨i0,hi,hz0,hz1,hz2⟩:=info_parts Tryz.info95
 go_enter Tryz.func59,Tryz.ntmps59
 go_wp2_with fail
 refine (trimmed_read va xs w ha hx (by omega)).mono ?_
 rintro _ w1 ⟨v1,zs,rfl,hI1,hl1,hs1,hb1⟩
 go_wp2_with fail
 refine (trimmed_read vb ys w1 (hb.below hb1) hy (by omega)).mono ?_
 rintro _ w2 ⟨v2,us,rfl,hI2,hl2,hs2,hb2⟩
 have hs1:=hs1.below hb2
 obtain ⟨n1,hn1⟩:∃ n,zs.length = n:=⟨_,rfl⟩
 obtain ⟨n2,hn2⟩:∃ n,us.length = n:=⟨_,rfl⟩
 obtain ⟨a1,c1,rfl,q1,r1⟩:=hs1.shapeC hn1
 obtain ⟨a2,c2,rfl,q2,r2⟩:=hs2.shapeC hn2
 have hb02:Below w.heap.size w w2:=hb1.trans (hb2.mono hb1.size)
 have HS1:=Away.mk hs1;have HS2:=Away.mk hs2;have HI1:=Away.mk hI1;have HI2:=Away.mk hI2;have HB:=Away.mk hb02
 clear ha hb hs1 hs2 hI1 hI2 hb1 hb2 hb02
 go_wp2_with (at_make;refine wpList_make_full _ rfl _ _ 68 rfl w.heap.size 95 i0 _ 1 Tryz.underlying68 hi hz0 hz1 _ _ _ _ (n1 + n2) rfl rfl (by omega) (by omega) (by rw [hz2];omega) (by unfold maxLen;omega) HB.out.size ?_)
 intro w3 hown hg3
 have hr3:=Row.ofOwn (own_made hown)
 rw [← C_zeros] at hr3
 have hB23:Below w2.heap.size w2 w3:=(Below.refl _ w2).grown hg3 (Nat.le_refl _) (by simp)
 clear hown hg3
 have HR3:=Away.mk hr3;have HB3:=Away.mk hB23
 clear hr3 hB23
 go_wp2
 go_loopw [20] (fun iv wr=>∃ (k:Nat) (out:List Nat),k ≤ n2 ∧ iv = .int .i64 (k:Int) ∧ out.length = n1 + n2 ∧ Lo W32 out ∧ val W32 out = val W32 zs * val W32 (us.take k) ∧ Row wr w2.heap.size 95 (C .u32 out) ∧ Below w2.heap.size w2 wr) (fun i _=>n2 - (intOf i).toNat)
 case atStart=>exact ⟨0,_,Nat.zero_le _,rfl,by simp,Lo.zeros (by decide) _,by simp [val,val_zeros],HR3.out,HB3.out⟩
 case round =>
  obtain ⟨k,out,hk,rfl,hol,holo,hval,hr,hb⟩:=hrel
  by_cases hlt:k < n2
  ·obtain ⟨b,off,rfl,hbl,hcx⟩:=(HS2.out.below hb).cells (by rw [C_length];omega)
   have hck:=hcx k _ (C_get _ (by omega))
   have hyb:us.getD k 0 < 4294967296:=HI2.out.2.1.getD (by decide) k
   have hvs:=val_take_succ (B:=W32) us k
   generalize us.getD k 0 = y at *
   have hs1:=HS1.out.below hb
   have hne:=HS1.out.own
   have hpl:(out.take k).length = k:=by rw [List.length_take];omega
   have hml:(out.drop k).length = n1 + n2 - k:=by rw [List.length_drop];omega
   have HA:=Away.mk (addTimes_any w2.heap.size k (n1 + n2 - k) (n1 + n2 - k) y (.slice a1 n1 c1) (out.take k) (out.drop k) [] zs wr ⟨by simpa using hr,hpl⟩ hml (holo.drop k) (by omega) (Nat.le_refl _) (by unfold maxLen;omega) hs1 HI1.out.2.1 (by omega) (fun hp b e=>by have:=hne (by rw [C_length];exact hp) b e;omega) hyb)
   have H1:=Away.mk hval;have H2:=Away.mk hvs;have HBr:=Away.mk hb;have HL:=Away.mk holo
   clear hcx hval hvs hs1 hne hr hb hpl hml holo
   have hkc:n1 + n2 ≠ k:=by omega
   go_wp2_with fail
   refine HA.out.mono ?_
   rintro _ w' ⟨mid',c,⟨u,rfl⟩,hW',hl',hlo',hv',hg'⟩
   have HV:=Away.mk hv';have HW:=Away.mk hW';have HLo:=Away.mk hlo';have HG:=Away.mk hg'
   clear hv' hW' hlo' hg' HA
   go_wp2
   go_roundw
   case rel =>
    have hpl:(out.take k).length = k:=by rw [List.length_take];omega
    have hstep:=mid_step hpl HV.out
    rw [List.take_append_drop,H1.out,show k + (n1 + n2 - k) = n1 + n2 by omega] at hstep
    have hfit:val W32 zs * val W32 (us.take (k + 1)) < W32 ^ (n1 + n2):=by
     refine mul_fits (B:=W32) ?_ ?_
     ·rw [HI1.out.1];exact HI1.out.val_lt (by decide) (by omega)
     ·refine Nat.lt_of_le_of_lt (val_take_le _ _) ?_
      rw [HI2.out.1];exact HI2.out.val_lt (by decide) (by omega)
    have he:val W32 zs * val W32 (us.take k) + W32 ^ k * (y * val W32 zs) = val W32 zs * val W32 (us.take (k + 1)):=by
     rw [H2.out];generalize val W32 zs = Z;generalize val W32 (us.take k) = T;generalize W32 ^ k = P;grind
    rw [he] at hstep
    refine ⟨k + 1,out.take k ++ mid',by omega,by go_num,by simp;omega,(HL.out.take k).append HLo.out,no_carry hstep hfit,?_,?_⟩
    ·have:=HW.out.1;simpa using this
    ·exact HBr.out.grown HG.out HBr.out.size (by simp)
   case measure=>simp [intOf];omega
  ·obtain rfl:k = n2:=by omega
   rw [List.take_of_length_le (by omega),HI1.out.1,HI2.out.1] at hval
   have HT:=Away.mk (trimmed_new w.heap.size w2.heap.size out wr hr HB.out.size holo (by omega))
   rw [hval,hol] at HT
   have HBr:=Away.mk (HB.out.trans (hb.mono HB.out.size))
   clear hval hr hb holo HR3 HB3
   go_wp2_with fail
   refine HT.out.mono ?_
   rintro _ w6 ⟨v',rfl,hans,hb6⟩
   go_wp2
   go_ret
   exact ⟨_,rfl,hans,HBr.out.trans (hb6.mono HBr.out.size)⟩
end Go.Proofs.YtmjimilhomabfaaGreatDoor
