/-
 Drawn regions: by rounds, appends, cells, what holds behind any part; an array at a struct head; over any program. Conditions: each as it says.
-/
import Derived.Test.YtmjimilhomabfaaGreatDoorK13
import Derived.RangeFuncCalls
import Derived.RangeFuncLeaves
import Derived.OrdersIn
import Derived.Deep.RegionHeld3
namespace Go.Proofs.YtmjimilhomabfaaGreatDoor
open Go.RowKit
set_option linter.unusedVariables false
def Nrm (Q:Exit → Act → World → Prop):Exit → Act → World → Prop
 | .normal,a,w=>Q .normal a w
 | _,_,_=>False
theorem Nrm.normal {Q:Exit → Act → World → Prop} {a:Act} {w:World} (h:Q .normal a w):Nrm Q .normal a w:=h
theorem Nrm.lets {Q:Exit → Act → World → Prop} (h:LetsOut (Nrm Q)):False:=by obtain ⟨a,w,h⟩:=h;exact h
theorem op_in_round {P:Program} {o:Oper} {a:Act} {w:World} {K K':Act → World → Prop} {Q:Exit → Act → World → Prop} {l n:Nat} (hd:∀ c,o.op ≠ .defer c) (hK:∀ a w,K a w → K' a w) (h:o.wp P a w K (Nrm Q)):o.wpIn (Fence.wide.inRound l) n P a w K' Q:=by
 unfold Oper.wp at h
 unfold Oper.wpIn
 refine ⟨fun _ _=>trivial,?_⟩
 rw [Oper.semAt_eq _ _ _ hd]
 have hdep:(Fence.wide.inRound l).depth.isSome = true → 1 ≤ n:=fun h=>by simp [Fence.inRound,Fence.wide] at h
 generalize (execOp a.eval o).run P w = r at *
 cases r with
 | ok x w' =>
  cases x with
  | value v=>exact hK _ _ h
  | skip=>exact hK _ _ h
  | defer d=>exact hK _ _ h
  | enter f args =>
   refine ⟨hdep,CallsIn.inRound l (callsIn_wide.2 (Calls.mono h ?_))⟩
   rintro e w'' he
   cases e with
   | returned v=>exact hK _ _ he
   | panicked ch=>exact he.elim
   | outgrown=>exact (Nrm.lets he).elim
  | row r args =>
   refine ⟨hdep,fun c cs _=>?_⟩
   obtain ⟨v,w'',hr,hs⟩:=h c cs
   exact ⟨v,w'',hK _ _ hr,stepsIn_wide.2 hs⟩
  | _=>exact h.elim
 | halt x w' =>
  cases x <;> exact h.elim
def noDefer (L:List Oper):Bool:=L.all fun o=>match o.op with | .defer _=>false | _=>true
theorem noDefer_get {L:List Oper} (h:noDefer L = true) {i:Nat} {o:Oper} (ho:L[i]? = some o):∀ c,o.op ≠ .defer c:=by
 intro c hc
 have:=List.all_eq_true.1 h o (List.mem_of_getElem? ho)
 simp [hc] at this
theorem any_in_round {P:Program} {L:List Oper} {Q:Exit → Act → World → Prop} {md:Region.Mode} {S:World → Prop} {l n:Nat} (hd:noDefer L = true):∀ (fuel:Nat) (listed:Array Bool) (a:Act) (w:World),
  wpAnyH P md L.toArray (Nrm Q) S fuel listed a w → wpAnyIn (Fence.wide.inRound l) n P md L.toArray Q fuel listed a w
 | 0,_,_,_,h=>h
 | fuel + 1,listed,a,w,h=>by
  refine ⟨h.1,fun i hi=>?_⟩
  have h1:=h.2 i hi
  unfold wpOp at h1
  unfold wpOpIn
  cases ho:L.toArray[i]? with
  | none=>rw [ho] at h1;exact any_in_round hd fuel _ _ _ h1.2
  | some o =>
   rw [ho] at h1
   simp only at h1 ⊢
   split
   ·rename_i hw
    rw [if_pos hw] at h1
    rcases h1 with h1 | ⟨_,h1⟩
    ·exact op_in_round (noDefer_get hd (by simpa using ho)) (fun a' w' hh=>any_in_round hd fuel _ a' w' hh.2) h1
    ·exact (Nrm.lets h1).elim
   ·rename_i hw
    rw [if_neg hw] at h1
    exact ⟨fun _ _=>trivial,any_in_round hd fuel _ _ _ h1.2⟩
theorem region_round {P:Program} {L:List Oper} {Q:Exit → Act → World → Prop} {S:World → Prop} {id l n:Nat} {a:Act} {w:World} (hm:P.follows .mixedOrders = true) (hd:noDefer L = true) (hS:S w.drew)
  (h:S w.drew → wpAnyH P .any L.toArray (Nrm Q) S L.toArray.size (Array.replicate L.toArray.size false) a w.drew):(Code.region id L.toArray true).wpIn (Fence.wide.inRound l) n P Q a w :=
 wpIn_region_any hm (any_in_round hd _ _ _ _ (h hS))
theorem run_load_head {P:Program} (w:World) {g n:Nat} {t ty e:TypeId} {us vs:List Value} (hg:Row w g t (us ++ vs)) (hu:P.underlying ty = some (.array n e)) (hi:(P.info? ty).map (·.size) = some us.length) :
  (loadVar ty ⟨g,0,none⟩).run P w = .ok (.agg us.toArray) w:=by
 have hl:(loadCells ⟨g,0,none⟩ us.length).run P w = .ok us.toArray w :=
  run_loadCells_list (P:=P) w ⟨g,0,none⟩ us (fun j v hv=>by
   have hadd:(⟨g,0,none⟩:Addr).add j = ⟨g,j,none⟩:=by unfold Addr.add;split <;> simp_all
   rw [hadd,hg.cell,List.getElem?_append_left (List.getElem?_eq_some_iff.1 hv).1]
   exact hv)
 cases hq:P.info? ty with
 | none=>simp [hq] at hi
 | some i =>
  have hs:i.size = us.length:=by simpa [hq] using hi
  have hagg:(isAgg ty).run P w = .ok true w:=by
   unfold isAgg
   rw [Sem.run_bind,run_underlying hu w]
   simp
  simp [loadVar,Sem.run_bind,hagg,sizeOf,typeInfo,hq,hs,hl]
theorem exec_load_head {P:Program} {w:World} {o:Oper} {ev:Operand → Value} (ty:TypeId) (x:Operand) (ho:o.op = .load ty x) {g:Nat} (hx:ev x = .pointer (some ⟨g,0,none⟩)) {t e:TypeId} {n:Nat} {us vs:List Value} (hg:Row w g t (us ++ vs))
  (hu:P.underlying ty = some (.array n e)) (hi:(P.info? ty).map (·.size) = some us.length):(execOp ev o).run P w = .ok (.value (.agg us.toArray)) w:=by
 unfold execOp
 simp only [ho,hx,Instr.loadAt,Instr.sureAddr,Sem.run_bind,Sem.run_pure,Result.andThen_ok,run_load_head w hg hu hi]
theorem run_store_head {P:Program} (w:World) {g:Nat} {t ty:TypeId} {old us vs:List Value} (hg:Row w g t (old ++ vs)) (hi:(P.info? ty).map (·.size) = some us.length) (ho:old.length = us.length) (h1:us.all (·.oneCell') = true) :
  (storeVar ty ⟨g,0,none⟩ (.agg us.toArray)).run P w = .ok () (w.setRow g (us ++ vs).toArray):=by
 have:=run_storeCells_at P g 0 t us 0 (old ++ vs).toArray w hg (by simp;omega) (fun v hv=>List.all_eq_true.1 h1 v hv)
 simp only [Nat.add_zero,Nat.zero_add,List.take_zero,List.nil_append] at this
 rw [show (old ++ vs).drop us.length = vs by rw [List.drop_append_of_le_length (by omega),List.drop_of_length_le (by omega),List.nil_append]] at this
 cases hq:P.info? ty with
 | none=>simp [hq] at hi
 | some i =>
  have hs:us.length = i.size:=by simp [hq] at hi;omega
  simp [storeVar,sizeOf,typeInfo,hq,Value.cells,hs,this]
theorem wp_store_head {P:Program} {w:World} {o:Oper} {a:Act} {K:Act → World → Prop} {Q:Exit → Act → World → Prop} (ty:TypeId) (x y:Operand) (ho:o.op = .store ty x y)
  (g:Nat) (us:List Value) (hx:a.eval x = .pointer (some ⟨g,0,none⟩)) (hy:a.eval y = .agg us.toArray) {t:TypeId} {old vs:List Value} (hg:Row w g t (old ++ vs)) (hi:(P.info? ty).map (·.size) = some us.length)
  (hold:old.length = us.length) (h1:us.all (·.oneCell') = true)
  (h:∀ w',Row w' g t (us ++ vs) → w.grownBy w' (some g) → w'.heap.size = w.heap.size → K (a.put o.dst undef) w'):o.wp P a w K Q:=by
 unfold Oper.wp execOp
 simp only [ho,hx,hy,Instr.storeAt,Instr.sureAddr,Sem.run_bind,Sem.run_pure,Result.andThen_ok,run_store_head w hg hi hold h1]
 exact h _ (hg.setRow _) ⟨rfl,rfl,rfl,by simp,fun k _ hk=>setRow_other w g k _ (fun e=>hk (by rw [e]))⟩ (by simp)
theorem append_where {P:Program} {w w':World} {base:Nat} {t ty e:TypeId} {z:Value} {i:TypeInfo} (ht:P.underlying t = some (.slice e)) (hi:P.info? e = some i) (hz:i.zero = some z) (hsize:i.size = 1)
  {v:Value} {n:Nat} {xs:List Value} (hown:w.ownsRow base e 1 v n xs) {ad:Addr} {m c:Nat} {ys:List Value} {v':Value} (hl:ys.length = m) (hnews:∀ j y,ys[j]? = some y → w.cell? (ad.add j) = some y) (h1:∀ u ∈ ys,u.oneCell' = true)
  (h63:n + m ≤ maxLen) (hbytes:(n + m) * i.bytes ≤ 140737488355328) (hrun:(Builtin.append_ #[t,t] ty #[v,.slice (some ad) m c]).run P w = .ok v' w') :
  v'.ownBlock = v.ownBlock ∨ v'.ownBlock = some w.heap.size:=by
 have hsm:n + m ≤ 9223372036854775807:=by simp only [maxLen] at h63;omega
 rcases hown.2 with ⟨rfl,rfl⟩ | ⟨g,cap,cur,rfl,hbg,hg,hnc,hcm,hcs,htake⟩
 ·by_cases hm:m = 0
  ·subst hm
   have hr:(Builtin.append_ #[t,t] ty #[.slice none 0 0,.slice (some ad) 0 c]).run P w = .ok (.slice none 0 0) w:=by
    simp [Builtin.append_,run_underlying ht,sizeOf,typeInfo,hi,Builtin.lenOf,Builtin.firstCells,loadCells,loadCellsFrom]
   rw [hr] at hrun
   injection hrun with e1 _
   subst e1
   exact .inl rfl
  ·have hr:=run_append_nil (P:=P) w t ty e i z ht hi hz ad m c ys (by rw [hsize,Nat.mul_one];exact hl) hnews (by omega) (by omega) (by have hb:=hbytes;simp only [Nat.zero_add] at hb;omega)
   rw [hr] at hrun
   injection hrun with e1 _
   subst e1
   exact .inr rfl
 ·by_cases hroom:n + m ≤ cap
  ·have hr:=run_append_room (P:=P) w t ty e i ht hi g n cap cur hg ad m c ys (by rw [hsize,Nat.mul_one];exact hl) hnews h1 hroom (by rw [hsize,hcs];omega)
   rw [hr] at hrun
   injection hrun with e1 _
   subst e1
   exact .inl rfl
  ·have holds:=hown.cells (g:=g) rfl
   have hr:=run_append_grow (P:=P) w t ty e i z ht hi hz ⟨g,0,none⟩ n cap xs (by rw [hsize];exact hown.1) holds ad m c ys (by rw [hsize,Nat.mul_one];exact hl) hnews (by omega) (by omega) (growslice_fits (by omega) hbytes)
   rw [hr] at hrun
   injection hrun with e1 _
   subst e1
   exact .inr rfl
theorem wp_append_at {P:Program} {w:World} {o:Oper} {a:Act} {K:Act → World → Prop} {Q:Exit → Act → World → Prop} (s x:Operand) (t:TypeId)
  (ho:o.op = .call { callee:=.builtin .append,args:=#[s,x],argTypes:=#[t,t] })
  (base:Nat) (e:TypeId) (z:Value) (bytes:Nat) (ht:P.underlying t = some (.slice e)) (hinfo:(P.info? e).map (fun i=>(i.zero,i.size,i.bytes)) = some (some z,1,bytes)) (hzs:z.cells.size = 1)
  (v:Value) (n:Nat) (xs:List Value) (hs:a.eval s = v) (hown:w.ownsRow base e 1 v n xs) (sv:Value) (ys:List Value) (hx:a.eval x = sv) (hsl:SlV w sv ys) (h1:∀ u ∈ ys,u.oneCell' = true)
  (h63:n + ys.length ≤ maxLen) (hbytes:(n + ys.length) * bytes ≤ 140737488355328) (hbase:base ≤ w.heap.size)
  (h:∀ v' w',w'.ownsRow base e 1 v' (n + ys.length) (xs ++ ys) → w.grownBy w' v.ownBlock → (v'.ownBlock = v.ownBlock ∨ v'.ownBlock = some w.heap.size) → K (a.put o.dst v') w'):o.wp P a w K Q:=by
 obtain ⟨i0,hi,hz0,hz1,hz2⟩:=info_parts hinfo
 obtain ⟨a',c',rfl,hle,hcm,hnone,hc⟩:=hsl
 by_cases h0:a' = none
 ·subst h0
  obtain rfl:=hnone rfl
  obtain rfl:ys = []:=List.eq_nil_of_length_eq_zero (by omega)
  have hrun:=run_append_owned_none (P:=P) (w:=w) base t o.type e i0 1 ht hi v n xs hown
  have hx':a.eval x = .slice none 0 0:=by simpa using hx
  unfold Oper.wp
  simp [execOp,ho,resolve,invoke,builtin,hs,hx',hrun,Result.andThen]
  exact h v w (by simpa using hown) (grown_refl _ _) (.inl rfl)
 ·obtain ⟨ad,rfl⟩:=Option.ne_none_iff_exists'.1 h0
  have hnews:∀ j u,ys[j]? = some u → w.cell? (ad.add j) = some u:=by
   intro j u hu
   have hp:0 < ys.length:=by
    have:=(List.getElem?_eq_some_iff.1 hu).1
    omega
   obtain ⟨b,off,he,hcell⟩:=hc hp
   simp only [Option.some.injEq] at he
   subst he
   rw [Addr.add_lit];exact hcell j u hu
  obtain ⟨v',w',hrun,ho',hg',_⟩:=run_append_own (P:=P) (w:=w) base t o.type e i0 z 1 bytes ht hi hz0 hz1 hz2 hzs (by decide) v n xs hown ad ys.length c' ys (by omega) hnews h1 h63 hbytes hbase
  have hw:=append_where ht hi hz0 hz1 hown rfl hnews h1 h63 (by rw [hz2];exact hbytes) hrun
  unfold Oper.wp
  simp [execOp,ho,resolve,invoke,builtin,hs,hx,hrun,Result.andThen]
  exact h v' w' ho' hg' hw
theorem wpList_append_at {P:Program} {w:World} {ops:Array Oper} {rest:List Oper} {o:Oper} {a:Act} {Q:Exit → Act → World → Prop} (hgd:o.guard = none) (s x:Operand) (t:TypeId)
  (ho:o.op = .call { callee:=.builtin .append,args:=#[s,x],argTypes:=#[t,t] })
  (base:Nat) (e:TypeId) (z:Value) (bytes:Nat) (ht:P.underlying t = some (.slice e)) (hinfo:(P.info? e).map (fun i=>(i.zero,i.size,i.bytes)) = some (some z,1,bytes)) (hzs:z.cells.size = 1)
  (v:Value) (n:Nat) (xs:List Value) (hs:a.eval s = v) (hown:w.ownsRow base e 1 v n xs) (sv:Value) (ys:List Value) (hx:a.eval x = sv) (hsl:SlV w sv ys) (h1:∀ u ∈ ys,u.oneCell' = true)
  (h63:n + ys.length ≤ maxLen) (hbytes:(n + ys.length) * bytes ≤ 140737488355328) (hbase:base ≤ w.heap.size)
  (h:∀ v' w',w'.ownsRow base e 1 v' (n + ys.length) (xs ++ ys) → w.grownBy w' v.ownBlock → (v'.ownBlock = v.ownBlock ∨ v'.ownBlock = some w.heap.size) → wpList P ops Q rest (a.put o.dst v') w'):wpList P ops Q (o :: rest) a w :=
 wpList_plain hgd fun _ hK=>wp_append_at s x t ho base e z bytes ht hinfo hzs v n xs hs hown sv ys hx hsl h1 h63 hbytes hbase fun v' w' h2 h3 h4=>hK _ _ (h v' w' h2 h3 h4)
structure Kp (q:Nat) (r:Option Nat) (w w':World):Prop where
 os:w'.os = w.os
 tape:w'.tape = w.tape
 output:w'.output = w.output
 size:w.heap.size ≤ w'.heap.size
 block:∀ k,k < w.heap.size → k ≠ q → some k ≠ r → w'.heap[k]? = w.heap[k]?
theorem Kp.refl (q:Nat) (r:Option Nat) (w:World):Kp q r w w:=⟨rfl,rfl,rfl,Nat.le_refl _,fun _ _ _ _=>rfl⟩
theorem Kp.more {q:Nat} {r:Option Nat} {a b c:World} (h:Kp q r a b) (hb:Below b.heap.size b c):Kp q r a c :=
 ⟨hb.os.trans h.os,hb.tape.trans h.tape,hb.output.trans h.output,Nat.le_trans h.size hb.size,fun k hk h1 h2=>(hb.block k (Nat.lt_of_lt_of_le hk h.size)).trans (h.block k hk h1 h2)⟩
theorem Kp.grown {q:Nat} {r row:Option Nat} {a b c:World} (h:Kp q r a b) (hg:b.grownBy c row) (hr:∀ k,row = some k → k = q ∨ some k = r ∨ a.heap.size ≤ k):Kp q r a c :=
 ⟨hg.os.trans h.os,hg.tape.trans h.tape,hg.output.trans h.output,Nat.le_trans h.size hg.size,fun k hk h1 h2=>(hg.block k (Nat.lt_of_lt_of_le hk h.size) (fun e=>by
  rcases hr k e.symm with h3 | h3 | h3
  ·exact h1 h3
  ·exact h2 h3
  ·omega)).trans (h.block k hk h1 h2)⟩
theorem Kp.below {q B:Nat} {r:Option Nat} {w0 a b:World} (h0:Below B w0 a) (h:Kp q r a b) (hB:B ≤ a.heap.size) (hq:B ≤ q) (hr:∀ k,r = some k → B ≤ k):Below B w0 b :=
 ⟨h.os.trans h0.os,h.tape.trans h0.tape,h.output.trans h0.output,Nat.le_trans h0.size h.size,fun k hk=>(h.block k (by omega) (by omega) (fun e=>by have:=hr k e.symm;omega)).trans (h0.block k hk)⟩
theorem Kp.row {q g:Nat} {r:Option Nat} {a b:World} {e:TypeId} {us:List Value} (h:Kp q r a b) (hR:Row a g e us) (h1:g ≠ q) (h2:some g ≠ r):Row b g e us:=hR.keep (h.block g hR.lt h1 h2)
theorem Kp.sl {q:Nat} {r:Option Nat} {a b:World} {v:Value} {xs:List Value} (h:Kp q r a b) (hs:SlV a v xs) (h1:v.ownBlock ≠ some q) (h2:v.ownBlock = none ∨ v.ownBlock ≠ r):SlV b v xs :=
 hs.keep fun k e hk=>h.block k hk (fun e2=>h1 (by rw [e,e2])) (fun e2=>by
  rcases h2 with h2 | h2
  ·rw [h2] at e;cases e
  ·exact h2 (e.trans e2))
theorem Kp.own {q base n:Nat} {r:Option Nat} {a b:World} {e:TypeId} {v:Value} {xs:List Value} (h:Kp q r a b) (ho:a.ownsRow base e 1 v n xs) (h1:v.ownBlock ≠ some q) (h2:v.ownBlock = none ∨ v.ownBlock ≠ r):b.ownsRow base e 1 v n xs:=by
 refine ⟨ho.1,?_⟩
 rcases ho.2 with hn | ⟨g,cap,cur,rfl,hb,hgg,rest⟩
 ·exact .inl hn
 ·refine .inr ⟨g,cap,cur,rfl,hb,?_,rest⟩
  rw [h.block g (Array.getElem?_eq_some_iff.1 hgg).1 (fun e=>h1 (by simp [Value.ownBlock,e])) (fun e=>by
   rcases h2 with h2 | h2
   ·simp [Value.ownBlock] at h2
   ·exact h2 (by simpa [Value.ownBlock] using e))]
  exact hgg
theorem own_ne {w:World} {base n q:Nat} {e T:TypeId} {v:Value} {xs us:List Value} (ho:w.ownsRow base e 1 v n xs) (hR:Row w q T us) (hT:e ≠ T):v.ownBlock ≠ some q:=by
 intro hq
 rcases ho.2 with ⟨rfl,_⟩ | ⟨g,cap,cur,rfl,_,hg,_⟩
 ·simp [Value.ownBlock] at hq
 ·simp only [Value.ownBlock,Option.some.injEq] at hq
  subst hq
  have:=hg.symm.trans hR
  simp only [Option.some.injEq,Obj.cells.injEq] at this
  exact hT this.2.1
theorem own_cut0 {w:World} {base n:Nat} {e:TypeId} {a:Option Addr} {m cap:Nat} {xs:List Value} (ho:w.ownsRow base e 1 (.slice a m cap) n xs):w.ownsRow base e 1 (.slice a 0 cap) 0 []:=by
 refine ⟨rfl,?_⟩
 rcases ho.2 with ⟨h,_⟩ | ⟨g,c,cur,h,hb,hg,h1,h2,h3,h4⟩
 ·simp only [Value.slice.injEq] at h
  obtain ⟨rfl,-,rfl⟩:=h
  exact .inl ⟨rfl,rfl⟩
 ·simp only [Value.slice.injEq] at h
  obtain ⟨rfl,-,rfl⟩:=h
  exact .inr ⟨g,cap,cur,rfl,hb,hg,Nat.zero_le _,h2,h3,by simp⟩
theorem exec_load_cell {P:Program} {w:World} {o:Oper} {ev:Operand → Value} (ty:TypeId) (x:Operand) (ho:o.op = .load ty x) {g off:Nat} (hx:ev x = .pointer (some ⟨g,off,none⟩)) {v:Value} (hc:w.cell? ⟨g,off,none⟩ = some v) {d:TypeDesc}
  (hu:P.underlying ty = some d) (hd:(match d with | .struct _ | .array _ _=>true | _=>false) = false):(execOp ev o).run P w = .ok (.value v) w:=by
 have hagg:(isAgg ty).run P w = .ok false w:=by
  unfold isAgg
  rw [Sem.run_bind,run_underlying hu w]
  cases d <;> simp_all
 unfold execOp
 simp only [ho,hx,Instr.loadAt,Instr.sureAddr,Sem.run_bind,Sem.run_pure,Result.andThen_ok,loadVar,hagg]
 simp [go_sem,hc]
theorem wp_store_cell {P:Program} {w:World} {o:Oper} {a:Act} {K:Act → World → Prop} {Q:Exit → Act → World → Prop} (ty:TypeId) (x y:Operand) (ho:o.op = .store ty x y)
  (g off:Nat) (v:Value) (hx:a.eval x = .pointer (some ⟨g,off,none⟩)) (hy:a.eval y = v) (hv:v.cells = #[v]) (h1:v.oneCell' = true) {t:TypeId} {us:List Value} (hg:Row w g t us) (hoff:off < us.length) (hi:(P.info? ty).map (·.size) = some 1)
  (h:∀ w',Row w' g t (us.set off v) → w.grownBy w' (some g) → w'.heap.size = w.heap.size → K (a.put o.dst undef) w'):o.wp P a w K Q:=by
 have hs:=run_storeCells_at P g off t [v] 0 us.toArray w hg (by simp;omega) (fun u hu=>by simp at hu;subst hu;exact h1)
 simp only [Nat.add_zero,List.length_singleton] at hs
 have hset:us.take off ++ [v] ++ us.drop (off + 1) = us.set off v:=by
  rw [List.set_eq_take_append_cons_drop,if_pos hoff];simp
 have hr:(storeVar ty ⟨g,off,none⟩ v).run P w = .ok () (w.setRow g (us.set off v).toArray):=by
  cases hq:P.info? ty with
  | none=>simp [hq] at hi
  | some i =>
   have hz:i.size = 1:=by simpa [hq] using hi
   rw [hset] at hs
   simp [storeVar,sizeOf,typeInfo,hq,hv,hz,hs]
 unfold Oper.wp execOp
 simp only [ho,hx,hy,Instr.storeAt,Instr.sureAddr,Sem.run_bind,Sem.run_pure,Result.andThen_ok,hr]
 exact h _ (hg.setRow _) ⟨rfl,rfl,rfl,by simp,fun k _ hk=>setRow_other w g k _ (fun e=>hk (by rw [e]))⟩ (by simp)
theorem _root_.Go.World.ownsRow.drew' {w:World} {base n:Nat} {e:TypeId} {v:Value} {xs:List Value} (h:w.ownsRow base e 1 v n xs):w.drew.ownsRow base e 1 v n xs:=h
theorem own_cells {w:World} {base n:Nat} {e:TypeId} {v:Value} {xs:List Value} (h:w.ownsRow base e 1 v n xs):v.cells = #[v]:=by
 rcases h.2 with ⟨rfl,_⟩ | ⟨g,cap,cur,rfl,_⟩ <;> rfl
theorem own_oneCell {w:World} {base n:Nat} {e:TypeId} {v:Value} {xs:List Value} (h:w.ownsRow base e 1 v n xs):v.oneCell' = true:=by
 rcases h.2 with ⟨rfl,_⟩ | ⟨g,cap,cur,rfl,_⟩ <;> rfl
theorem Kp.drew {q:Nat} {r:Option Nat} {a b:World} (h:Kp q r a b):Kp q r a b.drew:=⟨h.os,h.tape,h.output,h.size,h.block⟩
theorem slice_block {a:Option Addr} {n m c d:Nat}:(Value.slice a n c).ownBlock = (Value.slice a m d).ownBlock:=by cases a <;> rfl
theorem cut_block {a:Option Addr} {n l c d m:Nat}:(Value.slice (if c = l then a else a.map (fun x=>x.add l)) m d).ownBlock = (Value.slice a n c).ownBlock:=by
 split
 ·exact slice_block
 ·cases a with
  | none=>rfl
  | some x=>simp [Value.ownBlock,Addr.add];split <;> rfl
theorem count_set:∀ (l:List Bool) (i:Nat),l[i]? = some false → (l.set i true).count false + 1 = l.count false
 | [],i,h=>by simp at h
 | b :: l,0,h=>by
  simp at h
  subst h
  simp
 | b :: l,i + 1,h=>by
  have:=count_set l i (by simpa using h)
  cases b <;> simp <;> omega
theorem count_none {l:List Bool} (h:l.count false = 0) (i:Nat):l[i]?.getD true = true:=by
 cases hq:l[i]? with
 | none=>rfl
 | some b =>
  cases b
  ·exact absurd (List.count_pos_iff.2 (List.mem_of_getElem? hq)) (by omega)
  ·rfl
section
variable {P:Program} {md:Region.Mode} {ops:Array Oper} {Q:Exit → Act → World → Prop}
theorem wpAny_inv (I:Array Bool → Act → World → Prop)
  (hs:∀ l b w,I l b w → ∀ i ∈ Region.ready md ops l,wpOp P ops Q i (fun b' w'=>I (l.setIfInBounds i true) b' w') b w)
  (he:∀ l b w,I l b w → Region.ready md ops l = [] → Q .normal b w) :
  ∀ (fuel:Nat) (l:Array Bool) (b:Act) (w:World),l.toList.count false ≤ fuel → I l b w → wpAny P md ops Q fuel l b w
 | 0,l,b,w,hc,h=>by
  have hr:Region.ready md ops l = []:=by
   rw [List.eq_nil_iff_forall_not_mem]
   intro j hj
   have h0:=(mem_ready.1 hj).1
   have:=count_none (l:=l.toList) (by omega) j
   rw [Array.getD_eq_getD_getElem?,← Array.getElem?_toList,this] at h0
   cases h0
  exact ⟨hr,he l b w h hr⟩
 | fuel + 1,l,b,w,hc,h=>⟨fun hr=>he l b w h hr,fun i hi=>wpOp_mono (fun b' w' h'=>by
   refine wpAny_inv I hs he fuel _ b' w' ?_ h'
   have h0:=(mem_ready.1 hi).1
   have h1:l.toList[i]? = some false:=by
    rw [Array.getElem?_toList]
    rw [Array.getD_eq_getD_getElem?] at h0
    cases hq:l[i]? with
    | none=>rw [hq] at h0;cases h0
    | some c=>rw [hq] at h0;simpa using h0
   have:=count_set l.toList i h1
   rw [Array.toList_setIfInBounds]
   omega) (hs l b w h i hi)⟩
theorem wp_region_inv {L:List Oper} {id:Nat} {a:Act} {w:World} (hm:P.follows .mixedOrders = true) (I:Act → Array Bool → Act → World → Prop)
  (h0:I a (Array.replicate L.toArray.size false) a w.drew)
  (hs:∀ l b w',I a l b w' → ∀ i ∈ Region.ready .any L.toArray l,wpOp P L.toArray Q i (fun b' w''=>I a (l.setIfInBounds i true) b' w'') b w')
  (he:∀ l b w',I a l b w' → Region.ready .any L.toArray l = [] → Q .normal b w'):(Code.region id L.toArray true).wp P Q a w :=
 wp_region_any hm (wpAny_inv (I a) hs he _ _ _ _ (by
  rw [Array.toList_replicate]
  exact Nat.le_trans (List.count_le_length) (by simp)) h0)
theorem wpOp_inv {L:List Oper} {i:Nat} {o:Oper} {I:Act → World → Prop} {b:Act} {w:World} (ho:L[i]? = some o) (hg:o.guard = none)
  (h:∀ K:Act → World → Prop,Shut (∀ b' w',I b' w' → K b' w') → o.wp P b w K Q):wpOp P L.toArray Q i I b w:=by
 unfold wpOp
 rw [show L.toArray[i]? = some o from getL ho]
 simp only [Region.wanted,hg,if_true]
 exact .inl (h I (fun b' w' h'=>h'))
theorem ready_not {L:List Oper} {l:Array Bool} {i:Nat} (hi:i ∈ Region.ready md L.toArray l):l.getD i true = false:=(mem_ready.1 hi).1
theorem ready_dep {L:List Oper} {l:Array Bool} {i k:Nat} {o:Oper} {e:Edge} (hi:i ∈ Region.ready md L.toArray l) (ho:L[i]? = some o) (hk:o.after[k]? = some e) (hb:Region.binds md e = true):l.getD e.on false = true:=by
 obtain ⟨_,o',ho',hall⟩:=mem_ready.1 hi
 rw [getL ho] at ho'
 cases ho'
 exact hall e (Array.mem_of_getElem? hk) hb
theorem ready_lt {L:List Oper} {l:Array Bool} {i:Nat} (hi:i ∈ Region.ready md L.toArray l):i < L.length:=by
 obtain ⟨_,o',ho',_⟩:=mem_ready.1 hi
 have:=(Array.getElem?_eq_some_iff.1 ho').1
 simpa using this
theorem ready_nil {L:List Oper} {l:Array Bool} {i:Nat} {o:Oper} (h:Region.ready md L.toArray l = []) (ho:L[i]? = some o) (hd:(o.after.toList.all fun e=>!Region.binds md e || l.getD e.on false) = true):l.getD i true = true:=by
 cases hq:l.getD i true
 ·have:i ∈ Region.ready md L.toArray l:=mem_ready.2 ⟨hq,o,getL ho,fun e he hb=>by
   have:=List.all_eq_true.1 hd e (Array.mem_toList_iff.2 he)
   rw [hb] at this
   simpa using this⟩
  rw [h] at this
  cases this
 ·rfl
end
def depsP (md:Region.Mode) (l:Array Bool):List Edge → Prop
 | []=>True
 | e :: r=>match Region.binds md e with
  | true=>l.getD e.on false = true ∧ depsP md l r
  | false=>depsP md l r
theorem depsP_all {md:Region.Mode} {l:Array Bool}:∀ {r:List Edge},(∀ e ∈ r,Region.binds md e = true → l.getD e.on false = true) → depsP md l r
 | [],_=>trivial
 | e :: r,h=>by
  have h2:=depsP_all (md:=md) (l:=l) (r:=r) (fun e he=>h e (List.mem_cons_of_mem _ he))
  have h1:=h e List.mem_cons_self
  unfold depsP
  cases hb:Region.binds md e with
  | true=>exact ⟨h1 hb,h2⟩
  | false=>exact h2
theorem rin {md:Region.Mode} {L:List Oper} {l:Array Bool} {i:Nat} {o:Oper} (hi:i ∈ Region.ready md L.toArray l) (ho:L[i]? = some o):l.getD i true = false ∧ depsP md l o.after.toList:=by
 obtain ⟨h,o',ho',hall⟩:=mem_ready.1 hi
 rw [getL ho] at ho'
 cases ho'
 exact ⟨h,depsP_all fun e he=>hall e (Array.mem_toList_iff.1 he)⟩
theorem rall {md:Region.Mode} {L:List Oper} {l:Array Bool} (h:Region.ready md L.toArray l = []) (hl:l.size = L.length) (hd:(L.zipIdx.all fun x=>x.1.after.toList.all fun e=>!Region.binds md e || decide (e.on < x.2)) = true):l.toList = List.replicate l.size true:=by
 have key:∀ n,∀ i,i < n → i < L.length → l[i]? = some true:=by
  intro n
  induction n with
  | zero=>intro i hi;omega
  | succ n ih =>
   intro i hi hL
   have ho:L[i]? = some L[i]:=List.getElem?_eq_getElem hL
   have h1:l.getD i true = true:=ready_nil h ho (by
    rw [List.all_eq_true]
    intro e he
    have h2:=List.all_eq_true.1 (List.all_eq_true.1 hd (L[i],i) (by rw [List.mk_mem_zipIdx_iff_getElem?];exact ho)) e he
    cases hb:Region.binds md e with
    | false=>rfl
    | true =>
     rw [hb] at h2
     have h3:e.on < i:=by simpa using h2
     have h4:=ih e.on (by omega) (by omega)
     rw [Array.getD_eq_getD_getElem?,h4]
     rfl)
   have hs:i < l.size:=by omega
   rw [Array.getD_eq_getD_getElem?,Array.getElem?_eq_getElem hs] at h1
   rw [Array.getElem?_eq_getElem hs]
   simpa using h1
 apply List.ext_getElem?
 intro i
 rw [Array.getElem?_toList,List.getElem?_replicate]
 by_cases hi:i < l.size
 ·rw [if_pos hi];exact key (i + 1) i (by omega) (by omega)
 ·rw [if_neg hi];exact Array.getElem?_eq_none (by omega)
theorem callOK {P:Program} {f:FuncId} {args:Array Value} {w0 w:World} {rows:List Cell3} {v:Value} {R:Ending → World → Prop} (c:Calls P f args w fun e w'=>e = .returned v ∧ Below w.heap.size w w') (h:Fr w0 w rows)
  (k:∀ e w',e = .returned v → Fr w0 w' rows → R e w'):Calls P f args w R:=c.mono fun e w' ⟨he,hb⟩=>k e w' he (h.below hb)
def putsA (a:Act):List (Nat × Bool × Value × Value) → Act
 | []=>a
 | (s,b,v,u) :: r=>putsA (a.put (some s) (bif b then v else u)) r
def opt (L:List (Bool × Cell3)):List Cell3:=(L.filter (·.1)).map (·.2)
theorem opt_split {L:List (Bool × Cell3)} {k:Nat} {b:Bool} {x:Cell3} (h:L[k]? = some (b,x)):opt L = opt (L.take k) ++ ((bif b then [x] else []) ++ opt (L.drop (k + 1))):=by
 have hk:=(List.getElem?_eq_some_iff.1 h).1
 have e:L = L.take k ++ (b,x) :: L.drop (k + 1):=by
  have h1:=(List.getElem?_eq_some_iff.1 h).2
  rw [← h1,← List.drop_eq_getElem_cons hk,List.take_append_drop]
 conv=>lhs;rw [e]
 unfold opt
 rw [List.filter_append,List.map_append,List.filter_cons]
 cases b <;> simp
theorem opt_set {L:List (Bool × Cell3)} {k:Nat} {y z:Bool × Cell3} (h:L[k]? = some z):opt (L.set k y) = opt (L.take k) ++ ((bif y.1 then [y.2] else []) ++ opt (L.drop (k + 1))):=by
 have hk:=(List.getElem?_eq_some_iff.1 h).1
 have h2:(L.set k y)[k]? = some (y.1,y.2):=by rw [List.getElem?_set_self hk]
 rw [opt_split h2,List.take_set_of_le (Nat.le_refl k),List.drop_set_of_lt (by omega)]
theorem Fr.on {w0 w:World} {L:List (Bool × Cell3)} (h:Fr w0 w (opt L)) {k:Nat} {x:Cell3} (hk:L[k]? = some (false,x)) (t:TypeId) (us:List Value):∃ g,w.heap.size = g ∧ Fr w0 (w.alloc (.cells us.toArray t)) (opt (L.set k (true,(g,t,us)))):=by
 rw [opt_split hk] at h
 obtain ⟨g,e,h2⟩:=h.more (opt (L.take k)).length t us
 refine ⟨g,e,?_⟩
 rw [opt_set hk]
 simpa using h2
theorem Fr.rowo {w0 w:World} {L:List (Bool × Cell3)} (h:Fr w0 w (opt L)) {k g:Nat} {t:TypeId} {us:List Value} (hk:L[k]? = some (true,(g,t,us))):Row w g t us :=
 h.all (g,t,us) (by rw [opt_split hk];simp)
theorem Fr.puto {w0 w w':World} {L:List (Bool × Cell3)} (h:Fr w0 w (opt L)) {k g:Nat} {t:TypeId} {us us':List Value} (hk:L[k]? = some (true,(g,t,us))) (hr:Row w' g t us') (hg:w.grownBy w' (some g)):Fr w0 w' (opt (L.set k (true,(g,t,us')))):=by
 have e:(opt L)[(opt (L.take k)).length]? = some (g,t,us):=by rw [opt_split hk];simp
 have h2:=h.put e hr hg
 rw [opt_set hk]
 rw [opt_split hk] at h2
 simpa using h2
theorem wp_value {P:Program} {w:World} {o:Oper} {a:Act} {K:Act → World → Prop} {Q:Exit → Act → World → Prop} (v:Value) (h:(execOp a.eval o).run P w = .ok (.value v) w) (hk:K (a.put o.dst v) w):o.wp P a w K Q:=by
 unfold Oper.wp
 rw [h]
 exact hk
theorem Fr.five (w:World) (t1 t2 t3 t4 t5:TypeId) (us vs xs ys zs:List Value):∃ w4:World,((((w.alloc (.cells us.toArray t1)).alloc (.cells vs.toArray t2)).alloc (.cells xs.toArray t3)).alloc (.cells ys.toArray t4)).alloc (.cells zs.toArray t5) = w4 ∧ Fr w w4 [(w.heap.size,t1,us),(w.heap.size + 1,t2,vs),(w.heap.size + 1 + 1,t3,xs),(w.heap.size + 1 + 1 + 1,t4,ys),(w.heap.size + 1 + 1 + 1 + 1,t5,zs)]:=by
 obtain ⟨w2,e,h⟩:=Fr.three w t1 t2 t3 us vs xs
 obtain ⟨g2,e2,h2⟩:=h.more 3 t4 ys
 obtain ⟨g3,e3,h3⟩:=h2.more 4 t5 zs
 have hs:w2.heap.size = w.heap.size + 1 + 1 + 1:=by rw [← e,alloc_size,alloc_size,alloc_size]
 subst e2
 subst e3
 rw [alloc_size,hs] at h3
 rw [e]
 exact ⟨_,rfl,h3⟩
end Go.Proofs.YtmjimilhomabfaaGreatDoor
