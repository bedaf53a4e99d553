/-
 A slice as an array, an array out of any slice's cells, literal slices, two arrays as results: over any program. Conditions: each as it says.
-/
import Derived.Test.YtmjimilhomabfaaGreatDoorK14
import Derived.Great.BuildSlice
namespace Go.Proofs.YtmjimilhomabfaaGreatDoor
open Go.RowKit
set_option linter.unusedVariables false
theorem exec_arrayAt {P:Program} {w:World} {o:Oper} {ev:Operand → Value} (ty:TypeId) (x:Operand) (ho:o.op = .sliceToArrayPointer ty x) {ad:Option Addr} {len cap n:Nat} {e:TypeId} (hx:ev x = .slice ad len cap)
  (hu:P.underlying ty = some (.array n e)) (hn:n ≤ len):(execOp ev o).run P w = .ok (.value (.pointer ad)) w:=by
 unfold execOp
 simp [ho,hx,Instr.arrayAt,Sem.run_bind,run_underlying hu,Nat.not_lt.2 hn]
theorem wpList_arrayAt {P:Program} {ops:Array Oper} {rest:List Oper} {o:Oper} {a:Act} {w:World} {Q:Exit → Act → World → Prop} (hgd:o.guard = none) (ty:TypeId) (x:Operand) (ho:o.op = .sliceToArrayPointer ty x)
  {ad:Option Addr} {len cap n:Nat} {e:TypeId} (hx:a.eval x = .slice ad len cap) (hu:P.underlying ty = some (.array n e)) (hn:n ≤ len)
  (h:wpList P ops Q rest (a.put o.dst (.pointer ad)) w):wpList P ops Q (o :: rest) a w:=by
 refine wpList_plain hgd fun K hK=>?_
 unfold Oper.wp
 rw [exec_arrayAt ty x ho hx hu hn]
 exact hK _ _ h
theorem run_load_sl {P:Program} (w:World) {b off n cap m:Nat} {ty e:TypeId} {us:List Value} (hs:SlV w (.slice (some ⟨b,off,none⟩) m cap) us) (hl:us.length = n) (hp:0 < n) (hu:P.underlying ty = some (.array n e)) (hi:(P.info? ty).map (·.size) = some n) :
  (loadVar ty ⟨b,off,none⟩).run P w = .ok (.agg us.toArray) w:=by
 obtain ⟨a',c',e1,_,_,_,hc⟩:=hs
 obtain ⟨b',off',e2,hc⟩:=hc (by omega)
 simp only [Value.slice.injEq] at e1
 obtain ⟨e1,_,_⟩:=e1
 rw [← e1] at e2
 simp only [Option.some.injEq,Addr.mk.injEq,and_true] at e2
 obtain ⟨rfl,rfl⟩:=e2
 have hlo:(loadCells ⟨b,off,none⟩ us.length).run P w = .ok us.toArray w :=
  run_loadCells_list (P:=P) w ⟨b,off,none⟩ us (fun j v hv=>by
   rw [Addr.add_lit]
   exact hc j v hv)
 cases hq:P.info? ty with
 | none=>simp [hq] at hi
 | some i =>
  have hs:i.size = us.length:=by rw [hl];simpa [hq] using hi
  have hagg:(isAgg ty).run P w = .ok true w:=by
   unfold isAgg
   rw [Sem.run_bind,run_underlying hu w]
   simp
  simp [loadVar,Sem.run_bind,hagg,sizeOf,typeInfo,hq,hs,hlo]
theorem exec_load_sl {P:Program} {w:World} {o:Oper} {ev:Operand → Value} (ty:TypeId) (x:Operand) (ho:o.op = .load ty x) {b off n cap m:Nat} {e:TypeId} {us:List Value} (hx:ev x = .pointer (some ⟨b,off,none⟩))
  (hs:SlV w (.slice (some ⟨b,off,none⟩) m cap) us) (hl:us.length = n) (hp:0 < n) (hu:P.underlying ty = some (.array n e)) (hi:(P.info? ty).map (·.size) = some n):(execOp ev o).run P w = .ok (.value (.agg us.toArray)) w:=by
 unfold execOp
 simp only [ho,hx,Instr.loadAt,Instr.sureAddr,Sem.run_bind,Sem.run_pure,Result.andThen_ok,run_load_sl w hs hl hp hu hi]
theorem fill_parts {P:Program} {t e:TypeId} {a:Act} {len:Nat} {parts:Array (Nat × Operand)} {vs:List Value} (hl:vs.length = len) (h1:vs.all (·.oneCell') = true) (hp:(parts.map fun (i,x)=>(i,a.eval x)).toList = (vs.zipIdx 0).map fun x=>(x.2,x.1)) (z:Value) :
  Instr.fill (fun i=>some (i * 1,1)) ((Array.range (len * 1)).map (z.cells[· % z.cells.size]!)) (parts.map fun (i,x)=>(i,a.eval x)).toList = some vs.toArray:=by
 rw [hp]
 refine Great.fill_flat _ _ (fun v hv=>?_) (by simp [hl])
 have h2:=List.all_eq_true.1 h1 v hv
 cases v <;> first | rfl | cases h2
theorem wp_parts {P:Program} {o:Oper} {a:Act} {w:World} {K:Act → World → Prop} {Q:Exit → Act → World → Prop} (t e:TypeId) (len:Nat) (parts:Array (Nat × Operand)) (ho:o.op = .buildSlice t len parts) (vs:List Value)
  (hp:(parts.map fun (i,x)=>(i,a.eval x)).toList = (vs.zipIdx 0).map fun x=>(x.2,x.1)) (hu:P.underlying t = some (.slice e)) (hsz:(P.info? e).map (·.size) = some 1) (hz:((P.info? e).bind (·.zero)).isSome = true) (hl:vs.length = len) (hpos:0 < len) (hlen:len ≤ 100) (h1:vs.all (·.oneCell') = true)
  (h:K (a.put o.dst (.slice (some ⟨w.heap.size,0,none⟩) len len)) (w.alloc (.cells vs.toArray e))):o.wp P a w K Q:=by
 cases hie:P.info? e with
 | none=>simp [hie] at hsz
 | some ie =>
  simp only [hie,Option.map_some,Option.some.injEq,Option.bind_some] at hsz hz
  obtain ⟨z,hzz⟩:=Option.isSome_iff_exists.1 hz
  refine wp_buildSlice t e len parts ho _ ie z hu hie hzz (by rw [hsz];omega) (by rw [hsz];omega) ?_ h
  rw [hsz]
  exact fill_parts (P:=P) (t:=t) (e:=e) hl h1 hp z
theorem wpList_parts {P:Program} {ops:Array Oper} {rest:List Oper} {o:Oper} {a:Act} {w:World} {Q:Exit → Act → World → Prop} (hgd:o.guard = none) (t e:TypeId) (len:Nat) (parts:Array (Nat × Operand)) (ho:o.op = .buildSlice t len parts) (vs:List Value)
  (hp:(parts.map fun (i,x)=>(i,a.eval x)).toList = (vs.zipIdx 0).map fun x=>(x.2,x.1)) (hu:P.underlying t = some (.slice e)) (hsz:(P.info? e).map (·.size) = some 1) (hz:((P.info? e).bind (·.zero)).isSome = true) (hl:vs.length = len) (hpos:0 < len) (hlen:len ≤ 100) (h1:vs.all (·.oneCell') = true)
  (h:wpList P ops Q rest (a.put o.dst (.slice (some ⟨w.heap.size,0,none⟩) len len)) (w.alloc (.cells vs.toArray e))):wpList P ops Q (o :: rest) a w :=
 wpList_plain hgd fun _ hK=>wp_parts t e len parts ho vs hp hu hsz hz hl hpos hlen h1 (hK _ _ h)
theorem wp_copy32 {P:Program} {w:World} {o:Oper} {a:Act} {K:Act → World → Prop} {Q:Exit → Act → World → Prop} (d s:Operand) (t:TypeId)
  (ho:o.op = .call { callee:=.builtin .copy,args:=#[d,s],argTypes:=#[t,t] }) (e:TypeId) (hu:P.underlying t = some (.slice e)) (hsz:(P.info? e).map (·.size) = some 1)
  (g off cap k sc:Nat) (us F vs:List Nat) {eb ek:TypeId} (hd:a.eval d = .slice (some ⟨g,off,none⟩) 32 cap) (hs:a.eval s = .slice (some ⟨k,0,none⟩) 32 sc)
  (hg:Row w g eb (C .u8 us)) (hk:Row w k ek (C .u8 F)) (hl:us.length = 64) (lF:F.length = 32) (hn:off + 32 ≤ 64) (hv:us.take off ++ (F ++ us.drop (off + 32)) = vs)
  (h:∀ w',Row w' g eb (C .u8 vs) → w.grownBy w' (some g) → w'.heap.size = w.heap.size → K (a.put o.dst (goInt 32)) w'):o.wp P a w K Q:=by
 have hF:(C .u8 F).length = 32:=by rw [C_length,lF]
 have hrun:=run_copy_row (P:=P) w t t o.type e g off 32 cap ⟨k,0,none⟩ 32 sc (C .u8 us).toArray eb (C .u8 F) hu hsz hg (by rw [hF];rfl) (fun j v hv=>by
   rw [Addr.add_lit,Nat.zero_add,hk.cell]
   exact hv) (by simp [C_length];omega) (fun v hv=>C_one _ _ v hv)
 have e2:(C .u8 us).take off ++ (C .u8 F ++ (C .u8 us).drop (off + 32)) = C .u8 vs:=by rw [← C_take,← C_drop,← C_append,← C_append,hv]
 have:=h _ (hg.setRow (C .u8 vs)) ⟨rfl,rfl,rfl,by simp,fun k _ hk=>setRow_other w g k _ (fun e=>hk (by rw [e]))⟩ (by simp)
 unfold Oper.wp
 simp [execOp,ho,resolve,invoke,builtin,hd,hs,hrun,Result.andThen]
 rw [hF]
 rw [← e2] at this
 exact this
theorem wpOp_invW {P:Program} {Q:Exit → Act → World → Prop} {L:List Oper} {i:Nat} {o:Oper} {I:Act → World → Prop} {b:Act} {w:World} (ho:L[i]? = some o) (hw:Region.wanted o (yielded L.toArray b.tmps) = true)
  (h:∀ K:Act → World → Prop,Shut (∀ b' w',I b' w' → K b' w') → o.wp P b w K Q):wpOp P L.toArray Q i I b w:=by
 unfold wpOp
 rw [show L.toArray[i]? = some o from getL ho]
 simp only [hw,if_true]
 exact .inl (h I (fun b' w' h'=>h'))
theorem result_cells2 {P:Program} {fn:Func} {R:Ending → World → Prop} {a:Act} {w:World} {p q:Tmp} {ty tz:TypeId} (hr:fn.results = #[.cell p ty,.cell q tz]) {g k:Nat} {us vs:List Value} {d f:TypeDesc}
  (hp:a.tmps.getD p undef = .pointer (some ⟨g,0,none⟩)) (hq:a.tmps.getD q undef = .pointer (some ⟨k,0,none⟩)) (hg:Row w g ty us) (hk:Row w k tz vs) (hu:P.underlying ty = some d) (hd:(match d with | .struct _ | .array _ _=>true | _=>false) = true) (hi:(P.info? ty).map (·.size) = some us.length)
  (hv:P.underlying tz = some f) (hf:(match f with | .struct _ | .array _ _=>true | _=>false) = true) (hj:(P.info? tz).map (·.size) = some vs.length)
  (hdf:a.defers = []) (h:R (.returned (.tuple #[.agg us.toArray,.agg vs.toArray])) w):bodyPost P fn R .ret a w:=by
 refine bodyPost_ret ?_ hdf h
 have hp':a.tmps[p]?.getD undef = .pointer (some ⟨g,0,none⟩):=by simpa using hp
 have hq':a.tmps[q]?.getD undef = .pointer (some ⟨k,0,none⟩):=by simpa using hq
 simp [results,hr,hp',hq',asAddr,run_loadVar_row w g ty ty us.toArray (0,0) d hg hu (by cases d <;> simp_all) (by simpa using hi),run_loadVar_row w k tz tz vs.toArray (0,0) f hk hv (by cases f <;> simp_all) (by simpa using hj)]
end Go.Proofs.YtmjimilhomabfaaGreatDoor
