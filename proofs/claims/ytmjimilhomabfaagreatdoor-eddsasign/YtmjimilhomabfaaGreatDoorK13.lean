/-
 Texts joined:  Kit Kit2 Kit3 Kit4 NatM Kit6 Kit7 Kit8 Kit10 Kit13 Kit14
-/
import Derived.WalkKit
import Derived.WalkSpells
import Derived.WalkLawsBesides
import Derived.BigQuiet
import Derived.Deep.QuietTactic
import Derived.Handy
import Derived.Deep.RegionHeld3
import Derived.Laws.CopyOwn
import Derived.Laws.AppendOwnNone
import Derived.Lib.Strings
import Derived.Lib.Bytealg
import Derived.Laws.BitsAllLaws
import Derived.ProofKit
import Derived.OpenShut
import Derived.WideShapes
import Derived.ChangeKeysEq
import Derived.Laws.OwnMore
import Derived.Laws.Rows
import Derived.LaidMore
import Derived.Stop.Joined
namespace Go.Proofs.YtmjimilhomabfaaGreatDoor
open Go.RowKit
set_option linter.unusedVariables false
def SlV (w:World) (v:Value) (xs:List Value):Prop :=
 ∃ a cap,v = .slice a xs.length cap ∧ xs.length ≤ cap ∧ cap ≤ maxLen ∧ (a = none → cap = 0) ∧
  (0 < xs.length → ∃ b off,a = some ⟨b,off,none⟩ ∧ ∀ i u,xs[i]? = some u → w.cell? ⟨b,off + i,none⟩ = some u)
def Byt (xs:List Int):Prop:=∀ n ∈ xs,0 ≤ n ∧ n ≤ 255
def U (xs:List Int):List Value:=xs.map (Value.int .u8)
theorem U_length (xs:List Int):(U xs).length = xs.length:=by simp [U]
theorem U_get (xs:List Int) (i:Nat) (h:i < xs.length):(U xs)[i]? = some (.int .u8 xs[i]):=by simp [U,h]
theorem Byt.nil:Byt []:=by intro n h;cases h
theorem Byt.append {xs ys:List Int} (h:Byt xs) (k:Byt ys):Byt (xs ++ ys):=by
 intro n hn;rcases List.mem_append.1 hn with h' | h'
 ·exact h n h'
 ·exact k n h'
theorem Byt.take {xs:List Int} (h:Byt xs) (n:Nat):Byt (xs.take n):=fun m hm=>h m (List.mem_of_mem_take hm)
theorem Byt.drop {xs:List Int} (h:Byt xs) (n:Nat):Byt (xs.drop n):=fun m hm=>h m (List.mem_of_mem_drop hm)
section
variable {w w':World} {v:Value} {xs:List Value}
theorem SlV.nil (w:World):SlV w (.slice none 0 0) []:=⟨none,0,rfl,Nat.le_refl _,Nat.zero_le _,fun _=>rfl,fun h=>absurd h (by simp)⟩
theorem SlV.keep (h:SlV w v xs) (hb:∀ b,v.ownBlock = some b → b < w.heap.size → w'.heap[b]? = w.heap[b]?):SlV w' v xs:=by
 obtain ⟨a,cap,rfl,h1,h2,h3,h4⟩:=h
 refine ⟨a,cap,rfl,h1,h2,h3,fun hp=>?_⟩
 obtain ⟨b,off,rfl,hc⟩:=h4 hp
 refine ⟨b,off,rfl,fun i u hu=>?_⟩
 have hcu:=hc i u hu
 have hlt:b < w.heap.size:=World.block_lt_of_cell? w _ hcu
 rw [World.cell?_of_block (w:=w) (hb b rfl hlt)]
 exact hcu
theorem SlV.below (h:SlV w v xs) (hb:Below w.heap.size w w'):SlV w' v xs:=h.keep fun b _ hlt=>hb.block b hlt
theorem SlV.grown {row:Option Nat} (h:SlV w v xs) (hg:w.grownBy w' row) (hne:∀ b,v.ownBlock = some b → some b ≠ row):SlV w' v xs:=h.keep fun b e hlt=>hg.block b hlt (hne b e)
theorem SlV.ofOwn {base:Nat} {e:TypeId} {n:Nat} (h:w.ownsRow base e 1 v n xs):SlV w v xs:=by
 have hl:=h.1
 rw [Nat.mul_one] at hl
 rcases h.2 with ⟨rfl,rfl⟩ | ⟨g,cap,cur,rfl,_,hg,hnc,hcm,hcs,htake⟩
 ·have:xs = []:=List.eq_nil_of_length_eq_zero hl
  subst this;exact SlV.nil w
 ·subst hl
  refine ⟨_,cap,rfl,hnc,hcm,fun h=>by simp at h,fun _=>⟨g,0,rfl,fun i u hu=>?_⟩⟩
  have:=h.cells (g:=g) rfl i u hu
  rw [Addr.add_lit] at this
  exact this
theorem own_base {base base':Nat} {e:TypeId} {size n:Nat} (h:w.ownsRow base e size v n xs) (hb:base' ≤ base):w.ownsRow base' e size v n xs:=by
 refine ⟨h.1,?_⟩
 rcases h.2 with hn | ⟨g,cap,cur,hv,hg,r⟩
 ·exact .inl hn
 ·exact .inr ⟨g,cap,cur,hv,Nat.le_trans hb hg,r⟩
theorem own_block {base:Nat} {e:TypeId} {size n:Nat} (h:w.ownsRow base e size v n xs):∀ b,v.ownBlock = some b → base ≤ b ∧ b < w.heap.size:=h.lt
theorem SlV.shape (h:SlV w v xs):∃ a cap,v = .slice a xs.length cap ∧ xs.length ≤ cap ∧ cap ≤ maxLen:=by
 obtain ⟨a,cap,rfl,h1,h2,_,_⟩:=h;exact ⟨a,cap,rfl,h1,h2⟩
theorem SlV.cellAt {b off n cap:Nat} (h:SlV w (.slice (some ⟨b,off,none⟩) n cap) xs) {i:Nat} {u:Value} (hu:xs[i]? = some u):w.cell? ⟨b,off + i,none⟩ = some u:=by
 obtain ⟨a,c,e,_,_,_,h4⟩:=h
 have hp:0 < xs.length:=by have:=(List.getElem?_eq_some_iff.1 hu).1;omega
 obtain ⟨b',off',rfl,h5⟩:=h4 hp
 simp only [Value.slice.injEq,Option.some.injEq,Addr.mk.injEq,and_true] at e
 obtain ⟨⟨rfl,rfl⟩,-,-⟩:=e
 exact h5 i u hu
theorem SlV.len (h:SlV w v xs):xs.length ≤ maxLen:=by obtain ⟨a,cap,_,h1,h2,_⟩:=h;omega
end
section
variable {P:Program} (w:World)
theorem run_string (src dst e:TypeId) (hs:P.underlying src = some (.slice e)) (he:P.underlying e = some (.int .u8)) (hd:P.underlying dst = some .string) (v:Value) (xs:List Int) (h:SlV w v (U xs)) :
  (convert src dst v).run P w = .ok (.string (strOfNums xs)) w:=by
 obtain ⟨a,cap,rfl,h1,h2,h3,h4⟩:=h
 rw [U_length] at *
 by_cases hp:0 < xs.length
 ·obtain ⟨b,off,rfl,hc⟩:=h4 hp
  refine run_convert_bytes_arg w src e hs he b off xs.length cap xs rfl (fun i hi=>?_) dst hd
  rw [hc i _ (U_get xs i hi)]
  simp [List.getD,List.getElem?_eq_getElem hi]
 ·have:xs = []:=List.eq_nil_of_length_eq_zero (by omega)
  subst this
  cases a with
  | none=>rw [run_convert_bytes_nil w src e hs he _ _ dst hd];rfl
  | some ad =>
   rw [run_convert_bytes_string w src dst e _ _ cap hs he hd]
   exact run_bytesToString w ad 0 cap [] (by simp [loadCells,loadCellsFrom])
end
theorem own_made {w:World} {base:Nat} {e:TypeId} {z:Value} {v:Value} {n:Nat} (h:w.ownsRow base e 1 v n (madeCells #[z] n).toList):w.ownsRow base e 1 v n (List.replicate n z):=by
 rwa [toList_madeCells_one] at h
theorem wpList_copy_full {P:Program} {w:World} {ops:Array Oper} {rest:List Oper} {o:Oper} {a:Act} {Q:Exit → Act → World → Prop} (hgd:o.guard = none) (d s:Operand) (t:TypeId)
  (ho:o.op = .call { callee:=.builtin .copy,args:=#[d,s],argTypes:=#[t,t] }) (e:TypeId) (hu:P.underlying t = some (.slice e)) (hsz:(P.info? e).map (·.size) = some 1)
  (base n cap m:Nat) (g:Nat) (xs ys:List Value) (sa:Option Addr) (sc:Nat) (hd:a.eval d = .slice (some ⟨g,0,none⟩) n cap) (hs:a.eval s = .slice sa m sc) (hm:m = ys.length)
  (hown:w.ownsRow base e 1 (.slice (some ⟨g,0,none⟩) n cap) n xs) (hsl:SlV w (.slice sa m sc) ys) (hle:ys.length ≤ n) (h1:∀ u ∈ ys,u.oneCell' = true)
  (h:∀ w',w'.ownsRow base e 1 (.slice (some ⟨g,0,none⟩) n cap) n (ys ++ xs.drop ys.length) → w.grownBy w' (some g) → w'.heap.size = w.heap.size → wpList P ops Q rest (a.put o.dst (goInt ys.length)) w') :
  wpList P ops Q (o :: rest) a w:=by
 subst hm
 obtain ⟨hlx,hrow⟩:=hown
 rcases hrow with ⟨h',_⟩ | ⟨g',cap',cur,h',hbg,hg,hnc,hcm,hcs,htake⟩
 ·simp at h'
 simp only [Value.slice.injEq,Option.some.injEq,Addr.mk.injEq,and_true,true_and] at h'
 obtain ⟨rfl,rfl⟩:=h'
 rw [Nat.mul_one] at hcs htake hlx
 have hfin:∀ ysl:List Value,ysl.length = ys.length → ysl = ys → (w.setRow g (cur.toList.take 0 ++ (ysl ++ cur.toList.drop (0 + ysl.length))).toArray).ownsRow base e 1 (.slice (some ⟨g,0,none⟩) n cap) n (ys ++ xs.drop ys.length):=by
  intro ysl _ he
  subst he
  refine ⟨by simp [hlx];omega,.inr ⟨g,cap,_,rfl,hbg,setRow_heap w g cur _ e _ hg,hnc,hcm,?_,?_⟩⟩
  ·simp [hcs];omega
  ·simp only [List.take_zero,List.nil_append,Nat.zero_add,Nat.mul_one]
   rw [List.take_append,List.take_of_length_le (by omega),← List.drop_take,htake]
 by_cases h0:ys.length = 0
 ·obtain rfl:ys = []:=List.eq_nil_of_length_eq_zero h0
  refine wpList_copy_nothing hgd d s t t ho e hu hsz _ _ _ _ _ _ hd hs (Nat.zero_min _) ?_
  exact h w ⟨by simp [hlx],.inr ⟨g,cap,cur,rfl,hbg,hg,hnc,hcm,by simpa using hcs,by simpa using htake⟩⟩ ⟨rfl,rfl,rfl,Nat.le_refl _,fun _ _ _=>rfl⟩ rfl
 ·obtain ⟨a',c',he,_,_,_,hc⟩:=hsl
  obtain ⟨b,off,rfl,hcell⟩:=hc (by omega)
  simp only [Value.slice.injEq] at he
  obtain ⟨rfl,-,-⟩:=he
  refine wpList_copy_own hgd d s t t ho e hu hsz g 0 n cap ⟨b,off,none⟩ ys.length sc hd hs cur e hg ys (by rw [show Nat.min ys.length n = min ys.length n from rfl];omega) (fun j u hu=>?_) (by omega) h1 ?_
  ·rw [Addr.add_lit];exact hcell j u hu
  ·exact h _ (hfin ys rfl rfl) ⟨rfl,rfl,rfl,by simp [World.setRow],fun k _ hk=>setRow_other w g k _ (fun e=>hk (by rw [e]))⟩ (by simp [World.setRow])
theorem wpList_append_sl {P:Program} {w:World} {ops:Array Oper} {rest:List Oper} {o:Oper} {a:Act} {Q:Exit → Act → World → Prop} (hgd:o.guard = none) (s x:Operand) (t:TypeId)
  (ho:o.op = .call { callee:=.builtin .append,args:=#[s,x],argTypes:=#[t,t] })
  (base:Nat) (e:TypeId) (z:Value) (bytes:Nat) (ht:P.underlying t = some (.slice e)) (hinfo:(P.info? e).map (fun i=>(i.zero,i.size,i.bytes)) = some (some z,1,bytes)) (hzs:z.cells.size = 1)
  (v:Value) (n:Nat) (xs:List Value) (hs:a.eval s = v) (hown:w.ownsRow base e 1 v n xs) (sv:Value) (ys:List Value) (hx:a.eval x = sv) (hsl:SlV w sv ys) (h1:∀ u ∈ ys,u.oneCell' = true)
  (h63:n + ys.length ≤ maxLen) (hbytes:(n + ys.length) * bytes ≤ 140737488355328) (hbase:base ≤ w.heap.size)
  (h:∀ v' w',w'.ownsRow base e 1 v' (n + ys.length) (xs ++ ys) → w.grownBy w' v.ownBlock → wpList P ops Q rest (a.put o.dst v') w'):wpList P ops Q (o :: rest) a w:=by
 obtain ⟨i0,hi,hz0,hz1,hz2⟩:=info_parts hinfo
 obtain ⟨a',c',rfl,hle,hcm,hnone,hc⟩:=hsl
 by_cases h0:a' = none
 ·subst h0
  obtain rfl:=hnone rfl
  obtain rfl:ys = []:=List.eq_nil_of_length_eq_zero (by omega)
  refine wpList_append_own_none hgd s x t ho base e i0 1 ht hi v n xs hs hown (by simpa using hx) ?_
  exact h v w (by simpa using hown) ⟨rfl,rfl,rfl,Nat.le_refl _,fun _ _ _=>rfl⟩
 ·obtain ⟨ad,rfl⟩:=Option.ne_none_iff_exists'.1 h0
  refine wpList_append_own w hgd s x t ho base e i0 z 1 bytes ht hi hz0 hz1 hz2 hzs (by decide) v n xs hs hown ad ys.length c' ys hx (by omega) ?_ h1 h63 hbytes hbase (fun v' w' p q _=>h v' w' p q)
  intro j u hu
  have hp:0 < ys.length:=by
   have:=(List.getElem?_eq_some_iff.1 hu).1
   omega
  obtain ⟨b,off,he,hcell⟩:=hc hp
  simp only [Option.some.injEq] at he
  subst he
  rw [Addr.add_lit];exact hcell j u hu
theorem SlV_one (w:World) (u:Value) (e:TypeId):SlV (w.alloc (.cells #[u] e)) (.slice (some ⟨w.heap.size,0,none⟩) 1 1) [u]:=by
 refine ⟨_,1,rfl,Nat.le_refl _,by unfold maxLen;omega,fun h=>by simp at h,fun _=>⟨_,_,rfl,?_⟩⟩
 intro i y hy
 match i,hy with
 | 0,hy=>simp at hy;subst hy;simp
theorem own_empty (w:World) (base:Nat) (e:TypeId) (hb:base ≤ w.heap.size):(w.alloc (.cells #[] e)).ownsRow base e 1 (.slice (some ⟨w.heap.size,0,none⟩) 0 0) 0 [] :=
 World.ownsRow_made w #[] 0 hb (Nat.zero_le _) rfl
theorem own_empty_at (w:World) (base g:Nat) (e:TypeId) (hg:g = w.heap.size) (hb:base ≤ w.heap.size):(w.alloc (.cells #[] e)).ownsRow base e 1 (.slice (some ⟨g,0,none⟩) 0 0) 0 []:=by
 subst hg;exact own_empty w base e hb
theorem below_of_drew {w w':World} (h:Below w.drew.heap.size w.drew w'):Below w.heap.size w w':=⟨h.os,h.tape,h.output,h.size,h.block⟩
theorem grown_below {w w':World} {row:Option Nat} {B:Nat} {w0:World} (hb:Below B w0 w) (hB:B ≤ w0.heap.size) (hg:w.grownBy w' row) (hr:∀ k,row = some k → B ≤ k):Below B w0 w' :=
 hb.grown hg (Nat.le_trans hB hb.size) hr
theorem SlV.cut {w:World} {a:Option Addr} {n cap:Nat} {xs:List Value} (h:SlV w (.slice a n cap) xs) (l m:Nat) (hl:l + m ≤ n):SlV w (.slice (a.map (fun x=>x.add l)) m (cap - l)) ((xs.drop l).take m):=by
 obtain ⟨a',c',he,h1,h2,h3,h4⟩:=h
 simp only [Value.slice.injEq] at he
 obtain ⟨rfl,rfl,rfl⟩:=he
 have hlen:((xs.drop l).take m).length = m:=by simp;omega
 refine ⟨_,cap - l,by rw [hlen],by omega,by omega,fun h=>?_,fun hp=>?_⟩
 ·have:=h3 (Option.map_eq_none_iff.1 h);omega
 ·obtain ⟨b,off,rfl,hc⟩:=h4 (by omega)
  refine ⟨b,off + l,by simp [Addr.add_lit],fun i u hu=>?_⟩
  rw [List.getElem?_take] at hu
  split at hu
  ·rw [List.getElem?_drop] at hu
   rw [Nat.add_assoc]
   exact hc _ _ hu
  ·cases hu
theorem SlV.cutEnd {w:World} {a:Option Addr} {n cap:Nat} {xs:List Value} (h:SlV w (.slice a n cap) xs) (l m:Nat) (hl:l + m ≤ n) (hc:cap = l):SlV w (.slice a m 0) ((xs.drop l).take m):=by
 obtain ⟨a',c',he,h1,h2,h3,h4⟩:=h
 simp only [Value.slice.injEq] at he
 obtain ⟨rfl,rfl,rfl⟩:=he
 obtain rfl:m = 0:=by omega
 exact ⟨a,0,by simp,by simp,Nat.zero_le _,fun _=>rfl,fun hp=>by simp at hp⟩
theorem SlV.cutIf {w:World} {a:Option Addr} {n cap:Nat} {xs:List Value} (h:SlV w (.slice a n cap) xs) (l m:Nat) (hl:l + m ≤ n):SlV w (.slice (if cap = l then a else a.map (fun x=>x.add l)) m (cap - l)) ((xs.drop l).take m):=by
 split
 ·rename_i hc
  have:=h.cutEnd l m hl hc
  rwa [hc,Nat.sub_self]
 ·exact h.cut l m hl
/-! Regions that draw their order,walked by hand: the operations as a list,so that each comes out written. -/
theorem getL {L:List Oper} {i:Nat} {o:Oper} (h:L[i]? = some o):(L.toArray)[i]? = some o:=by simpa using h
theorem wpAnyH_takeL {P:Program} {L:List Oper} {Q:Exit → Act → World → Prop} {md:Region.Mode} {S:World → Prop} {i:Nat} {oi:Oper} {v:Value} {fuel:Nat} {listed:Array Bool} {a:Act} {w:World} (hi:L[i]? = some oi)
  (hs:Region.noSelect L.toArray = true) (hf:Region.free md L.toArray listed i = true) (hr:(Region.ready md L.toArray listed).contains i = true)
  (hQ:∀ c a w,Q (.panic c) (a.put oi.dst v) w → Q (.panic c) a w) (hw:Region.wanted oi (yielded L.toArray a.tmps) = true) (hy:∀ w,S w → (execOp a.eval oi).run P w = .ok (.value v) w) (hS:S w)
  (h:wpAnyH P md L.toArray Q S fuel (listed.setIfInBounds i true) (a.put oi.dst v) w):wpAnyH P md L.toArray Q S (fuel + 1) listed a w :=
 wpAnyH_take (getL hi) hs hf hr hQ (.inl ⟨hw,hy⟩) hS h
theorem allReadyH_oneL {P:Program} {md:Region.Mode} {L:List Oper} {Q:Exit → Act → World → Prop} {S:World → Prop} {fuel:Nat} {listed:Array Bool} {a:Act} {w:World} {i:Nat} {o:Oper} (hr:Region.ready md L.toArray listed = [i]) (ho:L[i]? = some o) (hw:Region.wanted o (yielded L.toArray a.tmps) = true)
  (h:∀ K':Act → World → Prop,Shut (∀ a w,S w → (S w → wpAnyH P md L.toArray Q S fuel (listed.setIfInBounds i true) a w) → K' a w) → Oper.wp P o a w K' Q):wpAnyH P md L.toArray Q S (fuel + 1) listed a w :=
 wpAnyH_ready hr (by simp) (AllReadyH.cons (getL ho) (fun K hK=>by rw [if_pos hw];exact h K hK) AllReadyH.nil)
theorem stA {α:Type} (l:List α) (i:Nat) (a:α):l.toArray.setIfInBounds i a = (l.set i a).toArray:=List.setIfInBounds_toArray l i a
theorem st0 {α:Type} {x a:α} {xs:List α}:(x :: xs).set 0 a = a :: xs:=List.set_cons_zero
theorem st1 {α:Type} {x a:α} {xs:List α} {i:Nat}:(x :: xs).set (i + 1) a = x :: xs.set i a:=List.set_cons_succ
theorem tkL {P:Program} {L:List Oper} {Q:Exit → Act → World → Prop} {md:Region.Mode} {S:World → Prop} {oi:Oper} {fuel:Nat} {listed:Array Bool} {a:Act} {w:World} (i:Nat) (v:Value) (hi:L[i]? = some oi)
  (hy:∀ w,S w → (execOp a.eval oi).run P w = .ok (.value v) w) (h:wpAnyH P md L.toArray (NoPanic Q) S fuel (listed.setIfInBounds i true) (a.put oi.dst v) w)
  (hs:Region.noSelect L.toArray = true:=by kernel_rfl) (hf:Region.free md L.toArray listed i = true:=by kernel_rfl) (hr:(Region.ready md L.toArray listed).contains i = true:=by kernel_rfl)
  (hw:Region.wanted oi (yielded L.toArray a.tmps) = true:=by rfl) (hS:S w:=by assumption):wpAnyH P md L.toArray (NoPanic Q) S (fuel + 1) listed a w :=
 wpAnyH_takeL hi hs hf hr (fun _ _ _ h=>h) hw hy hS h
theorem ar1 {P:Program} {md:Region.Mode} {L:List Oper} {Q:Exit → Act → World → Prop} {S:World → Prop} {fuel:Nat} {listed:Array Bool} {a:Act} {w:World} (i:Nat) {o:Oper} (ho:L[i]? = some o)
  (h:∀ K':Act → World → Prop,Shut (∀ a w,S w → (S w → wpAnyH P md L.toArray Q S fuel (listed.setIfInBounds i true) a w) → K' a w) → Oper.wp P o a w K' Q)
  (hr:Region.ready md L.toArray listed = [i]:=by kernel_rfl) (hw:Region.wanted o (yielded L.toArray a.tmps) = true:=by rfl):wpAnyH P md L.toArray Q S (fuel + 1) listed a w:=allReadyH_oneL hr ho hw h
theorem tkg {P:Program} {L:List Oper} {Q:Exit → Act → World → Prop} {md:Region.Mode} {S:World → Prop} {oi:Oper} {v:Value} {fuel:Nat} {listed:Array Bool} {a:Act} {w:World} (i:Nat) (hi:L[i]? = some oi)
  (h:wpAnyH P md L.toArray (NoPanic Q) S fuel (listed.setIfInBounds i true) (a.put oi.dst v) w) (hy:∀ w,S w → (execOp a.eval oi).run P w = .ok (.value v) w:=by intro w hSw;go_simp <;> with_reducible rfl)
  (hs:Region.noSelect L.toArray = true:=by kernel_rfl) (hf:Region.free md L.toArray listed i = true:=by kernel_rfl) (hr:(Region.ready md L.toArray listed).contains i = true:=by kernel_rfl)
  (hw:Region.wanted oi (yielded L.toArray a.tmps) = true:=by rfl) (hS:S w:=by assumption):wpAnyH P md L.toArray (NoPanic Q) S (fuel + 1) listed a w :=
 wpAnyH_takeL hi hs hf hr (fun _ _ _ h=>h) hw hy hS h
def IsRow (k:IntKind) (w:World) (a:Option Addr) (len cap:Nat) (zs:List Int):Prop :=
 (a = none ∧ len = 0 ∧ cap = 0 ∧ zs = []) ∨
 ∃ x,a = some x ∧ len ≤ cap ∧ cap ≤ maxLen ∧ zs.length = cap ∧ (∀ i,i < zs.length → w.cell? (x.add i) = some (.int k (zs.getD i 0))) ∧ ∀ n ∈ zs,(Lit.int k n).wf = true
theorem IsRow.sl {k:IntKind} {w:World} {a:Option Addr} {len cap:Nat} {zs:List Int} (h:IsRow k w a len cap zs):SlV w (.slice a len cap) ((zs.take len).map (Value.int k)) ∧ (zs.take len).length = len ∧ ∀ n ∈ zs.take len,(Lit.int k n).wf = true:=by
 rcases h with ⟨rfl,rfl,rfl,rfl⟩ | ⟨x,rfl,hl,hm,hz,hcell,hwz⟩
 ·exact ⟨SlV.nil w,rfl,by simp⟩
 ·have hlen:(zs.take len).length = len:=by simp;omega
  refine ⟨⟨some x,cap,by simp;omega,by simp;omega,hm,fun h=>by simp at h,fun hp=>?_⟩,hlen,fun n hn=>hwz n (List.mem_of_mem_take hn)⟩
  obtain ⟨b,off,spot⟩:=x
  have hp':0 < zs.length:=by simp at hp;omega
  have hspot:spot = none:=by simpa [Addr.add] using World.cell?_spot (hcell 0 hp')
  subst hspot
  refine ⟨b,off,rfl,fun i u hu=>?_⟩
  have hi:i < zs.length ∧ i < len:=by
   have:=(List.getElem?_eq_some_iff.1 hu).1
   simp at this;omega
  have:=hcell i hi.1
  rw [Addr.add_lit] at this
  rw [this]
  simp [hi.2,List.getElem?_eq_getElem hi.1] at hu
  simp [List.getD,List.getElem?_eq_getElem hi.1,hu]
theorem byt_of_wf {xs:List Int} (h:∀ n ∈ xs,(Lit.int .u8 n).wf = true):Byt xs:=by
 intro n hn
 have:=h n hn
 simp [Lit.wf,IntKind.min,IntKind.max,IntKind.signed,IntKind.bits] at this
 omega
structure Away (p:Prop):Prop where
 out:p
theorem ret_int {k:IntKind} {a b:Int} (h:a = b):Ending.returned (.int k a) = .returned (.int k b):=by rw [h]
def lenS:Value → Nat
 | .slice _ n _=>n
 | _=>0
def lenT:Value → Nat
 | .string s=>s.size
 | _=>0
theorem SlV.cells {w:World} {a:Option Addr} {n cap:Nat} {xs:List Value} (h:SlV w (.slice a n cap) xs) (hp:0 < xs.length) :
  ∃ b off,a = some ⟨b,off,none⟩ ∧ b < w.heap.size ∧ ∀ i u,xs[i]? = some u → w.cell? ⟨b,off + i,none⟩ = some u:=by
 obtain ⟨a',c',e,_,_,_,h4⟩:=h
 simp only [Value.slice.injEq] at e
 obtain ⟨rfl,-,-⟩:=e
 obtain ⟨b,off,rfl,h5⟩:=h4 hp
 refine ⟨b,off,rfl,?_,h5⟩
 exact World.block_lt_of_cell? w _ (h5 0 _ (List.getElem?_eq_getElem hp))
theorem SlV.upto {w:World} {a:Option Addr} {n cap:Nat} {xs:List Value} (h:SlV w (.slice a n cap) xs) (m:Nat) (hm:m ≤ n):SlV w (.slice a m cap) (xs.take m):=by
 obtain ⟨a',c',e,q1,q2,q3,q4⟩:=h
 simp only [Value.slice.injEq] at e
 obtain ⟨rfl,rfl,rfl⟩:=e
 have hl:(xs.take m).length = m:=by rw [List.length_take];omega
 refine ⟨a,cap,by rw [hl],by omega,q2,q3,fun hp=>?_⟩
 obtain ⟨b,off,rfl,q5⟩:=q4 (by omega)
 refine ⟨b,off,rfl,fun i u hu=>q5 i u ?_⟩
 rw [List.getElem?_take] at hu
 split at hu
 ·exact hu
 ·cases hu
theorem cell_alloc {w:World} {b o:Nat} {u:Value} (h:w.cell? ⟨b,o,none⟩ = some u) (ob:Obj):(w.alloc ob).cell? ⟨b,o,none⟩ = some u :=
 (((Below.refl w.heap.size w).alloc (Nat.le_refl _) ob).cell (p:=⟨b,o,none⟩) (World.block_lt_of_cell? w _ h)).trans h
theorem grown_of_below {a b:World} (h:Below a.heap.size a b) (row:Option Nat):a.grownBy b row:=⟨h.os,h.tape,h.output,h.size,fun i hi _=>h.block i hi⟩
theorem own_below {w w':World} {B size:Nat} {e:TypeId} {v:Value} {n:Nat} {xs:List Value} (h:w.ownsRow B e size v n xs) (hb:Below w.heap.size w w'):w'.ownsRow B e size v n xs :=
 h.kept (row:=some w.heap.size) (grown_of_below hb _) (Or.inr (fun e=>by have:=(h.lt _ e).2;omega))
/-! Strings as lists of bytes. -/
theorem take_snoc {α:Type} {l:List α} {k:Nat} (h:k < l.length):l.take (k + 1) = l.take k ++ [l[k]]:=by rw [List.take_succ_eq_append_getElem h]
open Go.ChangeShapes Go.WideShapes
theorem mapM_ints {H:Type} {enc:TypeId × Value → H} {P:Program} {W:World} {base:Nat} {sp:Nat → Bool} {held:Bool} {e:TypeId} {q:IntKind} (he:P.underlying e = some (.int q)) {m:Nat} {cs:List Value} :
  ∀ (L:List Nat) (xs:List (DataW H × List MemPlace)),L.mapM (fun i=>DataW.trod enc P W base sp held m e ((cs.drop (i * 1)).take 1)) = some xs →
  ∀ i ∈ L,∃ z,(cs.drop i).take 1 = [.int q z] ∧ (Lit.int q z).wf = true
 | [],xs,h,i,hi=>by cases hi
 | j :: L,xs,h,i,hi=>by
  rw [List.mapM_cons] at h
  simp only [bind,Option.bind_eq_some_iff,pure,Option.some.injEq] at h
  obtain ⟨y,hy,ys,hys,rfl⟩:=h
  rcases List.mem_cons.1 hi with rfl | hi
  ·obtain ⟨a,ea,_,wa⟩:=DataW.trod_int he hy
   rw [Nat.mul_one] at ea
   exact ⟨a,ea,wa⟩
  ·exact mapM_ints he L ys hys i hi
theorem open_array {H:Type} {enc:TypeId × Value → H} {P:Program} {W:World} {base:Nat} {sp:Nat → Bool} {held:Bool} {t e:TypeId} {n:Nat} {q:IntKind} {r:Reach} {b0:Nat} {v:Value} {d:DataW H} {ps:List MemPlace}
  (hu:P.underlying t = some (.array n e)) (he:P.underlying e = some (.int q)) (hc:P.cellsOf e = 1) (hn:P.cellsOf t = n) (hval:Value.okWide P W r b0 t v) (hd:DataW.Trod enc P W base sp held t v d ps) :
  ∃ zs:List Int,v = .agg (zs.map (Value.int q)).toArray ∧ zs.length = n ∧ ∀ z ∈ zs,(Lit.int q z).wf = true:=by
 simp only [Value.okWide,hu] at hval
 obtain ⟨cs,rfl,h2,_⟩:=hval
 rw [hn] at h2
 obtain ⟨fuel,hf⟩:=hd
 cases fuel with
 | zero=>simp [DataW.trod] at hf
 | succ m =>
  rw [DataW.trod_step] at hf
  unfold DataW.trodStep at hf
  simp only [hu,Value.cells] at hf
  rw [if_pos (by rw [hn];simpa using h2)] at hf
  simp only [Option.map_eq_some_iff,hc] at hf
  obtain ⟨xs,hx,_⟩:=hf
  have hall:=mapM_ints he _ xs hx
  obtain ⟨l⟩:=cs
  simp only at hall h2
  have hg:∀ i (hi:i < l.length),∃ z,l[i] = .int q z ∧ (Lit.int q z).wf = true:=by
   intro i hi
   have hl:l.length = n:=by simpa using h2
   obtain ⟨z,hz,hw⟩:=hall i (List.mem_range.2 (by omega))
   refine ⟨z,?_,hw⟩
   rw [List.drop_eq_getElem_cons hi] at hz
   simp only [List.take_succ_cons,List.take_zero,List.cons.injEq,and_true] at hz
   exact hz
  refine ⟨l.map intOf,?_,by simpa using h2,?_⟩
  ·congr 2
   apply List.ext_getElem (by simp)
   intro i h1 h3
   obtain ⟨z,hz,_⟩:=hg i h1
   simp [hz,intOf]
  ·intro z hz
   obtain ⟨u,hu',rfl⟩:=List.mem_map.1 hz
   obtain ⟨i,hi,rfl⟩:=List.getElem_of_mem hu'
   obtain ⟨z,hz,hw⟩:=hg i hi
   rw [hz];simpa [intOf] using hw
theorem run_eqItems_ints {P:Program} (w:World) (d:Nat) {e:TypeId} {q:IntKind} (hp:P.plainKey e = true) (he:P.underlying e = some (.int q)) (xs ys:List Int):∀ (L:List Nat),(∀ i ∈ L,i < xs.length ∧ i < ys.length) →
  (Op.eqItems (d + 1) e 1 (xs.map (Value.int q)).toArray (ys.map (Value.int q)).toArray L).run P w = .ok (L.all fun i=>xs.getD i 0 == ys.getD i 0) w
 | [],_=>by simp [Op.eqItems]
 | i :: L,h=>by
  obtain ⟨h1,h2⟩:=h i (by simp)
  have p1:=run_part_plain (P:=P) w hp (xs:=(xs.map (Value.int q)).toArray) (off:=i * 1) (v:=.int q (xs.getD i 0)) (by simp [h1])
  have p2:=run_part_plain (P:=P) w hp (xs:=(ys.map (Value.int q)).toArray) (off:=i * 1) (v:=.int q (ys.getD i 0)) (by simp [h2])
  have p3:=run_equalIn_int (P:=P) w d e q q (xs.getD i 0) (ys.getD i 0) he
  have ih:=run_eqItems_ints w d hp he xs ys L fun j hj=>h j (by simp [hj])
  simp only [Op.eqItems,Sem.run_bind,p1,p2,p3,Result.andThen_ok,List.all_cons]
  cases hb:(xs.getD i 0 == ys.getD i 0)
  ·simp
  ·simpa using ih
theorem run_equal_ints {P:Program} (w:World) (d:Nat) {t e:TypeId} {n:Nat} {q:IntKind} {i:TypeInfo} (hu:P.underlying t = some (.array n e)) (hp:P.plainKey e = true) (he:P.underlying e = some (.int q)) (hi:P.info? e = some i) (hc:P.cellsOf e = 1)
  (xs ys:List Int) (hx:xs.length = n) (hy:ys.length = n):(Op.equalIn (d + 2) t (.agg (xs.map (Value.int q)).toArray) (.agg (ys.map (Value.int q)).toArray)).run P w = .ok (decide (xs = ys)) w:=by
 rw [run_equalIn_array w (d + 1) _ _ hu hi,hc,run_eqItems_ints w d hp he xs ys _ (fun i hi=>by have:=List.mem_range.1 hi;omega)]
 congr 1
 rw [Bool.eq_iff_iff]
 simp only [List.all_eq_true,List.mem_range,beq_iff_eq,decide_eq_true_eq]
 constructor
 ·intro h
  apply List.ext_getElem (by omega)
  intro i h1 h2
  simpa [List.getD,List.getElem?_eq_getElem h1,List.getElem?_eq_getElem h2] using h i (by omega)
 ·rintro rfl i _;rfl
theorem own_shape {w:World} {base:Nat} {e:TypeId} {size n:Nat} {v:Value} {xs:List Value} (h:w.ownsRow base e size v n xs) (hp:0 < n):∃ g cap,v = .slice (some ⟨g,0,none⟩) n cap ∧ base ≤ g ∧ g < w.heap.size ∧ n ≤ cap ∧ cap ≤ maxLen:=by
 rcases h.2 with ⟨_,hn⟩ | ⟨g,cap,cur,rfl,hb,hg,hnc,hcm,_⟩
 ·omega
 ·exact ⟨g,cap,rfl,hb,(h.lt g rfl).2,hnc,hcm⟩
def C (k:IntKind) (xs:List Nat):List Value:=xs.map fun (n:Nat)=>Value.int k (n:Int)
theorem C_length (k:IntKind) (xs:List Nat):(C k xs).length = xs.length:=by simp [C]
theorem C_append (k:IntKind) (xs ys:List Nat):C k (xs ++ ys) = C k xs ++ C k ys:=by simp [C]
theorem C_take (k:IntKind) (xs:List Nat) (n:Nat):C k (xs.take n) = (C k xs).take n:=by simp [C]
theorem C_drop (k:IntKind) (xs:List Nat) (n:Nat):C k (xs.drop n) = (C k xs).drop n:=by simp [C]
theorem C_set (k:IntKind) (xs:List Nat) (i z:Nat):C k (xs.set i z) = (C k xs).set i (.int k (z:Int)):=by simp [C,List.map_set]
theorem C_get (k:IntKind) {xs:List Nat} {i:Nat} (h:i < xs.length):(C k xs)[i]? = some (.int k (xs.getD i 0:Nat)):=by simp [C,h]
theorem C_one (k:IntKind) (xs:List Nat):∀ u ∈ C k xs,u.oneCell' = true:=by
 intro u hu
 obtain ⟨n,_,rfl⟩:=List.mem_map.1 hu
 rfl
theorem C_zeros (k:IntKind) (n:Nat):C k (List.replicate n 0) = List.replicate n (.int k 0):=by simp [C]
def Lo (b:Nat) (xs:List Nat):Prop:=∀ x ∈ xs,x < b
theorem Lo.nil (b:Nat):Lo b []:=by intro x h;cases h
theorem Lo.append {b:Nat} {xs ys:List Nat} (h:Lo b xs) (k:Lo b ys):Lo b (xs ++ ys):=by
 intro n hn;rcases List.mem_append.1 hn with h' | h'
 ·exact h n h'
 ·exact k n h'
theorem Lo.take {b:Nat} {xs:List Nat} (h:Lo b xs) (n:Nat):Lo b (xs.take n):=fun m hm=>h m (List.mem_of_mem_take hm)
theorem Lo.drop {b:Nat} {xs:List Nat} (h:Lo b xs) (n:Nat):Lo b (xs.drop n):=fun m hm=>h m (List.mem_of_mem_drop hm)
theorem Lo.set {b:Nat} {xs:List Nat} (h:Lo b xs) (i z:Nat) (hz:z < b):Lo b (xs.set i z):=by
 intro m hm
 rcases List.mem_or_eq_of_mem_set hm with h' | rfl
 ·exact h m h'
 ·exact hz
theorem Lo.getD {b:Nat} {xs:List Nat} (h:Lo b xs) (hb:0 < b) (i:Nat):xs.getD i 0 < b:=by
 by_cases hi:i < xs.length
 ·simp [List.getD,List.getElem?_eq_getElem hi];exact h _ (List.getElem_mem hi)
 ·simp [List.getD,List.getElem?_eq_none (Nat.le_of_not_lt hi)];exact hb
theorem Lo.zeros {b:Nat} (hb:0 < b) (n:Nat):Lo b (List.replicate n 0):=by
 intro x hx;rw [List.eq_of_mem_replicate hx];exact hb
theorem Lo.reverse {b:Nat} {xs:List Nat} (h:Lo b xs):Lo b xs.reverse:=fun m hm=>h m (List.mem_reverse.1 hm)
def Row (w:World) (g:Nat) (e:TypeId) (us:List Value):Prop:=w.heap[g]? = some (.cells us.toArray e (0,0))
section
variable {w w':World} {g:Nat} {e:TypeId} {us:List Value}
theorem Row.lt (h:Row w g e us):g < w.heap.size:=(Array.getElem?_eq_some_iff.1 h).1
theorem Row.cell (h:Row w g e us) (i:Nat):w.cell? ⟨g,i,none⟩ = us[i]?:=by
 simp [World.cell?,show w.heap[g]? = _ from h]
theorem Row.frozen (h:Row w g e us) (i:Nat):w.frozen? ⟨g,i,none⟩ = false:=by simp [World.frozen?,show w.heap[g]? = _ from h]
theorem Row.set (h:Row w g e us) (i:Nat) (u:Value):Row (w.setCell ⟨g,i,none⟩ u) g e (us.set i u):=by
 obtain ⟨hlt,hk⟩:=Array.getElem?_eq_some_iff.1 h
 show (w.heap.modify g _)[g]? = _
 rw [Array.getElem?_eq_getElem (by rw [Array.size_modify];exact hlt),Array.getElem_modify_self,hk]
 simp
theorem Row.keep (h:Row w g e us) (hb:w'.heap[g]? = w.heap[g]?):Row w' g e us:=hb.trans h
theorem Row.grown {row:Option Nat} (h:Row w g e us) (hg:w.grownBy w' row) (hne:some g ≠ row):Row w' g e us:=h.keep (hg.block g h.lt hne)
theorem Row.below {B:Nat} (h:Row w g e us) (hb:Below B w w') (hB:g < B):Row w' g e us:=h.keep (hb.block g hB)
theorem Row.belowS (h:Row w g e us) (hb:Below w.heap.size w w'):Row w' g e us:=h.below hb h.lt
theorem Row.other (h:Row w g e us) {b i:Nat} (u:Value) (hne:g ≠ b):Row (w.setCell ⟨b,i,none⟩ u) g e us:=h.keep (Below.heap_setCell _ _ _ _ hne)
theorem Row.alloc (h:Row w g e us) (o:Obj):Row (w.alloc o) g e us:=h.keep (Below.heap_alloc _ _ _ h.lt)
theorem Row.new (w:World) (e:TypeId) (us:List Value):Row (w.alloc (.cells us.toArray e)) w.heap.size e us:=heap_alloc_new w _
theorem Row.sl (h:Row w g e us) (off m cap:Nat) (h1:off + m ≤ us.length) (h2:m ≤ cap) (h3:cap ≤ maxLen):SlV w (.slice (some ⟨g,off,none⟩) m cap) ((us.drop off).take m):=by
 have hl:((us.drop off).take m).length = m:=by simp;omega
 refine ⟨_,cap,by rw [hl],by omega,h3,fun h=>by simp at h,fun _=>⟨g,off,rfl,fun i u hu=>?_⟩⟩
 rw [h.cell]
 rw [List.getElem?_take] at hu
 split at hu
 ·rwa [List.getElem?_drop] at hu
 ·cases hu
theorem Row.slAll (h:Row w g e us) (hl:us.length ≤ maxLen):SlV w (.slice (some ⟨g,0,none⟩) us.length us.length) us:=by
 have:=h.sl 0 us.length us.length (by omega) (Nat.le_refl _) hl
 simpa using this
theorem Row.ofOwn {base n:Nat} {xs:List Value} (h:w.ownsRow base e 1 (.slice (some ⟨g,0,none⟩) n n) n xs):Row w g e xs:=by
 obtain ⟨h1,h2 | ⟨g',cap,cur,h3,_,h4,_,_,h5,h6⟩⟩:=h
 ·simp at h2
 ·simp only [Value.slice.injEq,Option.some.injEq,Addr.mk.injEq,and_true,true_and] at h3
  obtain ⟨rfl,rfl⟩:=h3
  rw [List.take_of_length_le (by simp;omega)] at h6
  subst h6
  simpa [Row] using h4
theorem Row.owns {base n cap:Nat} (h:Row w g e us) (hb:base ≤ g) (hn:n ≤ us.length) (hm:us.length ≤ maxLen):w.ownsRow base e 1 (.slice (some ⟨g,0,none⟩) n us.length) n (us.take n) :=
 ⟨by simp;omega,.inr ⟨g,us.length,us.toArray,rfl,hb,h,hn,hm,by simp,by simp⟩⟩
end
theorem grown_set (w:World) (c o:Nat) (u:Value):w.grownBy (w.setCell ⟨c,o,none⟩ u) (some c) :=
 ⟨rfl,rfl,rfl,by simp [World.setCell],fun k _ hk=>Below.heap_setCell _ _ _ _ (fun e=>hk (by simpa using e))⟩
theorem grown_tr {a b c:World} {row:Option Nat} (h:a.grownBy b row) (k:b.grownBy c row):a.grownBy c row :=
 ⟨k.os.trans h.os,k.tape.trans h.tape,k.output.trans h.output,Nat.le_trans h.size k.size,fun i hi hr=>(k.block i (Nat.lt_of_lt_of_le hi h.size) hr).trans (h.block i hi hr)⟩
theorem grown_refl (a:World) (row:Option Nat):a.grownBy a row:=⟨rfl,rfl,rfl,Nat.le_refl _,fun _ _ _=>rfl⟩
theorem SlV.old {w:World} {a:Option Addr} {n cap:Nat} {xs:List Value} (h:SlV w (.slice a n cap) xs) (hp:0 < xs.length):∃ b off,a = some ⟨b,off,none⟩ ∧ b < w.heap.size:=by
 obtain ⟨b,off,e,hl,_⟩:=h.cells hp
 exact ⟨b,off,e,hl⟩
def val (B:Nat):List Nat → Nat
 | []=>0
 | x :: r=>x + B * val B r
section
variable {B:Nat}
theorem val_append (xs ys:List Nat):val B (xs ++ ys) = val B xs + B ^ xs.length * val B ys:=by
 induction xs with
 | nil=>simp [val]
 | cons x xs ih=>simp only [List.cons_append,val,ih,List.length_cons,Nat.pow_succ];rw [Nat.mul_add,← Nat.mul_assoc,Nat.mul_comm B (B ^ xs.length),Nat.add_assoc]
theorem val_zeros (n:Nat):val B (List.replicate n 0) = 0:=by
 induction n with
 | zero=>rfl
 | succ n ih=>simp [List.replicate_succ,val,ih]
theorem val_lt {xs:List Nat} (hB:0 < B) (h:Lo B xs):val B xs < B ^ xs.length:=by
 induction xs with
 | nil=>simp [val]
 | cons x xs ih =>
  have h1:x < B:=h x (by simp)
  have h2:=ih (fun y hy=>h y (by simp [hy]))
  simp only [val,List.length_cons,Nat.pow_succ]
  have h3:B * (val B xs + 1) ≤ B * B ^ xs.length:=Nat.mul_le_mul_left _ h2
  rw [Nat.mul_add,Nat.mul_one] at h3
  rw [Nat.mul_comm (B ^ xs.length)]
  omega
theorem val_one (x:Nat):val B [x] = x:=by simp [val]
theorem val_take_drop (xs:List Nat) (i:Nat) (h:i ≤ xs.length):val B xs = val B (xs.take i) + B ^ i * val B (xs.drop i):=by
 have:=val_append (B:=B) (xs.take i) (xs.drop i)
 rw [List.take_append_drop,List.length_take,Nat.min_eq_left h] at this
 exact this
theorem val_take_succ (xs:List Nat) (i:Nat):val B (xs.take (i + 1)) = val B (xs.take i) + B ^ i * xs.getD i 0:=by
 by_cases h:i < xs.length
 ·rw [List.take_succ_eq_append_getElem h,val_append,val_one,List.length_take,Nat.min_eq_left (by omega)]
  simp [List.getD,List.getElem?_eq_getElem h]
 ·rw [List.take_of_length_le (by omega),List.take_of_length_le (by omega)]
  simp [List.getD,List.getElem?_eq_none (Nat.le_of_not_lt h)]
theorem val_ext {xs ys:List Nat} (h:∀ j,xs.getD j 0 = ys.getD j 0):val B xs = val B ys:=by
 induction xs generalizing ys with
 | nil =>
  induction ys with
  | nil=>rfl
  | cons y ys ih =>
   have h0:=h 0
   simp at h0
   have:=ih (fun j=>by have:=h (j + 1);simpa using this)
   simp [val,← h0,← this]
 | cons x xs ih =>
  cases ys with
  | nil =>
   have h0:=h 0
   simp at h0
   have:=ih (ys:=[]) (fun j=>by have:=h (j + 1);simpa using this)
   simp [val,h0,this]
  | cons y ys =>
   have h0:=h 0
   simp at h0
   have:=ih (ys:=ys) (fun j=>by have:=h (j + 1);simpa using this)
   simp [val,h0,this]
theorem val_drop_zero {xs:List Nat} {i:Nat} (h:∀ j,i ≤ j → xs.getD j 0 = 0):val B (xs.drop i) = 0:=by
 have:val B (xs.drop i) = val B []:=val_ext (fun j=>by
  have:=h (i + j) (by omega)
  simpa [List.getD,List.getElem?_drop] using this)
 simpa [val] using this
theorem getD_drop (xs:List Nat) (i j:Nat):(xs.drop i).getD j 0 = xs.getD (i + j) 0:=by simp [List.getD,List.getElem?_drop]
theorem getD_take (xs:List Nat) (i j:Nat) (h:j < i):(xs.take i).getD j 0 = xs.getD j 0:=by simp [List.getD,h]
theorem getD_past {xs:List Nat} {i:Nat} (h:xs.length ≤ i):xs.getD i 0 = 0:=by simp [List.getD,List.getElem?_eq_none h]
theorem val_take_lt {xs:List Nat} (hB:0 < B) (h:Lo B xs) (i:Nat):val B (xs.take i) < B ^ i:=by
 have h1:=val_lt hB (h.take i)
 have h2:(xs.take i).length ≤ i:=by simp;omega
 exact Nat.lt_of_lt_of_le h1 (Nat.pow_le_pow_right hB h2)
theorem val_take_le (xs:List Nat) (i:Nat):val B (xs.take i) ≤ val B xs:=by
 by_cases h:i ≤ xs.length
 ·rw [val_take_drop xs i h];exact Nat.le_add_right _ _
 ·rw [List.take_of_length_le (by omega)];exact Nat.le_refl _
theorem val_split (xs:List Nat) (i:Nat):val B xs = val B (xs.take i) + B ^ i * (xs.getD i 0 + B * val B (xs.drop (i + 1))):=by
 by_cases h:i < xs.length
 ·rw [val_take_drop xs i (by omega),List.drop_eq_getElem_cons h]
  simp [val,List.getD,List.getElem?_eq_getElem h]
 ·rw [List.take_of_length_le (by omega),getD_past (by omega),List.drop_eq_nil_of_le (by omega)]
  simp [val]
theorem getD_val {xs:List Nat} (hB:0 < B) (h:Lo B xs) (i:Nat):xs.getD i 0 = val B xs / B ^ i % B:=by
 have h1:=val_take_lt hB h i
 have h2:=h.getD hB i
 have hp:0 < B ^ i:=Nat.pow_pos hB
 rw [val_split xs i,Nat.add_mul_div_left _ _ hp,Nat.div_eq_of_lt h1,Nat.zero_add,Nat.add_mul_mod_self_left,Nat.mod_eq_of_lt h2]
theorem val_set {xs:List Nat} {i:Nat} (h:i < xs.length) (d:Nat):val B (xs.set i (xs.getD i 0 + d)) = val B xs + B ^ i * d:=by
 rw [val_split (xs.set i _) i,val_split xs i]
 have h1:(xs.set i (xs.getD i 0 + d)).take i = xs.take i:=by rw [List.take_set_of_le (Nat.le_refl _)]
 have h2:(xs.set i (xs.getD i 0 + d)).drop (i + 1) = xs.drop (i + 1):=by rw [List.drop_set_of_lt (by omega)]
 have h3:(xs.set i (xs.getD i 0 + d)).getD i 0 = xs.getD i 0 + d:=by simp [List.getD,h]
 rw [h1,h2,h3,Nat.add_right_comm,Nat.mul_add,Nat.mul_add]
 omega
theorem val_take_all {xs:List Nat} {i:Nat} (hB:0 < B) (h:val B xs < B ^ i):val B (xs.take i) = val B xs:=by
 by_cases hi:i ≤ xs.length
 ·rw [val_take_drop xs i hi] at h ⊢
  have hp:0 < B ^ i:=Nat.pow_pos hB
  have:val B (xs.drop i) = 0:=by
   apply Nat.eq_zero_of_not_pos
   intro hc
   have:B ^ i * 1 ≤ B ^ i * val B (xs.drop i):=Nat.mul_le_mul_left _ hc
   omega
  rw [this];simp
 ·rw [List.take_of_length_le (by omega)]
theorem val_of_digits {xs:List Nat} {M:Nat} (hB:0 < B) (h:∀ i,i < xs.length → xs.getD i 0 = M / B ^ i % B):val B xs = M % B ^ xs.length:=by
 have h2:∀ k,k ≤ xs.length → val B (xs.take k) = M % B ^ k:=by
  intro k
  induction k with
  | zero=>intro _;simp [val,Nat.mod_one]
  | succ k ih =>
   intro hk
   rw [val_take_succ,ih (by omega),h k (by omega),Nat.pow_succ,Nat.mod_mul]
 have:=h2 xs.length (Nat.le_refl _)
 rwa [List.take_length] at this
def Is (B n:Nat) (zs:List Nat):Prop:=val B zs = n ∧ Lo B zs ∧ (0 < zs.length → B ^ (zs.length - 1) ≤ n)
theorem Is.len {n:Nat} {zs:List Nat} (hB:1 < B) (h:Is B n zs) (k:Nat):zs.length ≤ k ↔ n < B ^ k:=by
 obtain ⟨h1,h2,h3⟩:=h
 constructor
 ·intro hk
  have:=val_lt (by omega) h2
  rw [h1] at this
  exact Nat.lt_of_lt_of_le this (Nat.pow_le_pow_right (by omega) hk)
 ·intro hk
  apply Nat.le_of_not_lt
  intro hc
  have:=h3 (by omega)
  have h4:B ^ (zs.length - 1) < B ^ k:=by omega
  have:=(Nat.pow_lt_pow_iff_right hB).1 h4
  omega
theorem Is.zero {zs:List Nat} (hB:1 < B) (h:Is B 0 zs):zs = []:=by
 have:=(h.len hB 0).2 (by simp)
 exact List.eq_nil_of_length_eq_zero (by omega)
theorem Is.nil:Is B 0 []:=⟨rfl,Lo.nil _,fun h=>by simp at h⟩
theorem Is.ofLast {zs:List Nat} (hl:Lo B zs) (h:0 < zs.length → zs.getD (zs.length - 1) 0 ≠ 0):Is B (val B zs) zs:=by
 refine ⟨rfl,hl,fun hp=>?_⟩
 rw [val_split zs (zs.length - 1)]
 have h1:1 ≤ zs.getD (zs.length - 1) 0:=Nat.pos_of_ne_zero (h hp)
 have h2:B ^ (zs.length - 1) * 1 ≤ B ^ (zs.length - 1) * (zs.getD (zs.length - 1) 0 + B * val B (zs.drop (zs.length - 1 + 1))):=Nat.mul_le_mul_left _ (by omega)
 omega
theorem Is.last {n:Nat} {zs:List Nat} (hB:1 < B) (h:Is B n zs) (hp:0 < zs.length):zs.getD (zs.length - 1) 0 ≠ 0:=by
 intro h0
 have h1:=h.2.2 hp
 have h2:=h.1
 rw [val_split zs (zs.length - 1),h0,List.drop_eq_nil_of_le (by omega)] at h2
 simp only [val,Nat.mul_zero,Nat.add_zero] at h2
 have:=val_take_lt (by omega) h.2.1 (zs.length - 1)
 omega
theorem Is.take {xs:List Nat} {k:Nat} (hB:0 < B) (hl:Lo B xs) (hk:k ≤ xs.length) (h1:val B xs < B ^ k) (h2:0 < k → B ^ (k - 1) ≤ val B xs):Is B (val B xs) (xs.take k):=by
 have hlen:(xs.take k).length = k:=by simp;omega
 exact ⟨val_take_all hB h1,hl.take k,by rw [hlen];exact h2⟩
theorem val_cmp {xs ys:List Nat} (hB:0 < B) (hx:Lo B xs) (i:Nat) (h:∀ j,i < j → xs.getD j 0 = ys.getD j 0) (hlt:xs.getD i 0 < ys.getD i 0):val B xs < val B ys:=by
 rw [val_split xs i,val_split ys i]
 have h1:val B (xs.drop (i + 1)) = val B (ys.drop (i + 1)):=val_ext (fun j=>by rw [getD_drop,getD_drop];exact h _ (by omega))
 rw [h1]
 have h2:=val_take_lt hB hx i
 have h3:B ^ i * (xs.getD i 0 + 1 + B * val B (ys.drop (i + 1))) ≤ B ^ i * (ys.getD i 0 + B * val B (ys.drop (i + 1))):=Nat.mul_le_mul_left _ (by omega)
 rw [Nat.mul_add,Nat.mul_add,Nat.mul_one] at h3
 rw [Nat.mul_add (B ^ i) (xs.getD i 0)]
 omega
end
def cmpI (a b:Nat):Int:=if a < b then -1 else if b < a then 1 else 0
theorem cmpI_lt {a b:Nat} (h:a < b):cmpI a b = -1:=by simp [cmpI,h]
theorem cmpI_gt {a b:Nat} (h:b < a):cmpI a b = 1:=by
 have:¬ a < b:=by omega
 simp [cmpI,h,this]
theorem cmpI_eq (a:Nat):cmpI a a = 0:=by simp [cmpI]
theorem cmpI_neg {a b:Nat}:cmpI a b < 0 ↔ a < b:=by
 unfold cmpI;split
 ·simp [*]
 ·split <;> simp [*]
theorem cmpI_pos {a b:Nat}:0 < cmpI a b ↔ b < a:=by
 unfold cmpI;split
 ·simp;omega
 ·split
  ·simp [*]
  ·simp [*]
def bl (n:Nat):Nat:=if n = 0 then 0 else n.log2 + 1
theorem bl_zero:bl 0 = 0:=rfl
theorem bl_le (n k:Nat):bl n ≤ k ↔ n < 2 ^ k:=by
 unfold bl
 split
 ·subst n;simp [Nat.pow_pos]
 ·rename_i h
  rw [Nat.succ_le_iff,Nat.log2_lt h]
theorem bl_lt (n:Nat):n < 2 ^ bl n:=(bl_le n _).1 (Nat.le_refl _)
theorem bl_ge {n:Nat} (h:n ≠ 0):2 ^ (bl n - 1) ≤ n:=by
 apply Nat.le_of_not_lt
 intro hc
 have:=(bl_le n _).2 hc
 have:bl n ≠ 0:=by unfold bl;simp [h]
 omega
theorem bl_pos {n:Nat} (h:n ≠ 0):0 < bl n:=by unfold bl;simp [h]
theorem bl_eq {n j:Nat} (h1:2 ^ j ≤ n) (h2:n < 2 ^ (j + 1)):bl n = j + 1:=by
 have a:=(bl_le n (j + 1)).2 h2
 have b:¬ bl n ≤ j:=fun h=>by have:=(bl_le n j).1 h;omega
 omega
theorem bl_add {m w k:Nat} (hm:m < 2 ^ k) (hw:w ≠ 0):bl (m + 2 ^ k * w) = k + bl w:=by
 have h1:=bl_lt w
 have h2:=bl_ge hw
 have h3:=bl_pos hw
 have e:k + bl w = (k + (bl w - 1)) + 1:=by omega
 rw [e]
 apply bl_eq
 ·rw [Nat.pow_add]
  have:=Nat.mul_le_mul_left (2 ^ k) h2
  omega
 ·have e2:k + (bl w - 1) + 1 = k + bl w:=by omega
  rw [e2,Nat.pow_add]
  have h4:2 ^ k * (w + 1) ≤ 2 ^ k * 2 ^ bl w:=Nat.mul_le_mul_left _ h1
  rw [Nat.mul_add,Nat.mul_one] at h4
  omega
theorem bl_half {n:Nat} (h:n ≠ 0):bl n = bl (n / 2) + 1:=by
 have h1:=bl_lt n
 have h2:=bl_ge h
 by_cases h0:n / 2 = 0
 ·obtain rfl:n = 1:=by omega
  rfl
 ·have:=bl_add (m:=n % 2) (w:=n / 2) (k:=1) (by omega) h0
  rw [show n % 2 + 2 ^ 1 * (n / 2) = n by omega] at this
  omega
theorem pow32 (k:Nat):(4294967296:Nat) ^ k = 2 ^ (32 * k):=by rw [Nat.pow_mul]
theorem pow16 (k:Nat):(65536:Nat) ^ k = 2 ^ (16 * k):=by rw [Nat.pow_mul]
theorem pow8 (k:Nat):(256:Nat) ^ k = 2 ^ (8 * k):=by rw [Nat.pow_mul]
abbrev W32:Nat:=4294967296
theorem Is.words {xs:List Nat} (hl:Lo W32 xs):(bl (val W32 xs) + 31) / 32 ≤ xs.length ∧ Is W32 (val W32 xs) (xs.take ((bl (val W32 xs) + 31) / 32)):=by
 have h1:=val_lt (by decide) hl
 rw [pow32] at h1
 have h2:=(bl_le _ _).2 h1
 have h3:(bl (val W32 xs) + 31) / 32 ≤ xs.length:=by omega
 refine ⟨h3,Is.take (by decide) hl h3 ?_ ?_⟩
 ·rw [pow32];apply (bl_le _ _).1;omega
 ·intro hp
  rw [pow32]
  have h4:val W32 xs ≠ 0:=by intro h;rw [h,bl_zero] at hp;omega
  have h5:=bl_ge h4
  refine Nat.le_trans (Nat.pow_le_pow_right (by decide) ?_) h5
  omega
def be (N n:Nat):List Nat:=(List.range n).map fun j=>N / 256 ^ (n - 1 - j) % 256
theorem rev_getD (xs:List Nat) (j:Nat) (h:j < xs.length):xs.reverse.getD j 0 = xs.getD (xs.length - 1 - j) 0:=by
 simp [List.getD,List.getElem?_reverse h]
section
variable {P:Program}
theorem wpList_alloc_row {w:World} {ops:Array Oper} {rest:List Oper} {o:Oper} {a:Act} {Q:Exit → Act → World → Prop} (hgd:o.guard = none) (ty:TypeId) (ho:o.op = .alloc ty) (us:List Value)
  (hz:∀ w:World,(zeroValue ty).run P w = .ok (.agg us.toArray) w)
  (h:wpList P ops Q rest (a.put o.dst (.pointer (some ⟨w.heap.size,0,none⟩))) (w.alloc (.cells us.toArray ty))):wpList P ops Q (o :: rest) a w:=by
 refine wpList_plain hgd fun K hK=>?_
 have h1:=hK _ _ h
 unfold Oper.wp execOp
 simp [ho,hz,go_sem]
 exact h1
theorem run_index_C (w:World) {T e:TypeId} {n:Nat} {q:IntKind} (hu:P.underlying T = some (.array n e)) (hp:P.plainKey e = true) (hs:(P.info? e).map (·.size) = some 1) (xs:List Nat) (i:Nat) (hi:i < n) (hx:xs.length = n) :
  (Instr.index T (.agg (C q xs).toArray) (.int .i64 (i:Int))).run P w = .ok (.int q (xs.getD i 0:Nat)) w:=by
 have p:=run_part_plain (P:=P) w hp (xs:=(C q xs).toArray) (off:=i * 1) (v:=.int q (xs.getD i 0:Nat)) (by simpa using C_get q (xs:=xs) (i:=i) (by omega))
 cases hq:P.info? e with
 | none=>simp [hq] at hs
 | some t =>
  have hsz:(sizeOf e).run P w = .ok 1 w:=by simp [sizeOf,typeInfo,hq];simpa [hq] using hs
  simp only [Instr.index,Sem.run_bind,asIntOf,Sem.run_pure,Result.andThen_ok,run_underlying hu w]
  rw [if_pos (by omega)]
  simp only [Sem.run_bind,hsz,Result.andThen_ok,Int.toNat_natCast]
  exact p
end
section
variable {w w':World} {g:Nat} {e:TypeId} {us vs:List Value}
theorem Row.setRow (h:Row w g e us) (cs:List Value):Row (w.setRow g cs.toArray) g e cs:=setRow_heap w g _ _ _ _ h
theorem Row.drew (h:Row w g e us):Row w.drew g e us:=h
end
theorem wpList_store_R {P:Program} {w:World} {ops:Array Oper} {rest:List Oper} {o:Oper} {a:Act} {Q:Exit → Act → World → Prop} (hgd:o.guard = none) (ty:TypeId) (x y:Operand) (ho:o.op = .store ty x y)
  (g:Nat) (us:List Value) (hx:a.eval x = .pointer (some ⟨g,0,none⟩)) (hy:a.eval y = .agg us.toArray) {e:TypeId} {old:List Value} (hg:Row w g e old) (hi:(P.info? ty).map (·.size) = some us.length)
  (hold:old.length = us.length) (h1:us.all (·.oneCell') = true)
  (h:∀ w',Row w' g e us → w.grownBy w' (some g) → w'.heap.size = w.heap.size → wpList P ops Q rest (a.put o.dst undef) w'):wpList P ops Q (o :: rest) a w:=by
 refine wpList_store_row hgd ty x y ho g us.toArray hx hy e old.toArray hg (by simpa using hi) (by simpa using hold) ?_ ?_
 ·rw [Array.all_eq_true_iff_forall_mem]
  intro u hu
  exact List.all_eq_true.1 h1 u (by simpa using hu)
 ·exact h _ (hg.setRow us) ⟨rfl,rfl,rfl,by simp,fun k _ hk=>setRow_other w g k _ (fun e=>hk (by rw [e]))⟩ (by simp)
theorem exec_load_R {P:Program} {w:World} {o:Oper} {ev:Operand → Value} (ty:TypeId) (x:Operand) (ho:o.op = .load ty x) {g:Nat} (hx:ev x = .pointer (some ⟨g,0,none⟩)) {e:TypeId} {us:List Value} (hg:Row w g e us) {n:Nat} {t:TypeId}
  (hu:P.underlying ty = some (.array n t)) (hi:(P.info? ty).map (·.size) = some us.length):(execOp ev o).run P w = .ok (.value (.agg us.toArray)) w:=by
 have h:=run_loadVar_row (P:=P) w g e ty us.toArray (0,0) _ hg hu rfl (by simpa using hi)
 unfold execOp
 simp only [ho,hx,Instr.loadAt,Instr.sureAddr,Sem.run_bind,Sem.run_pure,Result.andThen_ok,h]
theorem wp_store_R {P:Program} {w:World} {o:Oper} {a:Act} {K:Act → World → Prop} {Q:Exit → Act → World → Prop} (ty:TypeId) (x y:Operand) (ho:o.op = .store ty x y)
  (g:Nat) (us:List Value) (hx:a.eval x = .pointer (some ⟨g,0,none⟩)) (hy:a.eval y = .agg us.toArray) {e:TypeId} {old:List Value} (hg:Row w g e old) (hi:(P.info? ty).map (·.size) = some us.length)
  (hold:old.length = us.length) (h1:us.all (·.oneCell') = true)
  (h:∀ w',Row w' g e us → w.grownBy w' (some g) → w'.heap.size = w.heap.size → K (a.put o.dst undef) w'):o.wp P a w K Q:=by
 refine wp_store_row ty x y ho g us.toArray hx hy e old.toArray hg (by simpa using hi) (by simpa using hold) ?_ ?_
 ·rw [Array.all_eq_true_iff_forall_mem]
  intro u hu
  exact List.all_eq_true.1 h1 u (by simpa using hu)
 ·exact h _ (hg.setRow us) ⟨rfl,rfl,rfl,by simp,fun k _ hk=>setRow_other w g k _ (fun e=>hk (by rw [e]))⟩ (by simp)
theorem wpList_copy_R {P:Program} {w:World} {ops:Array Oper} {rest:List Oper} {o:Oper} {a:Act} {Q:Exit → Act → World → Prop} (hgd:o.guard = none) (d s:Operand) (t:TypeId)
  (ho:o.op = .call { callee:=.builtin .copy,args:=#[d,s],argTypes:=#[t,t] }) (e:TypeId) (hu:P.underlying t = some (.slice e)) (hsz:(P.info? e).map (·.size) = some 1)
  (g n cap m:Nat) (us ys:List Value) {eb:TypeId} (sa:Option Addr) (sc:Nat) (hd:a.eval d = .slice (some ⟨g,0,none⟩) n cap) (hs:a.eval s = .slice sa m sc)
  (hg:Row w g eb us) (hsl:SlV w (.slice sa m sc) ys) (hn:us.length = n) (h1:ys.all (·.oneCell') = true)
  (h:∀ w',Row w' g eb (ys.take n ++ us.drop m) → w.grownBy w' (some g) → w'.heap.size = w.heap.size → wpList P ops Q rest (a.put o.dst (goInt ((min m n:Nat):Int))) w') :
  wpList P ops Q (o :: rest) a w:=by
 subst hn
 obtain ⟨a',c',he,_,_,_,hc⟩:=hsl
 simp only [Value.slice.injEq] at he
 obtain ⟨rfl,rfl,rfl⟩:=he
 by_cases h0:min ys.length us.length = 0
 ·refine wpList_copy_nothing hgd d s t t ho e hu hsz _ _ _ _ _ _ hd hs h0 ?_
  have:=h w ?_ (grown_refl _ _) rfl
  ·rw [h0] at this;exact this
  ·have h2:ys.take us.length ++ us.drop ys.length = us:=by
    rcases (by omega:ys.length = 0 ∨ us.length = 0) with h3 | h3
    ·rw [List.eq_nil_of_length_eq_zero h3];simp
    ·rw [List.eq_nil_of_length_eq_zero h3];simp
   rw [h2];exact hg
 ·obtain ⟨b,off,rfl,hcell⟩:=hc (by omega)
  refine wpList_copy_own hgd d s t t ho e hu hsz g 0 us.length cap ⟨b,off,none⟩ ys.length sc hd hs us.toArray eb hg (ys.take us.length) (by rw [List.length_take];exact Nat.min_comm _ _) (fun j v hv=>?_) (by simp [List.length_take];omega) (fun v hv=>List.all_eq_true.1 h1 v (List.mem_of_mem_take hv)) ?_
  ·rw [Addr.add_lit]
   rw [List.getElem?_take] at hv
   split at hv
   ·exact hcell j v hv
   ·cases hv
  ·have e1:(ys.take us.length).length = min ys.length us.length:=by rw [List.length_take];exact Nat.min_comm _ _
   have e2:us.drop (min ys.length us.length) = us.drop ys.length:=by
    by_cases h3:ys.length ≤ us.length
    ·rw [Nat.min_eq_left h3]
    ·rw [Nat.min_eq_right (by omega),List.drop_of_length_le (Nat.le_refl _),List.drop_of_length_le (by omega)]
   simp only [List.take_zero,List.nil_append,Nat.zero_add,e1,e2]
   exact h _ (hg.setRow _) ⟨rfl,rfl,rfl,by simp,fun k _ hk=>setRow_other w g k _ (fun e=>hk (by rw [e]))⟩ (by simp)
theorem wpList_build_Z {P:Program} {w:World} {ops:Array Oper} {rest:List Oper} {o:Oper} {a:Act} {Q:Exit → Act → World → Prop} (hg:o.guard = none) (t:TypeId) (ho:o.op = .build t #[]) (us:List Value) (hz:P.built t [] = some us.toArray)
  (h:wpList P ops Q rest (a.put o.dst (.agg us.toArray)) w):wpList P ops Q (o :: rest) a w:=by
 refine wpList_build hg t #[] ho (by simp [hz]) ?_
 simpa [hz] using h
theorem append_keeps {P:Program} {w w':World} {base:Nat} {t ty e:TypeId} {z:Value} {bytes:Nat} {i:TypeInfo} (ht:P.underlying t = some (.slice e)) (hi:P.info? e = some i) (hz:i.zero = some z) (hsize:i.size = 1) (hby:i.bytes = bytes)
  {g n cap:Nat} {xs:List Value} (hown:w.ownsRow base e 1 (.slice (some ⟨g,0,none⟩) n cap) n xs) {ad:Addr} {c:Nat} {u v':Value} (hnews:∀ j y,[u][j]? = some y → w.cell? (ad.add j) = some y) (h1:u.oneCell' = true)
  (h63:n + 1 ≤ maxLen) (hbytes:(n + 1) * bytes ≤ 140737488355328) (hrun:(Builtin.append_ #[t,t] ty #[.slice (some ⟨g,0,none⟩) n cap,.slice (some ad) 1 c]).run P w = .ok v' w') :
  ∀ j y,xs[j]? = some y → w'.cell? ⟨g,j,none⟩ = some y:=by
 intro j y hy
 have holds:=hown.cells (g:=g) rfl
 by_cases hroom:n + 1 ≤ cap
 ·obtain ⟨w'',hr,ho,_⟩:=run_append_fits (P:=P) w base t ty e i 1 ht hi hsize g n cap xs hown ad 1 c [u] (by simp) hnews (fun y hy=>by simp at hy;subst hy;exact h1) hroom
  rw [hr] at hrun
  injection hrun with _ hw
  subst hw
  have:=ho.cells (g:=g) rfl j y (by rw [List.getElem?_append_left (List.getElem?_eq_some_iff.1 hy).1];exact hy)
  rwa [Addr.add_lit,Nat.zero_add] at this
 ·subst hby
  have hr:=run_append_grow (P:=P) w t ty e i z ht hi hz ⟨g,0,none⟩ n cap xs (by rw [hsize];exact hown.1) holds ad 1 c [u] (by rw [hsize];rfl) hnews (by omega) (by unfold maxLen at h63;omega) (growslice_fits (by omega) hbytes)
  rw [hr] at hrun
  injection hrun with _ hw
  subst hw
  have hc:=holds j y hy
  rw [Addr.add_lit,Nat.zero_add] at hc
  exact cell_alloc (w:=w.drew) hc _
theorem wp_append_one {P:Program} {w:World} {o:Oper} {a:Act} {K:Act → World → Prop} {Q:Exit → Act → World → Prop} (s x:Operand) (t:TypeId)
  (ho:o.op = .call { callee:=.builtin .append,args:=#[s,x],argTypes:=#[t,t] })
  (base:Nat) (e:TypeId) (z:Value) (bytes:Nat) (ht:P.underlying t = some (.slice e)) (hinfo:(P.info? e).map (fun i=>(i.zero,i.size,i.bytes)) = some (some z,1,bytes)) (hzs:z.cells.size = 1)
  (v:Value) (n:Nat) (xs:List Value) (hs:a.eval s = v) (hown:w.ownsRow base e 1 v n xs) (ad:Addr) (c:Nat) (u:Value) (hx:a.eval x = .slice (some ad) 1 c) (hu:w.cell? ad = some u) (h1:u.oneCell' = true)
  (h63:n + 1 ≤ maxLen) (hbytes:(n + 1) * bytes ≤ 140737488355328) (hbase:base ≤ w.heap.size)
  (h:∀ v' w',w'.ownsRow base e 1 v' (n + 1) (xs ++ [u]) → w.grownBy w' v.ownBlock → (∀ g cap,v = .slice (some ⟨g,0,none⟩) n cap → ∀ j y,xs[j]? = some y → w'.cell? ⟨g,j,none⟩ = some y) → K (a.put o.dst v') w'):o.wp P a w K Q:=by
 obtain ⟨i0,hi,hz0,hz1,hz2⟩:=info_parts hinfo
 have hnews:∀ j y,[u][j]? = some y → w.cell? (ad.add j) = some y:=fun j y hy=>by
  cases j with
  | zero =>
   simp at hy
   subst hy
   obtain ⟨b,off,spot⟩:=ad
   have hsp:spot = none:=World.cell?_spot hu
   subst hsp
   rw [Addr.add_lit];exact hu
  | succ j=>simp at hy
 obtain ⟨v',w',hrun,ho',hg',_⟩:=run_append_own (P:=P) (w:=w) base t o.type e i0 z 1 bytes ht hi hz0 hz1 hz2 hzs (by decide) v n xs hown ad 1 c [u] rfl hnews (fun y hy=>by simp at hy;subst hy;exact h1) h63 hbytes hbase
 unfold Oper.wp
 simp [execOp,ho,resolve,invoke,builtin,hs,hx,hrun,Result.andThen]
 refine h v' w' ho' hg' fun g cap hv=>?_
 subst hv
 exact append_keeps ht hi hz0 hz1 hz2 hown hnews h1 h63 hbytes hrun
theorem step_append_one {P:Program} {ops:Array Oper} {w:World} {o:Oper} {a:Act} {K:Act → World → Prop} {Q:Exit → Act → World → Prop} {E:Prop} (hgd:o.guard = none) (s x:Operand) (t:TypeId)
  (ho:o.op = .call { callee:=.builtin .append,args:=#[s,x],argTypes:=#[t,t] })
  (base:Nat) (e:TypeId) (z:Value) (bytes:Nat) (ht:P.underlying t = some (.slice e)) (hinfo:(P.info? e).map (fun i=>(i.zero,i.size,i.bytes)) = some (some z,1,bytes)) (hzs:z.cells.size = 1)
  (v:Value) (n:Nat) (xs:List Value) (hs:a.eval s = v) (hown:w.ownsRow base e 1 v n xs) (ad:Addr) (c:Nat) (u:Value) (hx:a.eval x = .slice (some ad) 1 c) (hu:w.cell? ad = some u) (h1:u.oneCell' = true)
  (h63:n + 1 ≤ maxLen) (hbytes:(n + 1) * bytes ≤ 140737488355328) (hbase:base ≤ w.heap.size)
  (h:∀ v' w',w'.ownsRow base e 1 v' (n + 1) (xs ++ [u]) → w.grownBy w' v.ownBlock → (∀ g cap,v = .slice (some ⟨g,0,none⟩) n cap → ∀ j y,xs[j]? = some y → w'.cell? ⟨g,j,none⟩ = some y) → K (a.put o.dst v') w'):if Region.wanted o (yielded ops a.tmps) = true then Oper.wp P o a w K Q else E:=by
 have hw:Region.wanted o (yielded ops a.tmps) = true:=by simp [Region.wanted,hgd]
 rw [if_pos hw]
 exact wp_append_one s x t ho base e z bytes ht hinfo hzs v n xs hs hown ad c u hx hu h1 h63 hbytes hbase h
theorem C_allL (k:IntKind) (xs:List Nat):(C k xs).all (·.oneCell') = true:=by
 rw [List.all_eq_true];exact C_one k xs
theorem below_grown {B:Nat} {w0 w w':World} {g:Nat} (h:Below B w0 w) (hg:w.grownBy w' (some g)) (hB:B ≤ g) (hl:g < w.heap.size):Below B w0 w' :=
 h.grown hg (by omega) (fun k hk=>by simp only [Option.some.injEq] at hk;omega)
theorem SlV.shp {w:World} {v:Value} {k:IntKind} {xs:List Nat} (h:SlV w v (C k xs)) {n:Nat} (hn:xs.length = n):∃ a cap,v = .slice a n cap ∧ n ≤ cap ∧ cap ≤ maxLen:=by
 obtain ⟨a,cap,e,h1,h2⟩:=h.shape
 rw [C_length,hn] at e h1
 exact ⟨a,cap,e,h1,h2⟩
def Z (n:Nat):List Nat:=List.replicate n 0
theorem Z_length (n:Nat):(Z n).length = n:=by simp [Z]
theorem Z_lo {b:Nat} (h:0 < b) (n:Nat):Lo b (Z n):=Lo.zeros h n
theorem set_at (l:List Nat) (n x y:Nat):(l ++ (y :: List.replicate n 0)).set l.length x = l ++ (x :: List.replicate n 0):=by
 rw [List.set_append_right _ _ (Nat.le_refl _)];simp
theorem getD_at (l r:List Nat) (y:Nat):(l ++ (y :: r)).getD l.length 0 = y:=by simp [List.getD]
def upto (l:List Nat) (n k:Nat):List Nat:=l.take k ++ Z (n - k)
theorem upto_zero (l:List Nat) (n:Nat):upto l n 0 = Z n:=by simp [upto]
theorem upto_all {l:List Nat} {n:Nat} (h:l.length = n):upto l n n = l:=by simp [upto,Z,List.take_of_length_le (Nat.le_of_eq h)]
theorem upto_length {l:List Nat} {n k:Nat} (h:l.length = n) (hk:k ≤ n):(upto l n k).length = n:=by simp [upto,Z];omega
theorem upto_succ {l:List Nat} {n k:Nat} (h:l.length = n) (hk:k < n):(upto l n k).set k (l.getD k 0) = upto l n (k + 1):=by
 obtain ⟨m,hm⟩:∃ m,n - k = m + 1:=⟨n - k - 1,by omega⟩
 have hlt:(l.take k).length = k:=by simp;omega
 unfold upto Z
 rw [hm,List.replicate_succ,show n - (k + 1) = m by omega]
 have:=set_at (l.take k) m (l.getD k 0) 0
 rw [hlt] at this
 rw [this,take_snoc (show k < l.length by omega)]
 simp only [List.getD,List.getElem?_eq_getElem (show k < l.length by omega),Option.getD_some,List.append_assoc,List.singleton_append]
theorem upto_row {w:World} {g:Nat} {e:TypeId} {q:IntKind} {l:List Nat} {n k:Nat} {z:Int} (hC:Row w g e (C q (upto l n k))) (h:l.length = n) (hk:k < n) (hz:z = ((l.getD k 0:Nat):Int)):Row (w.setCell ⟨g,k,none⟩ (.int q z)) g e (C q (upto l n (k + 1))):=by
 subst hz
 rw [← upto_succ h hk,C_set]
 exact hC.set k _
theorem SlV_newF (w:World) (us:List Value) (e:TypeId) (fr:Nat × Nat) (hl:us.length ≤ maxLen):SlV (w.alloc (.cells us.toArray e fr)) (.slice (some ⟨w.heap.size,0,none⟩) us.length us.length) us:=by
 refine ⟨_,us.length,rfl,Nat.le_refl _,hl,fun h=>by simp at h,fun _=>⟨_,_,rfl,?_⟩⟩
 intro i y hy
 rw [World.cell?,heap_alloc_new]
 simpa using hy
theorem alloc_size (w:World) (o:Obj):(w.alloc o).heap.size = w.heap.size + 1:=by simp
theorem Row.newAt (w:World) (g:Nat) (hg:g = w.heap.size) (e:TypeId) (us:List Value):Row (w.alloc (.cells us.toArray e)) g e us:=hg ▸ Row.new w e us
theorem Below.more {B:Nat} {w0 w:World} (h:Below B w0 w) (hB:B ≤ w.heap.size) (o:Obj):Below B w0 (w.alloc o) ∧ B ≤ (w.alloc o).heap.size:=⟨h.alloc hB o,by rw [alloc_size];omega⟩
theorem cell_set_ne {w:World} {g i j:Nat} {u x:Value} (h:w.cell? ⟨g,j,none⟩ = some x) (hne:i ≠ j):(w.setCell ⟨g,i,none⟩ u).cell? ⟨g,j,none⟩ = some x:=by
 simp [go_sem,h]
theorem C_all (k:IntKind) (xs:List Nat):(C k xs).toArray.all (·.oneCell') = true:=by
 rw [Array.all_eq_true_iff_forall_mem]
 intro u hu
 exact C_one k xs u (by simpa using hu)
theorem C_size (k:IntKind) (xs:List Nat):(C k xs).toArray.size = xs.length:=by simp [C]
theorem below_setCell {B:Nat} {w0 w:World} (h:Below B w0 w) {g i:Nat} (hg:B ≤ g) (u:Value):Below B w0 (w.setCell ⟨g,i,none⟩ u):=h.setCell hg u
theorem result_row {P:Program} {fn:Func} {R:Ending → World → Prop} {a:Act} {w:World} {p:Tmp} {ty:TypeId} (hr:fn.results = #[.cell p ty]) {g:Nat} {us:List Value} {d:TypeDesc}
  (hp:a.tmps.getD p undef = .pointer (some ⟨g,0,none⟩)) (hg:Row w g ty us) (hu:P.underlying ty = some d) (hd:(match d with | .struct _ | .array _ _=>true | _=>false) = true) (hi:(P.info? ty).map (·.size) = some us.length)
  (hdf:a.defers = []) (h:R (.returned (.agg us.toArray)) w):bodyPost P fn R .ret a w :=
 bodyPost_ret (results_cell_row hr a.tmps w g ty us.toArray (0,0) d hp hg hu (by cases d <;> simp_all) (by simpa using hi)) hdf h
section
variable {P:Program} {md:Region.Mode} {ops:Array Oper} {Q:Exit → Act → World → Prop} {S:World → Prop} {z:Nat}
def wpAnyU (P:Program) (md:Region.Mode) (ops:Array Oper) (Q:Exit → Act → World → Prop) (S:World → Prop) (z:Nat):Nat → Array Bool → Act → World → Prop
 | 0,l,a,w=>Region.ready md ops l = [] ∧ Q .normal a w
 | n + 1,l,a,w=>(Region.ready md ops l = [] → Q .normal a w) ∧ ∀ j,j ∈ Region.ready md ops l → wpOp P ops Q j (fun a' w'=>(j ≠ z → S w') ∧ wpAnyU P md ops Q S z n (l.setIfInBounds j true) a' w') a w
theorem wpAny_of_U (n:Nat):∀ (l:Array Bool) (a:Act) (w:World),wpAnyU P md ops Q S z n l a w → wpAny P md ops Q n l a w:=by
 induction n with
 | zero=>intro l a w h;exact h
 | succ n ih=>intro l a w h;exact ⟨h.1,fun j hj=>wpOp_mono (fun a' w' hh=>ih _ _ _ hh.2) (h.2 j hj)⟩
def Waits (md:Region.Mode) (ops:Array Oper) (z i:Nat):Bool:=match ops[z]? with | some o=>o.after.any fun e=>Region.binds md e && e.on == i | none=>false
theorem not_ready_of_waits {l:Array Bool} {i:Nat} (hw:Waits md ops z i = true) (hi:l.getD i true = false):z ∉ Region.ready md ops l:=by
 intro hz
 obtain ⟨_,o,ho,hall⟩:=mem_ready.1 hz
 unfold Waits at hw
 rw [ho] at hw
 simp only [Array.any_eq_true'] at hw
 obtain ⟨e,he,hb⟩:=hw
 simp only [Bool.and_eq_true,beq_iff_eq] at hb
 have h1:=hall e he hb.1
 rw [hb.2] at h1
 by_cases hlt:i < l.size
 ·simp [Array.getD,hlt] at hi h1
  rw [hi] at h1;cases h1
 ·simp [Array.getD,hlt] at h1
theorem wpAnyU_first {i:Nat} {oi:Oper} {v:Value} (hi:ops[i]? = some oi) (hsel:Region.noSelect ops = true) (hw:Waits md ops z i = true)
  (hQ:∀ c a w,Q (.panic c) (a.put oi.dst v) w → Q (.panic c) a w) (n:Nat) :
  ∀ (l:Array Bool) (a:Act) (w:World),(∀ j oj,ops[j]? = some oj → j ≠ i → l.getD j true = false → (∀ e ∈ oj.after,Region.binds md e = true → e.on ≠ i) → oi.apart ops oj = true) →
   i ∈ Region.ready md ops l → YieldsIf P ops S oi v a → S w → wpAnyU P md ops Q S z n (l.setIfInBounds i true) (a.put oi.dst v) w → wpAnyU P md ops Q S z (n + 1) l a w:=by
 have hsp:=Region.noSelect_spec hsel
 induction n with
 | zero =>
  intro l a w _ hr hy hS H
  refine ⟨fun h0=>absurd hr (by rw [h0];simp),fun j hj=>?_⟩
  by_cases e:j = i
  ·subst e;exact hy.wpOp hi hS ⟨fun _=>hS,H⟩
  ·exact absurd (ready_mono hj e) (by rw [H.1];simp)
 | succ n ih =>
  intro l a w hfree hr hy hS H
  refine ⟨fun h0=>absurd hr (by rw [h0];simp),fun j hj=>?_⟩
  by_cases e:j = i
  ·subst e;exact hy.wpOp hi hS ⟨fun _=>hS,H⟩
  ·have hil:=(mem_ready.1 hr).1
   have hjz:j ≠ z:=fun hz=>not_ready_of_waits hw hil (hz ▸ hj)
   obtain ⟨hjl,oj,hoj,hjall⟩:=mem_ready.1 hj
   have hno:∀ x ∈ oj.after,Region.binds md x = true → x.on ≠ i:=fun x hx hb hxi=>by
    have:=hjall x hx hb
    rw [hxi] at this
    by_cases hlt:i < l.size
    ·simp [Array.getD,hlt] at hil this
     rw [hil] at this;cases this
    ·simp [Array.getD,hlt] at this
   have hstep:=wpOp_putIf hoj (hfree j oj hoj e hjl hno) (fun cs b=>hsp i oi cs b hi) (fun cs b=>hsp j oj cs b hoj) hQ hy (H.2 j (ready_mono hj e))
   refine wpOp_mono (fun a' w' hh=>?_) hstep
   have hS':=hh.2.1 hjz
   refine ⟨fun _=>hS',ih _ a' w' (fun m om hm hmi hml hmn=>?_) (ready_mono hr (Ne.symm e)) hh.1 hS' ?_⟩
   ·refine hfree m om hm hmi ?_ hmn
    by_cases hjm:j = m
    ·exact hjm ▸ hjl
    ·rwa [getD_set_ne true hjm] at hml
   ·have h2:=hh.2.2
    rwa [Array.setIfInBounds_comm _ _ (Ne.symm e)] at h2
end
section
variable {P:Program} {L:List Oper} {Q:Exit → Act → World → Prop} {md:Region.Mode} {S:World → Prop} {z:Nat}
theorem wpAnyU_takeL {i:Nat} {oi:Oper} {v:Value} {fuel:Nat} {listed:Array Bool} {a:Act} {w:World} (hi:L[i]? = some oi) (hwt:Waits md L.toArray z i = true)
  (hs:Region.noSelect L.toArray = true) (hf:Region.free md L.toArray listed i = true) (hr:(Region.ready md L.toArray listed).contains i = true)
  (hQ:∀ c a w,Q (.panic c) (a.put oi.dst v) w → Q (.panic c) a w) (hw:Region.wanted oi (yielded L.toArray a.tmps) = true) (hy:∀ w,S w → (execOp a.eval oi).run P w = .ok (.value v) w) (hS:S w)
  (h:wpAnyU P md L.toArray Q S z fuel (listed.setIfInBounds i true) (a.put oi.dst v) w):wpAnyU P md L.toArray Q S z (fuel + 1) listed a w :=
 wpAnyU_first (getL hi) hs hwt hQ fuel listed a w (Region.free_spec (getL hi) hf) (by simpa using hr) (.inl ⟨hw,hy⟩) hS h
theorem tkU {oi:Oper} {fuel:Nat} {listed:Array Bool} {a:Act} {w:World} (i:Nat) (v:Value) (hi:L[i]? = some oi) (hy:∀ w,S w → (execOp a.eval oi).run P w = .ok (.value v) w)
  (h:wpAnyU P md L.toArray Q S z fuel (listed.setIfInBounds i true) (a.put oi.dst v) w) (hQ:∀ c a w,Q (.panic c) (a.put oi.dst v) w → Q (.panic c) a w:=by exact fun _ _ _ h=>h) (hwt:Waits md L.toArray z i = true:=by kernel_rfl)
  (hs:Region.noSelect L.toArray = true:=by kernel_rfl) (hf:Region.free md L.toArray listed i = true:=by kernel_rfl) (hr:(Region.ready md L.toArray listed).contains i = true:=by kernel_rfl)
  (hw:Region.wanted oi (yielded L.toArray a.tmps) = true:=by rfl) (hS:S w:=by assumption):wpAnyU P md L.toArray Q S z (fuel + 1) listed a w :=
 wpAnyU_takeL hi hwt hs hf hr hQ hw hy hS h
theorem wpAnyU_oneL {fuel:Nat} {listed:Array Bool} {a:Act} {w:World} {i:Nat} {o:Oper} (hr:Region.ready md L.toArray listed = [i]) (ho:L[i]? = some o) (hw:Region.wanted o (yielded L.toArray a.tmps) = true)
  (h:∀ K':Act → World → Prop,Shut (∀ a w,(i ≠ z → S w) → ((i ≠ z → S w) → wpAnyU P md L.toArray Q S z fuel (listed.setIfInBounds i true) a w) → K' a w) → Oper.wp P o a w K' Q):wpAnyU P md L.toArray Q S z (fuel + 1) listed a w:=by
 refine ⟨fun h0=>absurd (h0.symm.trans hr) (by simp),fun j hj=>?_⟩
 rw [hr,List.mem_singleton] at hj
 subst hj
 refine wpOp_step (getL ho) fun K' hK=>?_
 rw [if_pos hw]
 exact h K' (fun a w h1 h2=>hK a w ⟨h1,h2 h1⟩)
theorem wpAnyU_done {listed:Array Bool} {a:Act} {w:World} (hr:Region.ready md L.toArray listed = []) (h:Q .normal a w):∀ fuel,wpAnyU P md L.toArray Q S z fuel listed a w
 | 0=>⟨hr,h⟩
 | n + 1=>⟨fun _=>h,fun j hj=>by rw [hr] at hj;cases hj⟩
theorem wp_region_U (z:Nat) {id:Nat} {a:Act} {w:World} (hm:P.follows .mixedOrders = true) (hS:S w.drew) (h:S w.drew → wpAnyU P .any L.toArray Q S z L.toArray.size (Array.replicate L.toArray.size false) a w.drew):(Code.region id L.toArray true).wp P Q a w :=
 wp_region_any hm (wpAny_of_U _ _ _ _ (h hS))
end
theorem C_ofInts {q:IntKind} {zs:List Int} (h:∀ z ∈ zs,0 ≤ z):zs.map (Value.int q) = C q (zs.map Int.toNat):=by
 simp only [C,List.map_map]
 refine List.map_congr_left fun z hz=>?_
 simp only [Function.comp_apply]
 rw [Int.toNat_of_nonneg (h z hz)]
theorem IsRow.bytes {w:World} {a:Option Addr} {len cap:Nat} {zs:List Int} (h:IsRow .u8 w a len cap zs):∃ xs:List Nat,SlV w (.slice a len cap) (C .u8 xs) ∧ xs.length = len ∧ Lo 256 xs:=by
 obtain ⟨hs,hl,hwf⟩:=h.sl
 have hb:=byt_of_wf hwf
 refine ⟨(zs.take len).map Int.toNat,?_,by simpa using hl,?_⟩
 ·rw [← C_ofInts (fun z hz=>(hb z hz).1)];exact hs
 ·intro x hx
  obtain ⟨z,hz,rfl⟩:=List.mem_map.1 hx
  have:=hb z hz;omega
theorem arr_bytes {zs:List Int} (h:∀ z ∈ zs,(Lit.int .u8 z).wf = true):∃ xs:List Nat,zs.map (Value.int .u8) = C .u8 xs ∧ xs.length = zs.length ∧ Lo 256 xs:=by
 have hb:=byt_of_wf h
 refine ⟨zs.map Int.toNat,C_ofInts (fun z hz=>(hb z hz).1),by simp,?_⟩
 intro x hx
 obtain ⟨z,hz,rfl⟩:=List.mem_map.1 hx
 have:=hb z hz;omega
theorem u64_of_wf {z:Int} (h:(Lit.int .u64 z).wf = true):0 ≤ z ∧ z < 18446744073709551616:=by
 simp [Lit.wf,IntKind.min,IntKind.max,IntKind.signed,IntKind.bits] at h
 omega
theorem C_asInts (q:IntKind) (xs:List Nat):C q xs = (xs.map Int.ofNat).map (Value.int q):=by simp [C]
theorem run_equal_C {P:Program} (w:World) (d:Nat) {t e:TypeId} {n:Nat} {q:IntKind} (hu:P.underlying t = some (.array n e)) (hp:P.plainKey e = true) (he:P.underlying e = some (.int q)) (hi:∃ i,P.info? e = some i) (hc:P.cellsOf e = 1)
  (xs ys:List Nat) (hx:xs.length = n) (hy:ys.length = n):(Op.equalIn (d + 2) t (.agg (C q xs).toArray) (.agg (C q ys).toArray)).run P w = .ok (decide (xs = ys)) w:=by
 obtain ⟨i,hi⟩:=hi
 rw [C_asInts,C_asInts,run_equal_ints w d hu hp he hi hc _ _ (by simpa using hx) (by simpa using hy)]
 congr 1
 rw [decide_eq_decide]
 exact ⟨fun h=>List.map_inj_right (fun a b h=>Int.ofNat.inj h) |>.1 h,fun h=>by rw [h]⟩
theorem run_string_C {P:Program} (w:World) (src dst e:TypeId) (hs:P.underlying src = some (.slice e)) (he:P.underlying e = some (.int .u8)) (hd:P.underlying dst = some .string) (v:Value) (xs:List Nat) (h:SlV w v (C .u8 xs)) :
  (convert src dst v).run P w = .ok (.string (strOfNums (xs.map Int.ofNat))) w :=
 run_string w src dst e hs he hd v _ (by rw [U,← C_asInts];exact h)
theorem wpList_build_C {P:Program} {w:World} {ops:Array Oper} {rest:List Oper} {o:Oper} {a:Act} {Q:Exit → Act → World → Prop} (hg:o.guard = none) (t:TypeId) (parts:Array (Nat × Operand)) (ho:o.op = .build t parts) (us:List Value)
  (hz:P.built t (parts.map fun (i,x)=>(i,a.eval x)).toList = some us.toArray) (h:wpList P ops Q rest (a.put o.dst (.agg us.toArray)) w):wpList P ops Q (o :: rest) a w:=by
 refine wpList_build hg t parts ho (by rw [hz];rfl) ?_
 rw [hz];exact h
theorem wp_alloc_R {P:Program} {w:World} {o:Oper} {a:Act} {K:Act → World → Prop} {Q:Exit → Act → World → Prop} (ty:TypeId) (ho:o.op = .alloc ty) (us:List Value) (hz:∀ w:World,(zeroValue ty).run P w = .ok (.agg us.toArray) w)
  (h:K (a.put o.dst (.pointer (some ⟨w.heap.size,0,none⟩))) (w.alloc (.cells us.toArray ty))):o.wp P a w K Q:=by
 unfold Oper.wp execOp
 simp [ho,hz,go_sem]
 exact h
theorem ready_twoL {P:Program} {md:Region.Mode} {L:List Oper} {Q:Exit → Act → World → Prop} {S:World → Prop} {fuel:Nat} {listed:Array Bool} {a:Act} {w:World} {i j:Nat} {o p:Oper} (hr:Region.ready md L.toArray listed = [i,j]) (ho:L[i]? = some o) (hp:L[j]? = some p) (hw:Region.wanted o (yielded L.toArray a.tmps) = true) (hv:Region.wanted p (yielded L.toArray a.tmps) = true)
  (h:∀ K':Act → World → Prop,Shut (∀ a w,S w → (S w → wpAnyH P md L.toArray Q S fuel (listed.setIfInBounds i true) a w) → K' a w) → Oper.wp P o a w K' Q)
  (k:∀ K':Act → World → Prop,Shut (∀ a w,S w → (S w → wpAnyH P md L.toArray Q S fuel (listed.setIfInBounds j true) a w) → K' a w) → Oper.wp P p a w K' Q):wpAnyH P md L.toArray Q S (fuel + 1) listed a w :=
 wpAnyH_ready hr (by simp) (AllReadyH.cons (getL ho) (fun K hK=>by rw [if_pos hw];exact h K hK) (AllReadyH.cons (getL hp) (fun K hK=>by rw [if_pos hv];exact k K hK) AllReadyH.nil))
theorem ar2 {P:Program} {md:Region.Mode} {L:List Oper} {Q:Exit → Act → World → Prop} {S:World → Prop} {fuel:Nat} {listed:Array Bool} {a:Act} {w:World} (i j:Nat) {o p:Oper} (ho:L[i]? = some o) (hp:L[j]? = some p)
  (h:∀ K':Act → World → Prop,Shut (∀ a w,S w → (S w → wpAnyH P md L.toArray Q S fuel (listed.setIfInBounds i true) a w) → K' a w) → Oper.wp P o a w K' Q)
  (k:∀ K':Act → World → Prop,Shut (∀ a w,S w → (S w → wpAnyH P md L.toArray Q S fuel (listed.setIfInBounds j true) a w) → K' a w) → Oper.wp P p a w K' Q)
  (hr:Region.ready md L.toArray listed = [i,j]:=by kernel_rfl) (hw:Region.wanted o (yielded L.toArray a.tmps) = true:=by rfl) (hv:Region.wanted p (yielded L.toArray a.tmps) = true:=by rfl):wpAnyH P md L.toArray Q S (fuel + 1) listed a w :=
 ready_twoL hr ho hp hw hv h k
open Go.ChangeAt
theorem laid_ints {P:Program} {W:World} {name:String} {g n:Nat} {T e:TypeId} {q:IntKind} {L:List Nat} {d:DataW Unit} (hg:P.globalNamed name = some g) (hT:(P.globals[g]?).map (·.type) = some T) (hu:P.underlying T = some (.array n e)) (he:P.underlying e = some (.int q)) (hc:P.cellsOf e = 1)
  (hL:L.length = n) (hd:d = .agg (L.map fun (x:Nat)=>DataW.lit (.int q (x:Int)))) (h:laidMet P [(name,d)] W):∀ i,i < n → W.cell? ⟨g,i,none⟩ = some (.int q (L.getD i 0:Nat)):=by
 obtain ⟨ps,⟨g0,t0,cs,f0,p0,q0,hg0,ht0,hv0,hd0,_,_⟩,_,_⟩:=h
 obtain rfl:=Option.some.inj (hg.symm.trans hg0)
 obtain rfl:=Option.some.inj (hT.symm.trans ht0)
 obtain ⟨xs,m,rfl,hx,hlen,hn,hel⟩:=DataW.trod_array hu hd0
 intro i hi
 have hi':=hel i hi
 rw [hc,Nat.mul_one] at hi'
 have hxi:xs[i]? = some xs[i]:=List.getElem?_eq_getElem (by omega)
 rw [hxi] at hi'
 obtain ⟨k,e1,e2,_⟩:=DataW.trod_int he hi'
 simp only [Prod.mk.injEq] at hx
 have h1:=hx.1
 rw [hd] at h1
 simp only [DataW.agg.injEq] at h1
 have h2:=congrArg (fun l=>l[i]?) h1
 simp only [List.getElem?_map,hxi,Option.map_some] at h2
 have hLi:L[i]? = some (L.getD i 0):=by simp [List.getD,List.getElem?_eq_getElem (show i < L.length by omega)]
 rw [hLi,e2] at h2
 simp only [Option.map_some,Option.some.injEq,DataW.lit.injEq,Lit.int.injEq,true_and] at h2
 rw [World.var?_cell hg0 hv0 i]
 have e3:cs.toList[i]? = some (.int q k):=by
  have:=congrArg (fun l=>l[0]?) e1
  simpa using this
 rw [← h2] at e3
 simpa using e3
theorem laid_block {P:Program} {W:World} {name:String} {g n:Nat} {T e:TypeId} {q:IntKind} {L:List Nat} {d:DataW Unit} (hg:P.globalNamed name = some g) (hT:(P.globals[g]?).map (·.type) = some T) (hu:P.underlying T = some (.array n e)) (he:P.underlying e = some (.int q)) (hc:P.cellsOf e = 1) (hcT:P.cellsOf T = n)
  (hL:L.length = n) (hd:d = .agg (L.map fun (x:Nat)=>DataW.lit (.int q (x:Int)))) (h:laidMet P [(name,d)] W):∃ t f,W.heap[g]? = some (.cells (C q L).toArray t f):=by
 have hall:=laid_ints hg hT hu he hc hL hd h
 obtain ⟨ps,⟨g0,t0,cs,f0,p0,q0,hg0,ht0,hv0,hd0,_,_⟩,_,_⟩:=h
 obtain rfl:=Option.some.inj (hg.symm.trans hg0)
 obtain rfl:=Option.some.inj (hT.symm.trans ht0)
 obtain ⟨xs,m,rfl,hx,hlen,hn,hel⟩:=DataW.trod_array hu hd0
 have hcs:cs = (C q L).toArray:=by
  apply Array.ext'
  apply List.ext_getElem?
  intro i
  by_cases hi:i < n
  ·have h1:=hall i hi
   rw [World.var?_cell hg0 hv0 i] at h1
   have h2:=C_get q (xs:=L) (i:=i) (by omega)
   simp only [Array.getElem?_toList] at h1 ⊢
   rw [h1]
   simpa using h2.symm
  ·rw [List.getElem?_eq_none (by omega),List.getElem?_eq_none (by simp [C_length];omega)]
 subst hcs
 simp only [World.var?,hg,Option.bind_some] at hv0
 split at hv0
 ·next c t f heq =>
   obtain rfl:=Option.some.inj hv0
   exact ⟨_,_,heq⟩
 ·cases hv0
theorem run_load_at {P:Program} (w:World) {g off n:Nat} {t ty e:TypeId} {ps us vs:List Value} (hg:Row w g t (ps ++ (us ++ vs))) (hp:ps.length = off) (hu:P.underlying ty = some (.array n e)) (hi:(P.info? ty).map (·.size) = some us.length) :
  (loadVar ty ⟨g,off,none⟩).run P w = .ok (.agg us.toArray) w:=by
 subst hp
 have hl:(loadCells ⟨g,ps.length,none⟩ us.length).run P w = .ok us.toArray w :=
  run_loadCells_list (P:=P) w ⟨g,ps.length,none⟩ us (fun j v hv=>by
   rw [Addr.add_lit,hg.cell,List.getElem?_append_right (by omega),show ps.length + j - ps.length = j by omega,List.getElem?_append_left (List.getElem?_eq_some_iff.1 hv).1]
   exact hv)
 cases hq:P.info? ty with
 | none=>simp [hq] at hi
 | some i =>
  have hs:i.size = us.length:=by simpa [hq] using hi
  have hagg:(isAgg ty).run P w = .ok true w:=by
   unfold isAgg
   rw [Sem.run_bind,run_underlying hu w]
   simp
  simp [loadVar,Sem.run_bind,hagg,sizeOf,typeInfo,hq,hs,hl]
theorem exec_load_at {P:Program} {w:World} {o:Oper} {ev:Operand → Value} (ty:TypeId) (x:Operand) (ho:o.op = .load ty x) {g off:Nat} (hx:ev x = .pointer (some ⟨g,off,none⟩)) {t e:TypeId} {n:Nat} {ps us vs:List Value} (hg:Row w g t (ps ++ (us ++ vs))) (hp:ps.length = off)
  (hu:P.underlying ty = some (.array n e)) (hi:(P.info? ty).map (·.size) = some us.length):(execOp ev o).run P w = .ok (.value (.agg us.toArray)) w:=by
 unfold execOp
 simp only [ho,hx,Instr.loadAt,Instr.sureAddr,Sem.run_bind,Sem.run_pure,Result.andThen_ok,run_load_at w hg hp hu hi]
theorem wpList_load_at {P:Program} {ops:Array Oper} {rest:List Oper} {o:Oper} {a:Act} {w:World} {Q:Exit → Act → World → Prop} (hgd:o.guard = none) (ty:TypeId) (x:Operand) (ho:o.op = .load ty x)
  {g off:Nat} (hx:a.eval x = .pointer (some ⟨g,off,none⟩)) {t e:TypeId} {n:Nat} {ps us vs:List Value} (hg:Row w g t (ps ++ (us ++ vs))) (hp:ps.length = off)
  (hu:P.underlying ty = some (.array n e)) (hi:(P.info? ty).map (·.size) = some us.length)
  (h:wpList P ops Q rest (a.put o.dst (.agg us.toArray)) w):wpList P ops Q (o :: rest) a w :=
 wpList_plain hgd fun _ hK=>by
  unfold Oper.wp
  rw [exec_load_at ty x ho hx hg hp hu hi]
  exact hK _ _ h
theorem run_store_at {P:Program} (w:World) {g off:Nat} {t ty:TypeId} {ps old us vs:List Value} (hg:Row w g t (ps ++ (old ++ vs))) (hp:ps.length = off) (hi:(P.info? ty).map (·.size) = some us.length) (ho:old.length = us.length) (h1:us.all (·.oneCell') = true) :
  (storeVar ty ⟨g,off,none⟩ (.agg us.toArray)).run P w = .ok () (w.setRow g (ps ++ (us ++ vs)).toArray):=by
 subst hp
 have:=run_storeCells_at P g ps.length t us 0 (ps ++ (old ++ vs)).toArray w hg (by simp;omega) (fun v hv=>List.all_eq_true.1 h1 v hv)
 simp only [Nat.add_zero] at this
 rw [show (ps ++ (old ++ vs)).take ps.length = ps by simp,show (ps ++ (old ++ vs)).drop (ps.length + us.length) = vs by rw [← ho,← List.append_assoc,List.drop_append_of_le_length (by simp),List.drop_of_length_le (by simp),List.nil_append],List.append_assoc] at this
 cases hq:P.info? ty with
 | none=>simp [hq] at hi
 | some i =>
  have hs:us.length = i.size:=by simp [hq] at hi;omega
  simp [storeVar,sizeOf,typeInfo,hq,Value.cells,hs,this]
theorem wp_store_at {P:Program} {w:World} {o:Oper} {a:Act} {K:Act → World → Prop} {Q:Exit → Act → World → Prop} (ty:TypeId) (x y:Operand) (ho:o.op = .store ty x y)
  {g off:Nat} (us:List Value) (hx:a.eval x = .pointer (some ⟨g,off,none⟩)) (hy:a.eval y = .agg us.toArray) {t:TypeId} {ps old vs:List Value} (hg:Row w g t (ps ++ (old ++ vs))) (hp:ps.length = off) (hi:(P.info? ty).map (·.size) = some us.length)
  (hold:old.length = us.length) (h1:us.all (·.oneCell') = true)
  (h:∀ w',Row w' g t (ps ++ (us ++ vs)) → w.grownBy w' (some g) → w'.heap.size = w.heap.size → K (a.put o.dst undef) w'):o.wp P a w K Q:=by
 unfold Oper.wp execOp
 simp only [ho,hx,hy,Instr.storeAt,Instr.sureAddr,Sem.run_bind,Sem.run_pure,Result.andThen_ok,run_store_at w hg hp hi hold h1]
 exact h _ (hg.setRow _) ⟨rfl,rfl,rfl,by simp,fun k _ hk=>setRow_other w g k _ (fun e=>hk (by rw [e]))⟩ (by simp)
theorem wpList_store_at {P:Program} {ops:Array Oper} {rest:List Oper} {o:Oper} {a:Act} {w:World} {Q:Exit → Act → World → Prop} (hgd:o.guard = none) (ty:TypeId) (x y:Operand) (ho:o.op = .store ty x y)
  {g off:Nat} (us:List Value) (hx:a.eval x = .pointer (some ⟨g,off,none⟩)) (hy:a.eval y = .agg us.toArray) {t:TypeId} {ps old vs:List Value} (hg:Row w g t (ps ++ (old ++ vs))) (hp:ps.length = off) (hi:(P.info? ty).map (·.size) = some us.length)
  (hold:old.length = us.length) (h1:us.all (·.oneCell') = true)
  (h:∀ w',Row w' g t (ps ++ (us ++ vs)) → w.grownBy w' (some g) → w'.heap.size = w.heap.size → wpList P ops Q rest (a.put o.dst undef) w'):wpList P ops Q (o :: rest) a w :=
 wpList_plain hgd fun _ hK=>wp_store_at ty x y ho us hx hy hg hp hi hold h1 fun w' p q r=>hK _ _ (h w' p q r)
abbrev Cell3:Type:=Nat × TypeId × List Value
structure Fr (w0 w:World) (rows:List Cell3):Prop where
 bel:Below w0.heap.size w0 w
 all:∀ r ∈ rows,Row w r.1 r.2.1 r.2.2
 old:∀ r ∈ rows,w0.heap.size ≤ r.1
 nd:(rows.map (·.1)).Nodup
section
variable {w0 w w':World} {rows:List Cell3}
theorem Fr.start (w:World):Fr w w []:=⟨Below.refl _ w,fun _ h=>by simp at h,fun _ h=>by simp at h,by simp⟩
theorem Fr.row (h:Fr w0 w rows) {i g:Nat} {t:TypeId} {us:List Value} (hi:rows[i]? = some (g,t,us)):Row w g t us:=h.all _ (List.mem_of_getElem? hi)
theorem Fr.lt (h:Fr w0 w rows) {i g:Nat} {t:TypeId} {us:List Value} (hi:rows[i]? = some (g,t,us)):g < w.heap.size:=(h.row hi).lt
theorem Fr.below (h:Fr w0 w rows) (hb:Below w.heap.size w w'):Fr w0 w' rows :=
 ⟨h.bel.trans (hb.mono h.bel.size),fun r hr=>(h.all r hr).belowS hb,h.old,h.nd⟩
theorem Fr.drew (h:Fr w0 w rows):Fr w0 w.drew rows:=⟨⟨h.bel.os,h.bel.tape,h.bel.output,h.bel.size,h.bel.block⟩,h.all,h.old,h.nd⟩
theorem Fr.more (h:Fr w0 w rows) (k:Nat) (t:TypeId) (us:List Value):∃ g,w.heap.size = g ∧ Fr w0 (w.alloc (.cells us.toArray t)) (rows.take k ++ (g,t,us) :: rows.drop k):=by
 refine ⟨_,rfl,h.bel.alloc h.bel.size _,fun r hr=>?_,fun r hr=>?_,?_⟩
 ·rcases List.mem_append.1 hr with h1 | h1
  ·exact (h.all r (List.mem_of_mem_take h1)).alloc _
  ·rcases List.mem_cons.1 h1 with rfl | h1
   ·exact Row.new w t us
   ·exact (h.all r (List.mem_of_mem_drop h1)).alloc _
 ·rcases List.mem_append.1 hr with h1 | h1
  ·exact h.old r (List.mem_of_mem_take h1)
  ·rcases List.mem_cons.1 h1 with rfl | h1
   ·exact h.bel.size
   ·exact h.old r (List.mem_of_mem_drop h1)
 ·have hp:(rows.take k ++ (w.heap.size,t,us) :: rows.drop k).Perm ((w.heap.size,t,us) :: rows):=by
   refine List.perm_middle.trans (List.Perm.cons _ ?_)
   rw [List.take_append_drop]
  rw [(hp.map _).nodup_iff,List.map_cons,List.nodup_cons]
  refine ⟨fun hm=>?_,h.nd⟩
  obtain ⟨r,hr,he⟩:=List.mem_map.1 hm
  have:=(h.all r hr).lt
  simp only [] at he
  omega
theorem Fr.put (h:Fr w0 w rows) {i g:Nat} {t:TypeId} {us us':List Value} (hi:rows[i]? = some (g,t,us)) (hr:Row w' g t us') (hg:w.grownBy w' (some g)):Fr w0 w' (rows.set i (g,t,us')):=by
 have hil:=(List.getElem?_eq_some_iff.1 hi).1
 have hmap:(rows.set i (g,t,us')).map (·.1) = rows.map (·.1):=by
  rw [List.map_set]
  apply List.ext_getElem? fun j=>?_
  rw [List.getElem?_set]
  by_cases hj:i = j
  ·subst hj
   have e:=(List.getElem?_eq_some_iff.1 hi).2
   simp [hil,e]
  ·simp [hj]
 refine ⟨h.bel.grown hg h.bel.size (fun k hk=>?_),fun r hm=>?_,fun r hm=>?_,by rw [hmap];exact h.nd⟩
 ·simp only [Option.some.injEq] at hk
  subst hk
  exact h.old _ (List.mem_of_getElem? hi)
 ·obtain ⟨j,hj,he⟩:=List.mem_iff_getElem.1 hm
  rw [List.getElem_set] at he
  split at he
  ·subst he;exact hr
  ·rename_i hne
   subst he
   have hj':j < rows.length:=by simpa using hj
   refine (h.all _ (List.getElem_mem hj')).grown hg ?_
   intro e
   have hn:=List.pairwise_iff_getElem.1 h.nd
   have e2:rows[i].1 = g:=by rw [(List.getElem?_eq_some_iff.1 hi).2]
   have e3:rows[j].1 = g:=by simpa using e
   rcases Nat.lt_or_gt_of_ne hne with hl | hl
   ·have:=hn i j (by simpa using hil) (by simpa using hj') hl
    simp only [List.getElem_map] at this
    omega
   ·have:=hn j i (by simpa using hj') (by simpa using hil) hl
    simp only [List.getElem_map] at this
    omega
 ·obtain ⟨j,hj,he⟩:=List.mem_iff_getElem.1 hm
  rw [List.getElem_set] at he
  split at he
  ·subst he
   have:=h.old _ (List.mem_of_getElem? hi)
   exact this
  ·subst he;exact h.old _ (List.getElem_mem _)
theorem Fr.only (h:Fr w0 w rows):Below w0.heap.size w0 w:=h.bel
theorem Fr.two (w:World) (t1 t2:TypeId) (us vs:List Value):∃ w4:World,(w.alloc (.cells us.toArray t1)).alloc (.cells vs.toArray t2) = w4 ∧ Fr w w4 [(w.heap.size,t1,us),(w.heap.size + 1,t2,vs)]:=by
 obtain ⟨g,e,h⟩:=(Fr.start w).more 0 t1 us
 obtain ⟨g2,e2,h2⟩:=h.more 1 t2 vs
 subst e;subst e2
 refine ⟨_,rfl,?_⟩
 rw [alloc_size] at h2
 exact h2
theorem Fr.one (w:World) (t1:TypeId) (us:List Value):Fr w (w.alloc (.cells us.toArray t1)) [(w.heap.size,t1,us)]:=by
 obtain ⟨g,e,h⟩:=(Fr.start w).more 0 t1 us
 subst e
 exact h
theorem Fr.three (w:World) (t1 t2 t3:TypeId) (us vs xs:List Value):∃ w4:World,((w.alloc (.cells us.toArray t1)).alloc (.cells vs.toArray t2)).alloc (.cells xs.toArray t3) = w4 ∧ Fr w w4 [(w.heap.size,t1,us),(w.heap.size + 1,t2,vs),(w.heap.size + 1 + 1,t3,xs)]:=by
 obtain ⟨w2,e,h⟩:=Fr.two w t1 t2 us vs
 obtain ⟨g2,e2,h2⟩:=h.more 2 t3 xs
 have hs:w2.heap.size = w.heap.size + 1 + 1:=by rw [← e,alloc_size,alloc_size]
 subst e2
 rw [hs] at h2
 rw [e]
 exact ⟨_,rfl,h2⟩
end
end Go.Proofs.YtmjimilhomabfaaGreatDoor
