/-
 Numbers as words: shifted down, divided (package nat). Conditions: each as it says.
-/
import Derived.Test.YtmjimilhomabfaaGreatDoorN14b
import Derived.Test.YtmjimilhomabfaaGreatDoorK14
namespace Go.Proofs.YtmjimilhomabfaaGreatDoor
open Go.RowKit Go.Shelf
set_option linter.unusedVariables false
set_option maxRecDepth 10000
attribute [local go_sem] Oper.semAt_some
def shrSt (r:Nat) (z:List Nat) {n:Nat} {V:Nat → Nat → Prop} (pre:List (Al n V)):List Nat × Nat:=pre.foldl (fun s x=>(s.1.set x.1.1 ((s.2 * 4294967296 + x.1.2) / 2 ^ r % 4294967296),x.1.2)) (z,0)
theorem shrSt_snoc (r:Nat) (z:List Nat) {n:Nat} {V:Nat → Nat → Prop} (pre:List (Al n V)) (x:Al n V):shrSt r z (pre ++ [x]) = ((shrSt r z pre).1.set x.1.1 (((shrSt r z pre).2 * 4294967296 + x.1.2) / 2 ^ r % 4294967296),x.1.2):=by simp [shrSt]
theorem Row.turn {A B:World} {g:Nat} {e:TypeId} {us:List Value} {row:Option Nat} (h:Row A g e us) (hg:A.grownBy B row) (hr:∀ r,row = some r → ∃ o:Obj,A.heap[r]? = some o ∧ o.isCells = false):Row B g e us :=
 h.grown hg (fun e=>by
  obtain ⟨o,ho,hc⟩:=hr g e.symm
  rw [show A.heap[g]? = _ from h] at ho;cases ho;cases hc)
theorem Boxed.turn {A B:World} {b:Nat} {t:TypeId} {u:Value} {row:Option Nat} (h:Boxed A b t u) (hg:A.grownBy B row) (hr:∀ r,row = some r → ∃ o:Obj,A.heap[r]? = some o ∧ o.isCells = false):Boxed B b t u :=
 Row.turn (us:=[u]) h hg hr
theorem Boxed.row {W:World} {b:Nat} {t:TypeId} {u:Value} (h:Boxed W b t u):Row W b t [u]:=h
theorem or64 (x y:Nat) (hx:x < 4294967296) (hy:y < 4294967296):bits .or .u64 ((x:Int) * 4294967296) (y:Int) = ((x * 4294967296 + y:Nat):Int):=by
 rw [show (x:Int) * 4294967296 = ((x * 4294967296:Nat):Int) by simp,u64_or_nat _ _ (by omega) (by omega)]
 have:=Nat.two_pow_add_eq_or_of_lt (i:=32) (show y < 2 ^ 32 by omega) x
 rw [Nat.mul_comm] at this
 rw [show (4294967296:Nat) = 2 ^ 32 from rfl,← this]
theorem getD_set_same {xs:List Nat} {i:Nat} (h:i < xs.length) (z:Nat):(xs.set i z).getD i 0 = z:=by simp [List.getD,h]
theorem SlV.turn {A B:World} {v:Value} {xs:List Value} {row:Option Nat} (h:SlV A v xs) (hg:A.grownBy B row) (hr:∀ r,row = some r → ∃ o:Obj,A.heap[r]? = some o ∧ o.isCells = false):SlV B v xs:=by
 obtain ⟨a,cap,rfl,h1,h2,h3,h4⟩:=h
 refine ⟨a,cap,rfl,h1,h2,h3,fun hp=>?_⟩
 obtain ⟨b,off,e,h5⟩:=h4 hp
 exact ⟨b,off,e,fun i u hu=>cell_kept (h5 i u hu) hg hr⟩
theorem Ans.turn {A B:World} {v:Value} {N b:Nat} {row:Option Nat} (h:Ans b A v N) (hg:A.grownBy B row) (hr:∀ r,row = some r → ∃ o:Obj,A.heap[r]? = some o ∧ o.isCells = false):Ans b B v N:=by
 obtain ⟨zs,h1,h2,h3⟩:=h
 refine ⟨zs,h1,h2.turn hg hr,fun hp=>?_⟩
 obtain ⟨g,rest,e,hb,hrow⟩:=h3 hp
 exact ⟨g,rest,e,hb,Row.turn hrow hg hr⟩
theorem Seen.keep {V:Nat → Nat → Prop} {Bs:Nat} {a:Option Addr} {n cap:Nat} {W W':World} (h:Seen V Bs a n cap W) (h1:W'.heap[Bs]? = W.heap[Bs]?) (h2:∀ b off,0 < n → a = some ⟨b,off,none⟩ → W'.heap[b]? = W.heap[b]?):Seen V Bs a n cap W' :=
 ⟨(
  World.cell?_of_block (a:=⟨Bs,0,none⟩) h1).trans h.1,fun j hj=>by
  obtain ⟨b,off,z,e,hz,hV,hc⟩:=h.2 j hj
  exact ⟨b,off,z,e,hz,hV,(World.cell?_of_block (a:=⟨b,off + j,none⟩) (h2 b off (by omega) e)).trans hc⟩⟩
theorem wrap32 (x:Int):IntKind.u32.wrap x = x % 4294967296:=by simp [IntKind.wrap,IntKind.signed,IntKind.bits]
def ShrI (w:World) (r g b6 b7 b8 m:Nat) {n:Nat} {V:Nat → Nat → Prop} (pre:List (Al n V)) (W:World):Prop :=
 Row W g 95 (C .u32 (shrSt r (List.replicate m 0) pre).1) ∧ Boxed W b8 30 (.int .u64 ((shrSt r (List.replicate m 0) pre).2:Nat)) ∧ Boxed W b7 68 (.slice (some ⟨g,0,none⟩) m m) ∧ Boxed W b6 3 (.int .i64 (r:Int))
theorem shrSt_lo (r m:Nat) {n:Nat} {V:Nat → Nat → Prop} (pre:List (Al n V)):(shrSt r (List.replicate m 0) pre).1.length = m ∧ Lo W32 (shrSt r (List.replicate m 0) pre).1 ∧ (shrSt r (List.replicate m 0) pre).2 < 4294967296:=by
 have h:∀ (l:List (Al n V)) (s:List Nat × Nat),s.1.length = m → Lo W32 s.1 → s.2 < 4294967296 →
   (l.foldl (fun s x=>(s.1.set x.1.1 ((s.2 * 4294967296 + x.1.2) / 2 ^ r % 4294967296),x.1.2)) s).1.length = m ∧ Lo W32 (l.foldl (fun s x=>(s.1.set x.1.1 ((s.2 * 4294967296 + x.1.2) / 2 ^ r % 4294967296),x.1.2)) s).1 ∧ (l.foldl (fun s x=>(s.1.set x.1.1 ((s.2 * 4294967296 + x.1.2) / 2 ^ r % 4294967296),x.1.2)) s).2 < 4294967296:=by
  intro l
  induction l with
  | nil=>intro s h1 h2 h3;exact ⟨h1,h2,h3⟩
  | cons x l ih=>intro s h1 h2 h3;exact ih _ (by simp [h1]) (h2.set _ _ (Nat.mod_lt _ (by decide))) x.2.2.1
 exact h pre _ (by simp) (Lo.zeros (by decide) _) (by show 0 < 4294967296;decide)
theorem shrSt_all {r n:Nat} {ts:List Nat} (hn:ts.length = n) (hl:Lo W32 ts) (hr:r < 32) (qs:List (Al n fun j z=>z = ts.getD j 0)) (hp:places qs = desc n n):val W32 (shrSt r (List.replicate n 0) qs).1 = val W32 ts / 2 ^ r:=by
 have key:∀ (k:Nat) (l:List (Al n fun j z=>z = ts.getD j 0)),k ≤ n → places l = desc n k →
   (shrSt r (List.replicate n 0) l).2 = (if k = 0 then 0 else ts.getD (n - k) 0) ∧ ∀ j,j < n → n - 1 - k < j ∨ k = n → (shrSt r (List.replicate n 0) l).1.getD j 0 = val W32 ts / 2 ^ r / W32 ^ j % W32:=by
  intro k
  induction k with
  | zero =>
   intro l _ hl'
   obtain rfl:l = []:=by
    cases l with
    | nil=>rfl
    | cons x l=>simp [places,desc] at hl'
   refine ⟨by simp [shrSt],fun j hj h=>?_⟩
   omega
  | succ k ih =>
   intro l hk hl'
   have hne:l ≠ []:=by rintro rfl;simp [places,desc_succ] at hl'
   obtain ⟨l',x,rfl⟩:∃ l' x,l = l' ++ [x]:=⟨l.dropLast,l.getLast hne,(List.dropLast_concat_getLast hne).symm⟩
   obtain ⟨k',hk',hp',hx⟩:=last_place hl'
   obtain rfl:k = k':=by omega
   obtain ⟨ih1,ih2⟩:=ih l' (by omega) hp'
   have hV:=x.2.2.2
   have hlen:=(shrSt_lo r n l').1
   rw [shrSt_snoc]
   refine ⟨?_,fun j hj h=>?_⟩
   ·rw [if_neg (by omega)]
    show x.1.2 = _
    rw [hV,hx];congr 1;omega
   ·show ((shrSt r (List.replicate n 0) l').1.set x.1.1 _).getD j 0 = _
    by_cases hjx:j = x.1.1
    ·have e:∀ z,((shrSt r (List.replicate n 0) l').1.set x.1.1 z).getD j 0 = z:=fun z=>by rw [hjx];exact getD_set_same (by rw [hlen];exact x.2.1) z
     rw [e,ih1,hV,← hjx]
     have habove:(if k = 0 then 0 else ts.getD (n - k) 0) = val W32 ts / W32 ^ (j + 1) % W32:=by
      rw [← getD_val (by decide) hl]
      split
      ·rw [getD_past (by omega)]
      ·congr 1;omega
     rw [habove,getD_val (B:=W32) (by decide) hl j,Nat.add_comm,Nat.mul_comm]
     have h2:=two_words (B:=W32) (val W32 ts) j
     rw [show (4294967296:Nat) = W32 from rfl,h2,shr_math (B:=W32) (Nat.pow_pos (by decide)) (by decide) (pow_split (r:=r) (by omega)),Nat.div_div_eq_div_mul,Nat.div_div_eq_div_mul,Nat.mul_comm]
    ·rw [getD_set_other _ _ (Ne.symm hjx)]
     exact ih2 j hj (by omega)
 have hlen:=(shrSt_lo r n qs).1
 have h1:=val_of_digits (B:=W32) (xs:=(shrSt r (List.replicate n 0) qs).1) (M:=val W32 ts / 2 ^ r) (by decide) (fun i hi=>(key n qs (Nat.le_refl _) hp).2 i (by omega) (.inr rfl))
 rw [h1,hlen]
 apply Nat.mod_eq_of_lt
 have:=val_lt (B:=W32) (by decide) hl
 rw [hn] at this
 exact Nat.lt_of_le_of_lt (Nat.div_le_self _ _) this
set_option maxRecDepth 100000 in
set_option maxHeartbeats 2000000 in
theorem shr_any (va:Value) (xs:List Nat) (ni:Int) (w:World) (ha:SlV w va (C .u32 xs)) (hx:Lo W32 xs) (hxm:xs.length ≤ 100000) (hn:ni ≤ 9223372036854775807) :
  Calls Tryz.prog 123 #[va,.int .i64 ni] w fun e w'=>∃ v',e = .returned v' ∧ Ans w.heap.size w' v' (val W32 xs / 2 ^ ni.toNat) ∧ Below w.heap.size w w':=by
 obtain ⟨i0,hi,hz0,hz1,hz2⟩:=info_parts Tryz.info95
 obtain ⟨n,hmax,hnn⟩:∃ n:Nat,max ni 0 = (n:Int) ∧ ni.toNat = n:=⟨ni.toNat,by omega,rfl⟩
 have hn63:(n:Int) ≤ 9223372036854775807:=by omega
 rw [hnn]
 obtain ⟨q,hq⟩:∃ q,n / 32 = q:=⟨_,rfl⟩
 obtain ⟨r,hr⟩:∃ r,n % 32 = r:=⟨_,rfl⟩
 have hnq:n = 32 * q + r:=by omega
 have hr32:r < 32:=by omega
 have e1:(n:Int) / 32 = (q:Int):=by omega
 have e2:(n:Int) % 32 = (r:Int):=by omega
 have HN:=Away.mk hnq
 clear hq hr hnq hnn
 refine (callsIn_wide (n:=3)).1 ?_
 refine callsIn_of_wp_marks Tryz.func123 rfl trivial ?_ rfl
 refine wpIn_wide.2 ?_
 simp only [Tryz.ntmps123,List.size_toArray,List.length_cons,List.length_nil,Nat.reduceAdd,Nat.reduceSub,Array.replicate_succ,Array.replicate_zero,List.push_toArray,List.append_toArray,List.nil_append,List.cons_append]
 go_wp2_with fail
 refine (trimmed_read va xs w ha hx (by omega)).mono ?_
 rintro _ w2 ⟨v1,zs,rfl,hI1,hl1,hs1,hb02⟩
 obtain ⟨n1,hn1⟩:∃ n,zs.length = n:=⟨_,rfl⟩
 obtain ⟨a1,c1,rfl,q1,r1⟩:=hs1.shapeC hn1
 have HS1:=Away.mk hs1;have HI1:=Away.mk hI1;have HB:=Away.mk hb02
 clear ha hs1 hI1 hb02
 by_cases hqn:n1 ≤ q
 ·have d1:decide ((n1:Int) ≤ (q:Int)) = true:=decide_eq_true (by omega)
  go_wp2
  have hz:val W32 xs / 2 ^ n = 0:=by
   apply Nat.div_eq_of_lt
   have h1:=HI1.out.val_lt (by decide) (show zs.length ≤ q by omega)
   rw [pow32] at h1
   exact Nat.lt_of_lt_of_le h1 (Nat.pow_le_pow_right (by decide) (by rw [HN.out];omega))
  refine ⟨_,results_tmp rfl _ _ _,_,rfl,?_,HB.out.alloc HB.out.size _⟩
  rw [hz]
  exact Ans.nil _ _
 ·have d1:decide (n1 ≤ q) = false:=decide_eq_false hqn
  go_wp2_with (at_make;refine wpList_make_full _ rfl _ _ 68 rfl w.heap.size 95 i0 _ 1 Tryz.underlying68 hi hz0 hz1 _ _ _ _ (n1 - q) rfl rfl (by omega) (by omega) (by rw [hz2];omega) (by unfold maxLen;omega) (by have:=HB.out.size;simp;omega) ?_)
  intro w3 hown hg3
  have hr3:=Row.ofOwn (own_made hown)
  rw [← C_zeros] at hr3
  have HR3:=Away.mk hr3;have HG3:=Away.mk hg3
  clear hown hg3 hr3
  have hsq:=HS1.out.cut q (n1 - q) (by omega)
  rw [← C_drop,← C_take,List.take_of_length_le (by rw [List.length_drop];omega)] at hsq
  have hg:=HR3.out.lt
  have hB3:Below w2.heap.size w2 w3:=((Below.refl _ w2).alloc (Nat.le_refl _) _).grown HG3.out (by simp) (by simp)
  have b6:Boxed w3 w2.heap.size 3 (.int .i64 (r:Int)):=(Boxed.new w2 3 (.int .i64 (r:Int))).kept HG3.out (by simp)
  go_wp2_with fail
  refine (down_any _ _ _ _).mono ?_
  rintro _ w' ⟨rfl,rfl⟩
  go_wp2
  generalize Option.map (fun x=>x.add q) a1 = a2 at *
  obtain ⟨w4,hw4⟩:∃ w4,(w3.alloc (.cells #[.slice (some ⟨w2.heap.size + 1,0,none⟩) (n1 - q) (n1 - q)] 68)).alloc (.cells #[.int .u64 0] 30) = w4:=⟨_,rfl⟩
  rw [hw4]
  obtain ⟨m,hm⟩:∃ m,n1 - q = m:=⟨_,rfl⟩
  obtain ⟨ts,hts⟩:∃ ts,zs.drop q = ts:=⟨_,rfl⟩
  obtain ⟨c2,hc2⟩:∃ c2,c1 - q = c2:=⟨_,rfl⟩
  obtain ⟨g,hgg⟩:∃ g,w2.heap.size + 1 = g:=⟨_,rfl⟩
  have hsz4:w4.heap.size = w3.heap.size + 1 + 1:=by rw [← hw4];simp
  have hB34:Below w3.heap.size w3 w4:=by rw [← hw4];exact ((Below.refl _ w3).alloc (Nat.le_refl _) _).alloc (by simp) _
  have b7:Boxed w4 w3.heap.size 68 (.slice (some ⟨w2.heap.size + 1,0,none⟩) (n1 - q) (n1 - q)):=by rw [← hw4];exact (Boxed.new w3 _ _).alloc _
  have b8:Boxed w4 (w3.heap.size + 1) 30 (.int .u64 0):=by rw [← hw4];have:=Boxed.new (w3.alloc (.cells #[.slice (some ⟨w2.heap.size + 1,0,none⟩) (n1 - q) (n1 - q)] 68)) 30 (.int .u64 0);rwa [World.size_alloc] at this
  have b6:=b6.kept (grown_of_below hB34 none) (by simp)
  have hr4:=HR3.out.belowS hB34
  have hsz3:w2.heap.size + 2 ≤ w3.heap.size:=by omega
  have hB24:Below w2.heap.size w2 w4:=hB3.trans (hB34.mono hB3.size)
  have hB04:Below w.heap.size w w4:=HB.out.trans (hB24.mono HB.out.size)
  have hwsz:=HB.out.size
  have hsq4:=hsq.below hB24
  have htl:ts.length = m:=by rw [← hts,List.length_drop];omega
  have htlo:Lo W32 ts:=by rw [← hts];exact HI1.out.2.1.drop q
  rw [hm,hgg] at b7 hr4 ⊢
  rw [hts,hm,hc2] at hsq hsq4
  rw [hc2]
  have hfin:val W32 ts / 2 ^ r = val W32 xs / 2 ^ n:=by
   rw [← hts,val_div (by decide) HI1.out.2.1,HI1.out.1,pow32,Nat.div_div_eq_div_mul,← Nat.pow_add,HN.out]
  have hown:=hsq.own
  have hS:=Seen.of hsq4 htl htlo
  rw [hsz4] at hS
  have hg1:g < w3.heap.size:=by omega
  have hg2:w2.heap.size < g:=by omega
  clear hw4 hB3 hB34 hsq hsq4 HG3 HR3 hts hg hgg
  refine range_down w (w3.heap.size + 1 + 1) m c2 a2 (fun j z=>z = ts.getD j 0) (by unfold maxLen;omega) rfl rfl (hB04.alloc (by omega) _)
   (fun W hW=>hS.below hW (by simp;omega) (fun b off hp e=>by have:=hown (by rw [C_length];omega) b (by rw [e];rfl);simp;omega))
   (fun pre W=>ShrI w r g w2.heap.size w3.heap.size (w3.heap.size + 1) m pre W) (fun _ _=>False)
   (fun s A B row hs hg hr=>⟨Row.turn hs.1 hg hr,Boxed.turn hs.2.1 hg hr,Boxed.turn hs.2.2.1 hg hr,Boxed.turn hs.2.2.2 hg hr⟩)
   (fun _ _ _ _ hs _ _=>hs)
   ⟨hr4.alloc _,b8.alloc _,b7.alloc _,b6.alloc _⟩
   (fun i z=>{ tmps:=#[.slice a1 n1 c1,.int .i64 n,undef,undef,.slice none 0 0,.int .i64 q,.pointer (some ⟨w2.heap.size,0,none⟩),.pointer (some ⟨w3.heap.size,0,none⟩),.pointer (some ⟨w3.heap.size + 1,0,none⟩),.int .i64 (i:Int),.int .u32 (z:Int),undef,va,.slice a1 n1 c1,.int .i64 ni,.int .i64 n,.int .i64 n,.int .i64 q,.int .i64 n,?t19,.int .i64 q,.slice a1 n1 c1,.int .i64 n1,.bool false,.slice a1 n1 c1,.int .i64 n1,.int .i64 q,?t27,?t28,.slice a1 n1 c1,.int .i64 q,?t31,.func (.func 159) #[] #[.pointer (some ⟨w3.heap.size + 1 + 1,0,none⟩)],.int .i64 (i:Int),.int .u32 (z:Int),undef,undef,undef,undef,undef,undef,undef,undef,undef,undef,undef,undef,undef,undef,undef,undef],defers:=[] }) ?assign ?body ?done ?stop
  case assign =>
   intro l i z W K hK
   gi_wp2
   exact hK
  case body =>
   rintro l pre x i z W R HX hii hz HV ⟨hr,hb8,hb7,hb6⟩ hB HN' HR'
   have hb8:Boxed W (w3.heap.size + 1) 30 _:=hb8
   have hb7:Boxed W w3.heap.size 68 _:=hb7
   have hb6:Boxed W w2.heap.size 3 _:=hb6
   obtain ⟨hsl,hslo,hs2⟩:=shrSt_lo r m pre
   have c8:=hb8.cell;have f8:=hb8.frozen;have c7:=hb7.cell;have c6:=hb6.cell
   have hco:=(hr.cell i).trans (C_get _ (by omega))
   have hfo:=hr.frozen i
   clear b6 b7 b8 hr4 hS
   obtain ⟨ab,hab⟩:∃ ab,(shrSt r (List.replicate m 0) pre).2 = ab:=⟨_,rfl⟩
   rw [hab] at c8 hs2
   have hor:=or64 ab z hs2 hz
   gi_wp2
   refine region_round (S:=fun w'=>w'.cell? ⟨w3.heap.size,0,none⟩ = some (.slice (some ⟨g,0,none⟩) m m) ∧ w'.cell? ⟨w2.heap.size,0,none⟩ = some (.int .i64 (r:Int))) (by kernel_rfl) (by kernel_rfl) (⟨c7,c6⟩) (fun hHeld=>?_)
   refine wpAnyH_takeL (i:=0) (v:=?v0) rfl (by kernel_rfl) (by kernel_rfl) (by kernel_rfl) (fun _ _ _ h=>h) (by rfl) ?h0 (by assumption) ?_
   case h0=>intro w hSw;go_simp <;> with_reducible rfl
   simp only [Act.put,stA,st0,st1]
   refine wpAnyH_takeL (i:=1) (v:=?v1) rfl (by kernel_rfl) (by kernel_rfl) (by kernel_rfl) (fun _ _ _ h=>h) (by rfl) ?h1 (by assumption) ?_
   case h1=>intro w hSw;go_simp <;> with_reducible rfl
   simp only [Act.put,stA,st0,st1]
   refine wpAnyH_takeL (i:=2) (v:=?v2) rfl (by kernel_rfl) (by kernel_rfl) (by kernel_rfl) (fun _ _ _ h=>h) (by rfl) ?h2 (by assumption) ?_
   case h2=>intro w hSw;go_simp <;> with_reducible rfl
   simp only [Act.put,stA,st0,st1]
   refine wpAnyH_takeL (i:=3) (v:=?v3) rfl (by kernel_rfl) (by kernel_rfl) (by kernel_rfl) (fun _ _ _ h=>h) (by rfl) ?h3 (by assumption) ?_
   case h3=>intro w hSw;go_simp <;> with_reducible rfl
   simp only [Act.put,stA,st0,st1]
   refine wpAnyH_takeL (i:=4) (v:=?v4) rfl (by kernel_rfl) (by kernel_rfl) (by kernel_rfl) (fun _ _ _ h=>h) (by rfl) ?h4 (by assumption) ?_
   case h4=>intro w hSw;go_simp <;> with_reducible rfl
   simp only [Act.put,stA,st0,st1]
   refine wpAnyH_takeL (i:=5) (v:=?v5) rfl (by kernel_rfl) (by kernel_rfl) (by kernel_rfl) (fun _ _ _ h=>h) (by rfl) ?h5 (by assumption) ?_
   case h5=>intro w hSw;go_simp <;> with_reducible rfl
   simp only [Act.put,stA,st0,st1]
   refine wpAnyH_takeL (i:=6) (v:=?v6) rfl (by kernel_rfl) (by kernel_rfl) (by kernel_rfl) (fun _ _ _ h=>h) (by rfl) ?h6 (by assumption) ?_
   case h6=>intro w hSw;go_simp <;> with_reducible rfl
   simp only [Act.put,stA,st0,st1]
   refine ar1 7 rfl (fun K hK=>?_)
   go_simp
   refine hK.out _ _ (⟨(((Boxed.row hb7).other _ (by omega)).cell 0),(((Boxed.row hb6).other _ (by omega)).cell 0)⟩) (fun hHeld=>?_)
   clear hK K
   refine wpAnyH_done (by kernel_rfl) ?_ _
   refine Nrm.normal ?_
   obtain ⟨V1,hV1⟩:∃ V1:Nat,(ab * 4294967296 + z) / 2 ^ r % 4294967296 = V1:=⟨_,rfl⟩
   have eV:IntKind.u32.wrap (((ab:Int) * 4294967296 + (z:Int)) / 2 ^ r) = (V1:Int):=by
    rw [wrap32,← hV1];simp
   rw [eV]
   obtain ⟨W1,hW1⟩:∃ W1,(W.setCell ⟨g,i,none⟩ (.int .u32 (V1:Int))).drew = W1:=⟨_,rfl⟩
   rw [hW1]
   have hr1:Row W1 g 95 (C .u32 ((shrSt r (List.replicate m 0) pre).1.set i V1)):=by rw [← hW1,C_set];exact hr.set i _
   have b81:Boxed W1 (w3.heap.size + 1) 30 (.int .u64 ((shrSt r (List.replicate m 0) pre).2:Nat)):=by rw [← hW1];exact (Boxed.row hb8).other _ (by omega)
   have b71:Boxed W1 w3.heap.size 68 (.slice (some ⟨g,0,none⟩) m m):=by rw [← hW1];exact (Boxed.row hb7).other _ (by omega)
   have b61:Boxed W1 w2.heap.size 3 (.int .i64 (r:Int)):=by rw [← hW1];exact (Boxed.row hb6).other _ (by omega)
   have hko:KeepsOthers W W1:=by rw [← hW1];exact (KeepsOthers.setCell _ _ _).trans (KeepsOthers.drew _)
   have hB1:Below w.heap.size w W1:=by rw [← hW1];exact (hB.setCell (p:=⟨g,i,none⟩) (by simp;omega) _).drew
   have hoth:∀ k,k ≠ g → W1.heap[k]? = W.heap[k]?:=fun k hk=>by rw [← hW1];exact Below.heap_setCell W ⟨g,i,none⟩ _ k hk
   have c81:=b81.cell;have f81:=b81.frozen
   have HRow:=Away.mk hr1;have H8:=Away.mk b81;have H7:=Away.mk b71;have H6:=Away.mk b61;have HK:=Away.mk hko;have HB1:=Away.mk hB1;have HO:=Away.mk hoth
   clear hW1 hr1 b81 b71 b61 hko hB1 hoth hor c8 f8 c7 c6 hco hfo eV hHeld hr hb8 hb7 hb6
   gi_wp2
   refine HN'.out _ _ (HK.out.trans (KeepsOthers.setCell _ _ _)) (fun hse=>hse.keep ?_ ?_) ⟨?_,?_,?_,?_⟩ (HB1.out.setCell (p:=⟨w3.heap.size + 1,0,none⟩) (by simp;omega) _)
   ·rw [Below.heap_setCell _ _ _ _ (show w3.heap.size + 1 + 1 ≠ w3.heap.size + 1 by omega)]
    exact HO.out _ (by omega)
   ·intro b off hp e
    have hb:=hown (by rw [C_length];omega) b (by rw [e];rfl)
    rw [Below.heap_setCell _ _ _ _ (show b ≠ w3.heap.size + 1 by omega)]
    exact HO.out _ (by omega)
   ·rw [shrSt_snoc,HX.out.1,HX.out.2,hab,hV1]
    exact HRow.out.other _ (by omega)
   ·rw [shrSt_snoc,HX.out.2]
    exact H8.out.set _
   ·exact (Boxed.row H7.out).other _ (by omega)
   ·exact (Boxed.row H6.out).other _ (by omega)
  case done =>
   rintro D qs W hD hp ⟨hr,hb8,hb7,hb6⟩ hB hK
   obtain ⟨hsl,hslo,hs2⟩:=shrSt_lo r m qs
   have hb7:Boxed W w3.heap.size 68 _:=hb7
   have c7:=hb7.cell
   have hval:=shrSt_all htl htlo hr32 qs hp
   rw [hfin] at hval
   have HT:=Away.mk (trimmed_new w.heap.size g _ W hr (by omega) hslo (by omega))
   rw [hval,hsl] at HT
   have HK:=Away.mk hK
   clear hr hb8 hb7 hb6 hval hp hS hr4 b6 b7 b8 hfin hK
   go_wp2_with fail
   refine HT.out.mono ?_
   rintro _ w6 ⟨v',rfl,hans,hb6⟩
   go_wp2
   have hD':D < W.heap.size:=(Array.getElem?_eq_some_iff.1 HK.out).1
   have hK':w6.heap[D]? = some (.deferred (some [])):=(hb6.block D hD').trans HK.out
   refine ⟨by simp,.inl ⟨_,_,rfl,run_takeDeferred hK',?_⟩⟩
   have hB6:Below w.heap.size w w6:=hB.trans (hb6.mono hB.size)
   refine ⟨_,results_tmp rfl _ _ _,_,rfl,?_,below_shut (w:=w) hB6 (by simp at hD;omega) hK'⟩
   exact hans.turn (grownBy_putObj' _ D (.deferred none)) (fun r e=>by cases e;exact ⟨_,hK',rfl⟩)
  case stop =>
   rintro D k pre W hD hk hp hx
   exact hx.elim
def divSt (b:Nat) (z:List Nat) {n:Nat} {V:Nat → Nat → Prop} (pre:List (Al n V)):List Nat × Nat:=pre.foldl (fun s x=>(s.1.set x.1.1 ((s.2 * 4294967296 + x.1.2) / b),(s.2 * 4294967296 + x.1.2) % b)) (z,0)
theorem divSt_snoc (b:Nat) (z:List Nat) {n:Nat} {V:Nat → Nat → Prop} (pre:List (Al n V)) (x:Al n V):divSt b z (pre ++ [x]) = ((divSt b z pre).1.set x.1.1 (((divSt b z pre).2 * 4294967296 + x.1.2) / b),((divSt b z pre).2 * 4294967296 + x.1.2) % b):=by simp [divSt]
theorem div_fits {l b z:Nat} (h:l < b) (hz:z < 4294967296):(l * 4294967296 + z) / b < 4294967296:=by
 rw [Nat.div_lt_iff_lt_mul (by omega)]
 have:(l + 1) * 4294967296 ≤ b * 4294967296:=Nat.mul_le_mul_right _ h
 rw [Nat.mul_comm 4294967296 b];omega
theorem divSt_lo (b m:Nat) (hb:0 < b) {n:Nat} {V:Nat → Nat → Prop} (pre:List (Al n V)):(divSt b (List.replicate m 0) pre).1.length = m ∧ Lo W32 (divSt b (List.replicate m 0) pre).1 ∧ (divSt b (List.replicate m 0) pre).2 < b:=by
 have h:∀ (l:List (Al n V)) (s:List Nat × Nat),s.1.length = m → Lo W32 s.1 → s.2 < b →
   (l.foldl (fun s x=>(s.1.set x.1.1 ((s.2 * 4294967296 + x.1.2) / b),(s.2 * 4294967296 + x.1.2) % b)) s).1.length = m ∧ Lo W32 (l.foldl (fun s x=>(s.1.set x.1.1 ((s.2 * 4294967296 + x.1.2) / b),(s.2 * 4294967296 + x.1.2) % b)) s).1 ∧ (l.foldl (fun s x=>(s.1.set x.1.1 ((s.2 * 4294967296 + x.1.2) / b),(s.2 * 4294967296 + x.1.2) % b)) s).2 < b:=by
  intro l
  induction l with
  | nil=>intro s h1 h2 h3;exact ⟨h1,h2,h3⟩
  | cons x l ih=>intro s h1 h2 h3;exact ih _ (by simp [h1]) (h2.set _ _ (div_fits h3 x.2.2.1)) (Nat.mod_lt _ hb)
 exact h pre _ (by simp) (Lo.zeros (by decide) _) hb
theorem divSt_all {b n:Nat} {ts:List Nat} (hb:0 < b) (hn:ts.length = n) (hl:Lo W32 ts) (qs:List (Al n fun j z=>z = ts.getD j 0)) (hp:places qs = desc n n):val W32 (divSt b (List.replicate n 0) qs).1 = val W32 ts / b ∧ (divSt b (List.replicate n 0) qs).2 = val W32 ts % b:=by
 have key:∀ (k:Nat) (l:List (Al n fun j z=>z = ts.getD j 0)),k ≤ n → places l = desc n k →
   (divSt b (List.replicate n 0) l).2 = val W32 ts / W32 ^ (n - k) % b ∧ ∀ j,j < n → n - 1 - k < j ∨ k = n → (divSt b (List.replicate n 0) l).1.getD j 0 = val W32 ts / b / W32 ^ j % W32:=by
  intro k
  induction k with
  | zero =>
   intro l _ hl'
   obtain rfl:l = []:=by
    cases l with
    | nil=>rfl
    | cons x l=>simp [places,desc] at hl'
   refine ⟨?_,fun j hj h=>?_⟩
   ·have:=val_lt (B:=W32) (by decide) hl
    rw [hn] at this
    rw [Nat.sub_zero,Nat.div_eq_of_lt this];simp [divSt]
   ·omega
  | succ k ih =>
   intro l hk hl'
   have hne:l ≠ []:=by rintro rfl;simp [places,desc_succ] at hl'
   obtain ⟨l',x,rfl⟩:∃ l' x,l = l' ++ [x]:=⟨l.dropLast,l.getLast hne,(List.dropLast_concat_getLast hne).symm⟩
   obtain ⟨k',hk',hp',hx⟩:=last_place hl'
   obtain rfl:k = k':=by omega
   obtain ⟨ih1,ih2⟩:=ih l' (by omega) hp'
   have hV:=x.2.2.2
   have hlen:=(divSt_lo b n hb l').1
   have hz:x.1.2 = val W32 ts / W32 ^ (n - 1 - k) % W32:=by rw [hV,hx];exact getD_val (by decide) hl _
   have hsplit:val W32 ts / W32 ^ (n - 1 - k) = val W32 ts / W32 ^ (n - k) * W32 + val W32 ts / W32 ^ (n - 1 - k) % W32:=by
    have h1:=Nat.div_add_mod (val W32 ts / W32 ^ (n - 1 - k)) W32
    rw [Nat.div_div_eq_div_mul,← Nat.pow_succ,show (n - 1 - k).succ = n - k by omega,Nat.mul_comm] at h1
    exact h1.symm
   rw [← hz] at hsplit
   rw [divSt_snoc,ih1]
   generalize val W32 ts / W32 ^ (n - k) = H at *
   refine ⟨?_,fun j hj h=>?_⟩
   ·show (H % b * 4294967296 + x.1.2) % b = _
    rw [show n - (k + 1) = n - 1 - k by omega,hsplit,Nat.add_mod,Nat.mul_mod,Nat.mod_mod,← Nat.mul_mod,← Nat.add_mod]
   ·show ((divSt b (List.replicate n 0) l').1.set x.1.1 ((H % b * 4294967296 + x.1.2) / b)).getD j 0 = _
    by_cases hjx:j = x.1.1
    ·have e:∀ z,((divSt b (List.replicate n 0) l').1.set x.1.1 z).getD j 0 = z:=fun z=>by rw [hjx];exact getD_set_same (by rw [hlen];exact x.2.1) z
     rw [e,Nat.div_div_eq_div_mul,Nat.mul_comm b,← Nat.div_div_eq_div_mul,hjx,hx,hsplit]
     have h2:H * W32 + x.1.2 = b * (H / b * W32) + (H % b * 4294967296 + x.1.2):=by
      have h3:=Nat.div_add_mod H b
      generalize H / b = A at *
      generalize H % b = R at *
      rw [← h3,Nat.add_mul,Nat.mul_assoc]
      show _ = b * (A * W32) + (R * W32 + x.1.2)
      omega
     rw [h2,Nat.mul_add_div hb,Nat.mul_add_mod_self_right,Nat.mod_eq_of_lt (div_fits (Nat.mod_lt _ hb) x.2.2.1)]
    ·rw [getD_set_other _ _ (Ne.symm hjx)]
     exact ih2 j hj (by omega)
 have hlen:=(divSt_lo b n hb qs).1
 obtain ⟨k1,k2⟩:=key n qs (Nat.le_refl _) hp
 have h1:=val_of_digits (B:=W32) (xs:=(divSt b (List.replicate n 0) qs).1) (M:=val W32 ts / b) (by decide) (fun i hi=>k2 i (by omega) (.inr rfl))
 refine ⟨?_,by rw [k1,Nat.sub_self,Nat.pow_zero,Nat.div_one]⟩
 rw [h1,hlen]
 apply Nat.mod_eq_of_lt
 have:=val_lt (B:=W32) (by decide) hl
 rw [hn] at this
 exact Nat.lt_of_le_of_lt (Nat.div_le_self _ _) this
def DivI (b g b3 b6 b7 m:Nat) {n:Nat} {V:Nat → Nat → Prop} (pre:List (Al n V)) (W:World):Prop :=
 Row W g 95 (C .u32 (divSt b (List.replicate m 0) pre).1) ∧ Boxed W b7 30 (.int .u64 ((divSt b (List.replicate m 0) pre).2:Nat)) ∧ Boxed W b6 68 (.slice (some ⟨g,0,none⟩) m m) ∧ Boxed W b3 95 (.int .u32 (b:Int))
set_option maxRecDepth 100000 in
set_option maxHeartbeats 2000000 in
theorem divWord_any (va:Value) (ts:List Nat) (b:Nat) (w:World) (ha:SlV w va (C .u32 ts)) (htlo:Lo W32 ts) (hxm:ts.length ≤ 100000) (hb0:0 < b) (hb:b < 4294967296) :
  Calls Tryz.prog 122 #[va,.int .u32 (b:Int)] w fun e w'=>∃ v1 v2,e = .returned (.tuple #[v1,v2]) ∧ Ans w.heap.size w' v1 (val W32 ts / b) ∧ Ans w.heap.size w' v2 (val W32 ts % b) ∧ Below w.heap.size w w':=by
 obtain ⟨i0,hi,hz0,hz1,hz2⟩:=info_parts Tryz.info95
 obtain ⟨m,htl⟩:∃ m,ts.length = m:=⟨_,rfl⟩
 obtain ⟨a,cap,rfl,q1,r1⟩:=ha.shapeC htl
 rw [htl] at hxm
 refine (callsIn_wide (n:=3)).1 ?_
 refine callsIn_of_wp_marks Tryz.func122 rfl trivial ?_ rfl
 refine wpIn_wide.2 ?_
 simp only [Tryz.ntmps122,List.size_toArray,List.length_cons,List.length_nil,Nat.reduceAdd,Nat.reduceSub,Array.replicate_succ,Array.replicate_zero,List.push_toArray,List.append_toArray,List.nil_append,List.cons_append]
 have HA:=Away.mk ha
 clear ha
 go_wp2_with (at_make;refine wpList_make_full _ rfl _ _ 68 rfl w.heap.size 95 i0 _ 1 Tryz.underlying68 hi hz0 hz1 _ _ _ _ m rfl rfl rfl rfl (by rw [hz2];omega) (by unfold maxLen;omega) (by simp) ?_)
 intro w3 hown hg3
 have hr3:=Row.ofOwn (own_made hown)
 rw [← C_zeros] at hr3
 have b3:Boxed w3 w.heap.size 95 (.int .u32 (b:Int)):=(Boxed.new w 95 (.int .u32 (b:Int))).kept hg3 (by simp)
 have hB3:Below w.heap.size w w3:=((Below.refl _ w).alloc (Nat.le_refl _) _).grown hg3 (by simp) (by simp)
 have hg:=hr3.lt
 have HR3:=Away.mk hr3;have HB3:=Away.mk hB3;have H3:=Away.mk b3
 clear hown hg3 hr3 hB3 b3
 go_wp2_with fail
 refine (down_any _ _ _ _).mono ?_
 rintro _ w' ⟨rfl,rfl⟩
 go_wp2
 obtain ⟨w4,hw4⟩:∃ w4,(w3.alloc (.cells #[.slice (some ⟨w.heap.size + 1,0,none⟩) m m] 68)).alloc (.cells #[.int .u64 0] 30) = w4:=⟨_,rfl⟩
 obtain ⟨g,hgg⟩:∃ g,w.heap.size + 1 = g:=⟨_,rfl⟩
 rw [hw4,hgg]
 have hsz4:w4.heap.size = w3.heap.size + 1 + 1:=by rw [← hw4];simp
 have hB34:Below w3.heap.size w3 w4:=by rw [← hw4];exact ((Below.refl _ w3).alloc (Nat.le_refl _) _).alloc (by simp) _
 have b6:Boxed w4 w3.heap.size 68 (.slice (some ⟨g,0,none⟩) m m):=by rw [← hw4,← hgg];exact (Boxed.new w3 _ _).alloc _
 have b7:Boxed w4 (w3.heap.size + 1) 30 (.int .u64 0):=by rw [← hw4];have:=Boxed.new (w3.alloc (.cells #[.slice (some ⟨w.heap.size + 1,0,none⟩) m m] 68)) 30 (.int .u64 0);rwa [World.size_alloc] at this
 have b3:=H3.out.kept (grown_of_below hB34 none) (by simp)
 have hr4:=HR3.out.belowS hB34
 have hB04:Below w.heap.size w w4:=HB3.out.trans (hB34.mono HB3.out.size)
 have hsq4:=HA.out.below hB04
 have hown:=HA.out.own
 have hS:=Seen.of hsq4 htl htlo
 rw [hsz4] at hS
 rw [hgg] at hr4 hg
 have hg1:g < w3.heap.size:=hg
 have hg2:w.heap.size < g:=by omega
 clear hw4 hB34 hsq4 HR3 hg hgg H3
 refine range_down w (w3.heap.size + 1 + 1) m cap a (fun j z=>z = ts.getD j 0) (by unfold maxLen;omega) rfl rfl (hB04.alloc (by omega) _)
  (fun W hW=>hS.below hW (by simp;omega) (fun b off hp e=>by have:=hown (by rw [C_length];omega) b (by rw [e];rfl);simp;omega))
  (fun pre W=>DivI b g w.heap.size w3.heap.size (w3.heap.size + 1) m pre W) (fun _ _=>False)
  (fun s A B row hs hg hr=>⟨Row.turn hs.1 hg hr,Boxed.turn hs.2.1 hg hr,Boxed.turn hs.2.2.1 hg hr,Boxed.turn hs.2.2.2 hg hr⟩)
  (fun _ _ _ _ hs _ _=>hs)
  ⟨hr4.alloc _,b7.alloc _,b6.alloc _,b3.alloc _⟩
  (fun i z=>{ tmps:=#[.slice a m cap,.int .u32 b,undef,.pointer (some ⟨w.heap.size,0,none⟩),.slice none 0 0,.slice none 0 0,.pointer (some ⟨w3.heap.size,0,none⟩),.pointer (some ⟨w3.heap.size + 1,0,none⟩),.int .i64 (i:Int),.int .u32 (z:Int),.slice a m cap,.int .i64 m,?t12,.slice a m cap,.func (.func 159) #[] #[.pointer (some ⟨w3.heap.size + 1 + 1,0,none⟩)],.int .i64 (i:Int),.int .u32 (z:Int),undef,undef,undef,undef,undef,undef,undef,undef,undef,undef,undef,undef,undef,undef,undef,undef,undef,undef,undef,undef,undef],defers:=[] }) ?assign ?body ?done ?stop
 case assign =>
  intro l i z W K hK
  gi_wp2
  exact hK
 case body =>
  rintro l pre x i z W R HX hii hz HV ⟨hr,hb7,hb6,hb3⟩ hB HN' HR'
  have hb7:Boxed W (w3.heap.size + 1) 30 _:=hb7
  have hb6:Boxed W w3.heap.size 68 _:=hb6
  have hb3:Boxed W w.heap.size 95 _:=hb3
  obtain ⟨hsl,hslo,hs2⟩:=divSt_lo b m hb0 pre
  have c7:=hb7.cell;have f7:=hb7.frozen
  clear b6 b7 b3 hr4 hS
  obtain ⟨ab,hab⟩:∃ ab,(divSt b (List.replicate m 0) pre).2 = ab:=⟨_,rfl⟩
  rw [hab] at c7 hs2
  have hab32:ab < 4294967296:=by omega
  have hor:=or64 ab z hab32 hz
  have hfit:=div_fits hs2 hz
  have hs64:ab * 4294967296 + z < 18446744073709551616:=by omega
  obtain ⟨T,hT⟩:∃ T,ab * 4294967296 + z = T:=⟨_,rfl⟩
  rw [hT] at hor hfit hs64
  gi_wp2
  obtain ⟨W1,hW1⟩:∃ W1,W.setCell ⟨w3.heap.size + 1,0,none⟩ (.int .u64 (T:Int)) = W1:=⟨_,rfl⟩
  rw [hW1]
  have hr1:Row W1 g 95 (C .u32 (divSt b (List.replicate m 0) pre).1):=by rw [← hW1];exact hr.other _ (by omega)
  have b71:Boxed W1 (w3.heap.size + 1) 30 (.int .u64 (T:Int)):=by rw [← hW1];exact hb7.set _
  have b61:Boxed W1 w3.heap.size 68 (.slice (some ⟨g,0,none⟩) m m):=by rw [← hW1];exact (Boxed.row hb6).other _ (by omega)
  have b31:Boxed W1 w.heap.size 95 (.int .u32 (b:Int)):=by rw [← hW1];exact (Boxed.row hb3).other _ (by omega)
  have hko:KeepsOthers W W1:=by rw [← hW1];exact KeepsOthers.setCell _ _ _
  have hB1:Below w.heap.size w W1:=by rw [← hW1];exact hB.setCell (p:=⟨w3.heap.size + 1,0,none⟩) (by simp;omega) _
  have hoth:∀ k,k ≠ w3.heap.size + 1 → W1.heap[k]? = W.heap[k]?:=fun k hk=>by rw [← hW1];exact Below.heap_setCell W ⟨w3.heap.size + 1,0,none⟩ _ k hk
  have c71:=b71.cell;have c61:=b61.cell;have c31:=b31.cell
  have hco:=(hr1.cell i).trans (C_get _ (by omega))
  have hfo:=hr1.frozen i
  have ewb:IntKind.u64.wrap (b:Int) = (b:Int):=by rw [wrapU];omega
  have hbz:(b:Int) ≠ 0:=by omega
  clear hr hb7 hb6 hb3 c7 f7 hor hW1
  refine region_round (S:=fun w'=>w'.cell? ⟨w3.heap.size,0,none⟩ = some (.slice (some ⟨g,0,none⟩) m m) ∧ w'.cell? ⟨w3.heap.size + 1,0,none⟩ = some (.int .u64 (T:Int)) ∧ w'.cell? ⟨w.heap.size,0,none⟩ = some (.int .u32 (b:Int))) (by kernel_rfl) (by kernel_rfl) (⟨c61,c71,c31⟩) (fun hHeld=>?_)
  refine wpAnyH_takeL (i:=0) (v:=?v0) rfl (by kernel_rfl) (by kernel_rfl) (by kernel_rfl) (fun _ _ _ h=>h) (by rfl) ?h0 (by assumption) ?_
  case h0=>intro w hSw;go_simp <;> with_reducible rfl
  simp only [Act.put,stA,st0,st1]
  refine wpAnyH_takeL (i:=1) (v:=?v1) rfl (by kernel_rfl) (by kernel_rfl) (by kernel_rfl) (fun _ _ _ h=>h) (by rfl) ?h1 (by assumption) ?_
  case h1=>intro w hSw;go_simp <;> with_reducible rfl
  simp only [Act.put,stA,st0,st1]
  refine wpAnyH_takeL (i:=2) (v:=?v2) rfl (by kernel_rfl) (by kernel_rfl) (by kernel_rfl) (fun _ _ _ h=>h) (by rfl) ?h2 (by assumption) ?_
  case h2=>intro w hSw;go_simp <;> with_reducible rfl
  simp only [Act.put,stA,st0,st1]
  refine wpAnyH_takeL (i:=3) (v:=?v3) rfl (by kernel_rfl) (by kernel_rfl) (by kernel_rfl) (fun _ _ _ h=>h) (by rfl) ?h3 (by assumption) ?_
  case h3=>intro w hSw;go_simp <;> with_reducible rfl
  simp only [Act.put,stA,st0,st1]
  refine wpAnyH_takeL (i:=4) (v:=?v4) rfl (by kernel_rfl) (by kernel_rfl) (by kernel_rfl) (fun _ _ _ h=>h) (by rfl) ?h4 (by assumption) ?_
  case h4=>intro w hSw;go_simp <;> with_reducible rfl
  simp only [Act.put,stA,st0,st1]
  refine wpAnyH_takeL (i:=5) (v:=?v5) rfl (by kernel_rfl) (by kernel_rfl) (by kernel_rfl) (fun _ _ _ h=>h) (by rfl) ?h5 (by assumption) ?_
  case h5=>intro w hSw;go_simp;rw [if_neg (Nat.ne_of_gt hb0)]
  simp only [Act.put,stA,st0,st1]
  refine wpAnyH_takeL (i:=6) (v:=?v6) rfl (by kernel_rfl) (by kernel_rfl) (by kernel_rfl) (fun _ _ _ h=>h) (by rfl) ?h6 (by assumption) ?_
  case h6=>intro w hSw;go_simp <;> with_reducible rfl
  simp only [Act.put,stA,st0,st1]
  refine wpAnyH_takeL (i:=7) (v:=?v7) rfl (by kernel_rfl) (by kernel_rfl) (by kernel_rfl) (fun _ _ _ h=>h) (by rfl) ?h7 (by assumption) ?_
  case h7=>intro w hSw;go_simp <;> with_reducible rfl
  simp only [Act.put,stA,st0,st1]
  refine ar1 8 rfl (fun K hK=>?_)
  go_simp
  refine hK.out _ _ (⟨(((Boxed.row b61).other _ (by omega)).cell 0),(((Boxed.row b71).other _ (by omega)).cell 0),(((Boxed.row b31).other _ (by omega)).cell 0)⟩) (fun hHeld=>?_)
  clear hK K
  refine wpAnyH_done (by kernel_rfl) ?_ _
  refine Nrm.normal ?_
  obtain ⟨Q1,hQ1⟩:∃ Q1:Nat,T / b = Q1:=⟨_,rfl⟩
  rw [hQ1] at hfit
  have eQ:(T:Int) / (b:Int) = (Q1:Int):=by rw [← hQ1];simp
  have eV:IntKind.u32.wrap (IntKind.u64.wrap ((T:Int) / (b:Int))) = (Q1:Int):=by
   rw [eQ,wrapU,wrap32];omega
  rw [eV]
  obtain ⟨W2,hW2⟩:∃ W2,(W1.setCell ⟨g,i,none⟩ (.int .u32 (Q1:Int))).drew = W2:=⟨_,rfl⟩
  rw [hW2]
  have hr2:Row W2 g 95 (C .u32 ((divSt b (List.replicate m 0) pre).1.set i Q1)):=by rw [← hW2,C_set];exact hr1.set i _
  have b72:Boxed W2 (w3.heap.size + 1) 30 (.int .u64 (T:Int)):=by rw [← hW2];exact (Boxed.row b71).other _ (by omega)
  have b62:Boxed W2 w3.heap.size 68 (.slice (some ⟨g,0,none⟩) m m):=by rw [← hW2];exact (Boxed.row b61).other _ (by omega)
  have b32:Boxed W2 w.heap.size 95 (.int .u32 (b:Int)):=by rw [← hW2];exact (Boxed.row b31).other _ (by omega)
  have hko2:KeepsOthers W W2:=by rw [← hW2];exact (hko.trans (KeepsOthers.setCell _ _ _)).trans (KeepsOthers.drew _)
  have hB2:Below w.heap.size w W2:=by rw [← hW2];exact (hB1.setCell (p:=⟨g,i,none⟩) (by simp;omega) _).drew
  have hoth2:∀ k,k ≠ w3.heap.size + 1 → k ≠ g → W2.heap[k]? = W.heap[k]?:=fun k hk hk2=>by rw [← hW2];exact (Below.heap_setCell W1 ⟨g,i,none⟩ _ k hk2).trans (hoth k hk)
  have c72:=b72.cell;have f72:=b72.frozen;have c32:=b32.cell
  have HRow:=Away.mk hr2;have H7:=Away.mk b72;have H6:=Away.mk b62;have H3:=Away.mk b32;have HK:=Away.mk hko2;have HB2:=Away.mk hB2;have HO:=Away.mk hoth2;have HQ:=Away.mk hQ1;have HAB:=Away.mk hab;have HTT:=Away.mk hT
  clear hW2 hr2 b72 b62 b32 hko2 hB2 hoth2 hr1 b71 b61 b31 hko hB1 hoth c71 c61 c31 hco hfo eV eQ hHeld hQ1 hab hT
  gi_wp2
  refine HN'.out _ _ (HK.out.trans (KeepsOthers.setCell _ _ _)) (fun hse=>hse.keep ?_ ?_) ⟨?_,?_,?_,?_⟩ (HB2.out.setCell (p:=⟨w3.heap.size + 1,0,none⟩) (by simp;omega) _)
  ·rw [Below.heap_setCell _ _ _ _ (show w3.heap.size + 1 + 1 ≠ w3.heap.size + 1 by omega)]
   exact HO.out _ (by omega) (by omega)
  ·intro b' off hp e
   have hb':=hown (by rw [C_length];omega) b' (by rw [e];rfl)
   rw [Below.heap_setCell _ _ _ _ (show b' ≠ w3.heap.size + 1 by omega)]
   exact HO.out _ (by omega) (by omega)
  ·rw [divSt_snoc,HX.out.1,HX.out.2,HAB.out,HTT.out,HQ.out]
   exact HRow.out.other _ (by omega)
  ·rw [divSt_snoc,HX.out.2,HAB.out,HTT.out]
   exact H7.out.set _
  ·exact (Boxed.row H6.out).other _ (by omega)
  ·exact (Boxed.row H3.out).other _ (by omega)
 case done =>
  rintro D qs W hD hp ⟨hr,hb7,hb6,hb3⟩ hB hK
  obtain ⟨hsl,hslo,hs2⟩:=divSt_lo b m hb0 qs
  have hb6:Boxed W w3.heap.size 68 _:=hb6
  have hb7:Boxed W (w3.heap.size + 1) 30 _:=hb7
  obtain ⟨hval,hrest⟩:=divSt_all hb0 htl htlo qs hp
  rw [hrest] at hb7 hs2
  obtain ⟨rem,hrem⟩:∃ rem,val W32 ts % b = rem:=⟨_,rfl⟩
  rw [hrem] at hb7 hs2
  have c6:=hb6.cell
  have c7:=hb7.cell
  have HT:=Away.mk (fun W' (h:Below W.heap.size W W')=>trimmed_new w.heap.size g _ W' (hr.belowS h) (by omega) hslo (by omega))
  rw [hval,hsl] at HT
  have HK:=Away.mk hK;have HREM:=Away.mk hrem;have HBW:=Away.mk hB
  have hB6:∀ W',Below W.heap.size W W' → W'.cell? ⟨w3.heap.size,0,none⟩ = some (.slice (some ⟨g,0,none⟩) m m) ∧ W'.cell? ⟨w3.heap.size + 1,0,none⟩ = some (.int .u64 (rem:Int)):=fun W' h=>⟨(h.cell (p:=⟨w3.heap.size,0,none⟩) hb6.lt).trans c6,(h.cell (p:=⟨w3.heap.size + 1,0,none⟩) hb7.lt).trans c7⟩
  have HB6:=Away.mk hB6
  clear hr hb7 hb6 hb3 hval hp hS hr4 b6 b7 b3 hK hB6 hrest hrem
  go_wp2
  refine wp_region_noPanic ?_
  refine wp_region_held_drew (S:=fun w'=>w'.cell? ⟨w3.heap.size,0,none⟩ = some (.slice (some ⟨g,0,none⟩) m m) ∧ w'.cell? ⟨w3.heap.size + 1,0,none⟩ = some (.int .u64 (rem:Int))) (by kernel_rfl) (⟨c6,c7⟩) (fun hHeld=>?_)
  refine tkg 0 rfl ?_
  simp only [Act.put,stA,st0,st1]
  refine tkg 2 rfl ?_
  simp only [Act.put,stA,st0,st1]
  refine ar1 1 rfl (fun K hK=>?_)
  go_simp
  refine (HT.out _ (Below.refl _ W).drew).mono ?_
  rintro _ w5 ⟨v1,rfl,hans1,hb5⟩
  have hb5:Below W.heap.size W w5:=⟨hb5.os,hb5.tape,hb5.output,hb5.size,hb5.block⟩
  refine hK.out _ _ (HB6.out _ hb5) (fun hHeld=>?_)
  clear hK K
  refine ar1 3 rfl (fun K hK=>?_)
  go_simp
  refine (from_any rem (by omega) _).mono ?_
  rintro _ w6 ⟨v2,rfl,hans2,hb6⟩
  have hb6':Below W.heap.size W w6:=hb5.trans (hb6.mono hb5.size)
  refine hK.out _ _ (HB6.out _ hb6') (fun hHeld=>?_)
  clear hK K
  refine tkg 4 rfl ?_
  simp only [Act.put,stA,st0,st1]
  refine tkg 5 rfl ?_
  simp only [Act.put,stA,st0,st1]
  refine wpAnyH_done (by kernel_rfl) ?_ _
  refine NoPanic.normal ?_
  have hans1:=hans1.below (B':=0) hb6
  have hans2:=hans2.base (Nat.le_trans HBW.out.size hb5.size)
  have hD':D < W.heap.size:=(Array.getElem?_eq_some_iff.1 HK.out).1
  have hK':w6.heap[D]? = some (.deferred (some [])):=(hb6'.block D hD').trans HK.out
  have hB6:Below w.heap.size w w6:=HBW.out.trans (hb6'.mono HBW.out.size)
  go_wp2
  refine ⟨by simp,.inl ⟨_,_,rfl,run_takeDeferred hK',?_⟩⟩
  have hturn:∀ r,some D = some r → ∃ o:Obj,w6.heap[r]? = some o ∧ o.isCells = false:=fun r e=>by cases e;exact ⟨_,hK',rfl⟩
  refine ⟨.tuple #[v1,v2],?_,v1,v2,rfl,hans1.turn (grownBy_putObj' _ D (.deferred none)) hturn,?_,below_shut (w:=w) hB6 (by simp at hD;omega) hK'⟩
  ·simp [results,Tryz.f122,go_sem]
  ·have:=hans2.turn (grownBy_putObj' _ D (.deferred none)) hturn
   rwa [HREM.out]
 case stop =>
  rintro D k pre W hD hk hp hx
  exact hx.elim
end Go.Proofs.YtmjimilhomabfaaGreatDoor
namespace Go.Proofs.YtmjimilhomabfaaGreatDoor
set_option linter.unusedVariables false
set_option maxRecDepth 10000
section
variable {B:Nat}
theorem guess_math {P L L3 t D B2 s Q:Nat} (hP:0 < P) (hL:L = L3 * P + t) (ht:t < P) (hD:D = B2 * P + s) (hs:s < P) (hQ:Q < B) (hDge:B * P ≤ D) (h:Q * B2 ≤ L3) (hmax:∀ u,u < B → u * B2 ≤ L3 → u ≤ Q) (hc:L < D * B) :
  Q = L / D ∨ Q = L / D + 1:=by
 have hD0:0 < D:=by
  have:0 < B * P:=Nat.mul_pos (by omega) hP
  omega
 have h1:L / D < B:=by rw [Nat.div_lt_iff_lt_mul hD0,Nat.mul_comm];exact hc
 have h2:L / D * B2 ≤ L3:=by
  have h3:L / D * D ≤ L:=Nat.div_mul_le_self _ _
  have h4:L / D * B2 * P ≤ L / D * D:=by rw [Nat.mul_assoc];exact Nat.mul_le_mul_left _ (by omega)
  have h5:L / D * B2 * P < (L3 + 1) * P:=by rw [Nat.add_mul];omega
  have:=Nat.lt_of_mul_lt_mul_right h5
  omega
 have h6:=hmax _ h1 h2
 have h7:Q * D < L + D:=by
  have h8:Q * s < B * P:=Nat.mul_lt_mul'' hQ hs
  have h9:Q * B2 * P ≤ L3 * P:=Nat.mul_le_mul_right _ h
  rw [hD,Nat.mul_add,← Nat.mul_assoc]
  omega
 have h10:Q ≤ L / D + 1:=by
  rcases Nat.eq_zero_or_pos Q with h | h
  ·rw [h];exact Nat.zero_le _
  ·have:(Q - 1) * D ≤ L:=by rw [Nat.sub_mul];omega
   have:=(Nat.le_div_iff_mul_le hD0).2 this
   omega
 omega
theorem guess_start {F S top l2 t:Nat} (hF:0 < F) (hl2:l2 < B) (h:t * (F * B + S) ≤ top * B + l2):t ≤ top / F:=by
 rw [Nat.le_div_iff_mul_le hF]
 have h1:t * F * B ≤ t * (F * B + S):=by rw [Nat.mul_add,Nat.mul_assoc];exact Nat.le_add_right _ _
 have h2:t * F * B < (top + 1) * B:=by rw [Nat.add_mul];omega
 have:=Nat.lt_of_mul_lt_mul_right h2
 omega
theorem guess_less {F S top l2 Q R t:Nat} (hQR:Q * F + R = top) (hmax:∀ u,u < B → u * (F * B + S) ≤ top * B + l2 → u ≤ Q) (h:B ≤ Q ∨ R * B + l2 < Q * S) (ht:t < B) (h2:t * (F * B + S) ≤ top * B + l2):t ≤ Q - 1:=by
 have h3:=hmax t ht h2
 rcases h with h | h
 ·omega
 ·have hne:t ≠ Q:=by
   rintro rfl
   have h4:t * (F * B + S) = t * F * B + t * S:=by rw [Nat.mul_add,Nat.mul_assoc]
   have h5:top * B = t * F * B + R * B:=by rw [← hQR,Nat.add_mul]
   omega
  omega
theorem guess_end1 {F S top l2 Q R:Nat} (hQR:Q * F + R = top) (hR:B ≤ R) (hQ:Q < B) (hS:S < B):Q * (F * B + S) ≤ top * B + l2:=by
 have h1:Q * S ≤ B * B:=Nat.mul_le_mul (by omega) (by omega)
 have h2:B * B ≤ R * B:=Nat.mul_le_mul_right _ hR
 have h4:Q * (F * B + S) = Q * F * B + Q * S:=by rw [Nat.mul_add,Nat.mul_assoc]
 have h5:top * B = Q * F * B + R * B:=by rw [← hQR,Nat.add_mul]
 omega
theorem guess_end2 {F S top l2 Q R:Nat} (hQR:Q * F + R = top) (h:Q * S ≤ R * B + l2):Q * (F * B + S) ≤ top * B + l2:=by
 have h4:Q * (F * B + S) = Q * F * B + Q * S:=by rw [Nat.mul_add,Nat.mul_assoc]
 have h5:top * B = Q * F * B + R * B:=by rw [← hQR,Nat.add_mul]
 omega
theorem top_two {xs:List Nat} {n:Nat} (hB:0 < B) (hn:xs.length = n) (h2:2 ≤ n) (hl:Lo B xs):∃ s,s < B ^ (n - 2) ∧ val B xs = (xs.getD (n - 1) 0 * B + xs.getD (n - 2) 0) * B ^ (n - 2) + s:=by
 refine ⟨val B (xs.take (n - 2)),val_take_lt hB hl _,?_⟩
 have h1:=val_split (B:=B) xs (n - 2)
 have h3:=val_split (B:=B) (xs.drop (n - 2 + 1)) 0
 rw [List.take_zero,getD_drop,List.drop_drop,List.drop_eq_nil_of_le (show xs.length ≤ n - 2 + 1 + (0 + 1) by omega)] at h3
 simp only [val,Nat.pow_zero,Nat.one_mul,Nat.mul_zero,Nat.add_zero,Nat.zero_add] at h3
 rw [show n - 2 + 1 = n - 1 by omega] at h1 h3
 rw [h1,h3]
 generalize val B (xs.take (n - 2)) = s
 generalize B ^ (n - 2) = P
 generalize xs.getD (n - 1) 0 = y
 generalize xs.getD (n - 2) 0 = z
 grind
theorem top_three {xs:List Nat} {n:Nat} (hB:0 < B) (hn:xs.length = n + 1) (h2:2 ≤ n) (hl:Lo B xs):∃ s,s < B ^ (n - 2) ∧ val B xs = ((xs.getD n 0 * B + xs.getD (n - 1) 0) * B + xs.getD (n - 2) 0) * B ^ (n - 2) + s:=by
 refine ⟨val B (xs.take (n - 2)),val_take_lt hB hl _,?_⟩
 have h1:=val_split (B:=B) xs (n - 2)
 have h3:=val_split (B:=B) (xs.drop (n - 2 + 1)) 0
 rw [List.take_zero,getD_drop,List.drop_drop] at h3
 have h4:=val_split (B:=B) (xs.drop (n - 2 + 1 + (0 + 1))) 0
 rw [List.take_zero,getD_drop,List.drop_drop,List.drop_eq_nil_of_le (show xs.length ≤ n - 2 + 1 + (0 + 1) + (0 + 1) by omega)] at h4
 simp only [val,Nat.pow_zero,Nat.one_mul,Nat.mul_zero,Nat.add_zero,Nat.zero_add] at h3 h4
 rw [show n - 2 + 1 = n - 1 by omega] at h1 h3
 rw [show n - 2 + 1 + 1 = n by omega] at h4
 rw [show n - 1 + 1 = n by omega] at h3
 rw [h1,h3,h4]
 generalize val B (xs.take (n - 2)) = s
 generalize B ^ (n - 2) = P
 generalize xs.getD n 0 = x
 generalize xs.getD (n - 1) 0 = y
 generalize xs.getD (n - 2) 0 = z
 grind
theorem guess_ge {F S P s:Nat} (hF:0 < F):B * P ≤ (F * B + S) * P + s:=by
 have h1:1 * B ≤ F * B:=Nat.mul_le_mul_right _ hF
 have h2:B * P ≤ (F * B + S) * P:=Nat.mul_le_mul_right _ (by omega)
 omega
theorem guess_top {F S sb sl P t3 top z:Nat} (ht:t3 = top * B + z) (hS:S < B) (hsb:sb < P) (hc:t3 * P + sl < ((F * B + S) * P + sb) * B):top < (F + 1) * B:=by
 have h1:(F * B + S) * P + sb < (F * B + S + 1) * P:=by rw [Nat.add_mul _ 1];omega
 have h2:(F * B + S + 1) * P ≤ ((F + 1) * B) * P:=Nat.mul_le_mul_right _ (by rw [Nat.add_mul];omega)
 have hB:0 < B:=by omega
 have h3:((F * B + S) * P + sb) * B < ((F + 1) * B) * P * B:=Nat.mul_lt_mul_of_pos_right (by omega) hB
 have h4:top * B * P ≤ t3 * P:=Nat.mul_le_mul_right _ (by omega)
 have h5:top * (B * P) < ((F + 1) * B) * (B * P):=by
  rw [← Nat.mul_assoc,Nat.mul_assoc ((F + 1) * B),Nat.mul_comm P B] at *
  omega
 exact Nat.lt_of_mul_lt_mul_right h5
theorem put_back {P V V1 V2 D q c c2:Nat} (hq:q = V / D + 1) (hD:0 < D) (h1:V1 + q * D = V + P * c) (hV1:V1 < P) (h2:V2 + P * c2 = V1 + D) (hV2:V2 < P) (hV:V < P):0 < c ∧ V2 = V % D:=by
 have h3:=Nat.div_add_mod V D
 have h4:V % D < D:=Nat.mod_lt _ hD
 have h5:q * D = D * (V / D) + D:=by rw [hq,Nat.add_mul,Nat.one_mul,Nat.mul_comm]
 have hc:0 < c:=by
  rcases Nat.eq_zero_or_pos c with h | h
  ·subst h;omega
  ·exact h
 refine ⟨hc,?_⟩
 have h6:V2 + P * c2 = V % D + P * c:=by omega
 have h7:=congrArg (· % P) h6
 simp only [Nat.add_mul_mod_self_left] at h7
 rw [Nat.mod_eq_of_lt hV2,Nat.mod_eq_of_lt (by omega)] at h7
 exact h7
theorem took_all {P V V1 D q c:Nat} (hq:q = V / D) (hD:0 < D) (h1:V1 + q * D = V + P * c) (hV1:V1 < P):c = 0 ∧ V1 = V % D:=by
 have h3:=Nat.div_add_mod V D
 have h5:q * D = D * (V / D):=by rw [hq,Nat.mul_comm]
 have h6:=no_borrow h1 hV1 (by omega)
 exact ⟨h6.1,by omega⟩
end
open Go.RowKit
theorem less_left {R F M:Nat} (h1:R < 4294967296) (h2:0 < F) (h3:8589934592 ≤ M):M - (intOf (.int .u64 ((R:Int) + (F:Int)))).toNat < M - (intOf (.int .u64 (R:Int))).toNat:=by
 simp only [intOf];omega
set_option maxHeartbeats 2000000 in
theorem guess_any (vl vb:Value) (ls bs:List Nat) (n:Nat) (w:World) (hl:SlV w vl (C .u32 ls)) (hb:SlV w vb (C .u32 bs)) (hln:ls.length = n + 1) (hbn:bs.length = n) (hn2:2 ≤ n) (hnm:n ≤ 100000) (hllo:Lo W32 ls) (hblo:Lo W32 bs) (hF:bs.getD (n - 1) 0 ≠ 0) :
  Calls Tryz.prog 160 #[vl,vb] w fun e w'=>∃ q:Nat,e = .returned (.int .u32 (q:Int)) ∧ q < 4294967296 ∧ (val W32 ls < val W32 bs * W32 → q = val W32 ls / val W32 bs ∨ q = val W32 ls / val W32 bs + 1) ∧ w'.heap = w.heap ∧ Below w.heap.size w w':=by
 obtain ⟨al,cl,rfl,q1,r1⟩:=hl.shapeC hln
 obtain ⟨ab,cb,rfl,q2,r2⟩:=hb.shapeC hbn
 obtain ⟨gl,ol,rfl,_,hcl⟩:=hl.cells (by rw [C_length];omega)
 obtain ⟨gb,ob,rfl,_,hcb⟩:=hb.cells (by rw [C_length];omega)
 have k1:=hcb (n - 1) _ (C_get _ (by omega))
 have k2:=hcb (n - 2) _ (C_get _ (by omega))
 have k3:=hcl n _ (C_get _ (by omega))
 have k4:=hcl (n - 1) _ (C_get _ (by omega))
 have k5:=hcl (n - 2) _ (C_get _ (by omega))
 have u1:bs.getD (n - 1) 0 < 4294967296:=hblo.getD (by decide) _
 have u2:bs.getD (n - 2) 0 < 4294967296:=hblo.getD (by decide) _
 have u3:ls.getD n 0 < 4294967296:=hllo.getD (by decide) _
 have u4:ls.getD (n - 1) 0 < 4294967296:=hllo.getD (by decide) _
 have u5:ls.getD (n - 2) 0 < 4294967296:=hllo.getD (by decide) _
 obtain ⟨sb,hsb,htb⟩:=top_two (B:=W32) (by decide) hbn hn2 hblo
 obtain ⟨sl,hsl,htl⟩:=top_three (B:=W32) (by decide) hln hn2 hllo
 have HB:=Away.mk htb;have HL:=Away.mk htl;have HSB:=Away.mk hsb;have HSL:=Away.mk hsl
 clear hcl hcb hl hb htb htl hsb hsl
 generalize bs.getD (n - 1) 0 = F at *
 generalize bs.getD (n - 2) 0 = S at *
 generalize ls.getD n 0 = x at *
 generalize ls.getD (n - 1) 0 = y at *
 generalize ls.getD (n - 2) 0 = z at *
 have e1:(n:Int) - 1 = ((n - 1:Nat):Int):=by omega
 have e2:(n:Int) - 2 = ((n - 2:Nat):Int):=by omega
 obtain ⟨n1,hn1⟩:∃ n1,n - 1 = n1:=⟨_,rfl⟩
 obtain ⟨n2,hn2'⟩:∃ n2,n - 2 = n2:=⟨_,rfl⟩
 have b1:n1 < n:=by omega
 have b2:n2 < n:=by omega
 rw [hn1] at e1 k1 k4
 rw [hn2'] at e2 k2 k5 HB HL HSB HSL
 have HN2:=Away.mk hn2'
 clear hn1 hn2'
 have hor:=or64 x y u3 u4
 have htop:x * 4294967296 + y < 18446744073709551616:=by omega
 obtain ⟨top,ht⟩:∃ top,x * 4294967296 + y = top:=⟨_,rfl⟩
 have HT:=Away.mk ht
 rw [ht] at hor htop
 clear ht
 go_enter Tryz.func160,Tryz.ntmps160
 have hF0:(F:Int) ≠ 0:=by omega
 have hFz:F ≠ 0:=by omega
 go_wp2
 go_region
 go_wp2
 go_region
 go_wp2
 go_region
 go_wp2
 have eq0:IntKind.u64.wrap ((top:Int) / (F:Int)) = ((top / F:Nat):Int):=by
  have:top / F ≤ top:=Nat.div_le_self _ _
  rw [wrapU,← Int.natCast_ediv]
  clear hor
  generalize top / F = d at *
  omega
 have er0:(top:Int) % (F:Int) = ((top % F:Nat):Int):=by simp
 rw [eq0,er0]
 clear eq0 er0
 have hFp:0 < F:=by omega
 obtain ⟨M,hM⟩:∃ M:Nat,8589934592 ≤ M:=⟨_,Nat.le_refl _⟩
 go_loop [9,10] (fun qv rv=>∃ Q R:Nat,qv = .int .u64 (Q:Int) ∧ rv = .int .u64 (R:Int) ∧ Q * F + R = top ∧ R < 4294967296 + F ∧ (∀ u,u < 4294967296 → u * (F * 4294967296 + S) ≤ top * 4294967296 + z → u ≤ Q)) (fun _ rv=>M - (intOf rv).toNat)
 case atStart =>
  refine ⟨top / F,top % F,rfl,rfl,?_,?_,fun u hu h=>guess_start hFp u5 h⟩
  ·rw [Nat.mul_comm];exact Nat.div_add_mod _ _
  ·have:=Nat.mod_lt top hFp;omega
 case round =>
  obtain ⟨Q,R,rfl,rfl,hQR,hR,hmax⟩:=hrel
  have hQtop:Q ≤ top:=by
   have:Q * 1 ≤ Q * F:=Nat.mul_le_mul_left _ hFp
   omega
  have HQR:=Away.mk hQR;have HMX:=Away.mk hmax
  clear hQR hmax hor
  by_cases hRb:R < 4294967296
  ·have dR:decide ((R:Int) < 4294967296) = true:=decide_eq_true (by omega)
   by_cases hQb:4294967296 ≤ Q
   ·have dQ:decide ((4294967296:Int) ≤ (Q:Int)) = true:=decide_eq_true (by omega)
    go_wp2
    go_round
    case rel =>
     have h1:=HQR.out
     refine ⟨Q - 1,R + F,by rw [show ((Q - 1:Nat):Int) = (Q:Int) - 1 by omega],by rw [Int.natCast_add],?_,by omega,fun u hu h=>guess_less h1 HMX.out (.inl hQb) hu h⟩
     rw [Nat.sub_mul,Nat.one_mul]
     have:1 * F ≤ Q * F:=Nat.mul_le_mul_right _ (by omega)
     omega
    case measure=>exact less_left hRb hFp hM
   ·have dQ:decide ((4294967296:Int) ≤ (Q:Int)) = false:=decide_eq_false (by omega)
    have hpb:=mul_bound (show Q < 4294967296 by omega) u2
    have hpe:(Q:Int) * (S:Int) = ((Q * S:Nat):Int):=by simp
    have hor:=or64 R z hRb u5
    obtain ⟨p,hp⟩:∃ p,Q * S = p:=⟨_,rfl⟩
    obtain ⟨v,hv⟩:∃ v,R * 4294967296 + z = v:=⟨_,rfl⟩
    rw [hp] at hpb hpe
    rw [hv] at hor
    have hvb:v < 18446744073709551616:=by omega
    have HP:=Away.mk hp;have HVV:=Away.mk hv
    clear hp hv
    by_cases hlt:v < p
    ·have dP:decide (v < p) = true:=decide_eq_true hlt
     have hQ1:1 ≤ Q:=by
      rcases Nat.eq_zero_or_pos Q with h | h
      ·have:=HP.out;rw [h,Nat.zero_mul] at this;omega
      ·exact h
     go_wp2
     go_round
     case rel =>
      have h1:=HQR.out
      refine ⟨Q - 1,R + F,by rw [show ((Q - 1:Nat):Int) = (Q:Int) - 1 by omega],by rw [Int.natCast_add],?_,by omega,fun u hu h=>guess_less h1 HMX.out (.inr (by rw [HP.out,HVV.out];exact hlt)) hu h⟩
      rw [Nat.sub_mul,Nat.one_mul]
      have:1 * F ≤ Q * F:=Nat.mul_le_mul_right _ hQ1
      omega
     case measure=>exact less_left hRb hFp hM
    ·have dP:decide (v < p) = false:=decide_eq_false hlt
     have hfin:Q * (F * 4294967296 + S) ≤ top * 4294967296 + z:=guess_end2 HQR.out (by rw [HP.out,HVV.out];omega)
     have HFI:=Away.mk hfin
     clear hfin
     go_wp2
     go_ret
     refine ⟨Q,ret_int (by omega),by omega,fun hc=>?_,rfl,⟨rfl,rfl,rfl,Nat.le_refl _,fun _ _=>rfl⟩⟩
     refine guess_math (B:=W32) (Nat.pow_pos (by decide)) HL.out HSL.out HB.out HSB.out (by show Q < 4294967296;omega) ?_ (by rw [HT.out];exact HFI.out) (by rw [HT.out];exact HMX.out) hc
     rw [HB.out]
     exact guess_ge hFp
  ·have dR:decide ((R:Int) < 4294967296) = false:=decide_eq_false (by omega)
   go_wp2
   go_ret
   by_cases hQb:Q < 4294967296
   ·refine ⟨Q,ret_int (by omega),hQb,fun hc=>?_,rfl,⟨rfl,rfl,rfl,Nat.le_refl _,fun _ _=>rfl⟩⟩
    refine guess_math (B:=W32) (Nat.pow_pos (by decide)) HL.out HSL.out HB.out HSB.out hQb ?_ ?_ (by rw [HT.out];exact HMX.out) hc
    ·rw [HB.out];exact guess_ge hFp
    ·rw [HT.out];exact guess_end1 HQR.out (by show 4294967296 ≤ R;omega) hQb u2
   ·refine ⟨Q % 4294967296,ret_int (by simp),Nat.mod_lt _ (by decide),fun hc=>?_,rfl,⟨rfl,rfl,rfl,Nat.le_refl _,fun _ _=>rfl⟩⟩
    exfalso
    rw [HL.out,HB.out] at hc
    have h1:=guess_top (B:=W32) (F:=F) (S:=S) (sb:=sb) (sl:=sl) (P:=W32 ^ n2) (t3:=(x * W32 + y) * W32 + z) (top:=x * W32 + y) (z:=z) rfl u2 HSB.out hc
    have h2:=HQR.out
    have h3:x * W32 + y = top:=HT.out
    rw [h3] at h1
    have h4:4294967296 * F ≤ Q * F:=Nat.mul_le_mul_right _ (by omega)
    have h5:(F + 1) * W32 = 4294967296 * F + 4294967296:=by rw [Nat.add_mul,Nat.mul_comm F];rfl
    omega
set_option maxHeartbeats 1000000 in
theorem takeMost_any (g off cap n:Nat) (vb:Value) (pre ls post bs:List Nat) (w:World) (hW:Wnd w g off pre ls post) (hln:ls.length = n + 1) (hbn:bs.length = n) (hn2:2 ≤ n) (hnm:n ≤ 100000) (hllo:Lo W32 ls) (hblo:Lo W32 bs) (hF:bs.getD (n - 1) 0 ≠ 0)
  (hcap:n + 1 ≤ cap) (hcm:cap ≤ maxLen) (hb:SlV w vb (C .u32 bs)) (hne:∀ b,vb.ownBlock = some b → b ≠ g) :
  Calls Tryz.prog 149 #[.slice (some ⟨g,off,none⟩) (n + 1) cap,vb] w fun e w'=>∃ (q:Nat) (ls':List Nat),e = .returned (.int .u32 (q:Int)) ∧ q < 4294967296 ∧ Wnd w' g off pre ls' post ∧ ls'.length = n + 1 ∧ Lo W32 ls' ∧ (val W32 ls < val W32 bs * W32 → q = val W32 ls / val W32 bs ∧ val W32 ls' = val W32 ls % val W32 bs) ∧ w.grownBy w' (some g):=by
 have hD0:0 < val W32 bs:=by
  rw [val_split bs (n - 1)]
  have h1:0 < W32 ^ (n - 1):=Nat.pow_pos (by decide)
  have h2:0 < bs.getD (n - 1) 0 + W32 * val W32 (bs.drop (n - 1 + 1)):=by omega
  have:=Nat.mul_pos h1 h2
  omega
 have hsl:SlV w (.slice (some ⟨g,off,none⟩) (n + 1) cap) (C .u32 ls):=by
  have:=hW.1.sl off (n + 1) cap (by rw [C_length,List.length_append,List.length_append,hW.2,hln];omega) hcap hcm
  rw [← C_drop,← C_take,← hW.2,List.drop_left,List.take_left' hln,hW.2] at this
  exact this
 have hVP:val W32 ls < W32 ^ (n + 1):=by have:=val_lt (B:=W32) (by decide) hllo;rwa [hln] at this
 have HG:=Away.mk (guess_any _ vb ls bs n w hsl hb hln hbn hn2 hnm hllo hblo hF)
 have HW:=Away.mk hW;have HB:=Away.mk hb;have HD:=Away.mk hD0;have HVP:=Away.mk hVP;have HNE:=Away.mk hne
 obtain ⟨ab,cb,rfl,q2,r2⟩:=hb.shapeC hbn
 clear hsl hW hb hD0 hVP hne
 go_enter Tryz.func149,Tryz.ntmps149
 go_wp2_with fail
 refine HG.out.mono ?_
 rintro _ w1 ⟨q,rfl,hq,hqc,hh,hb1⟩
 have hW1:Wnd w1 g off pre ls post:=⟨by have:=HW.out.1;unfold Row at *;rw [hh];exact this,HW.out.2⟩
 have hs1:=HB.out.below hb1
 have HT:=Away.mk (takeTimes_any g off (n + 1) cap q _ pre ls post bs w1 hW1 hln hllo (by omega) hcap hcm hs1 hblo (by omega) (fun _=>HNE.out) hq)
 have HQC:=Away.mk hqc;have HH:=Away.mk (grown_of_below hb1 (some g));have HB1:=Away.mk hb1
 clear hW1 hs1 hqc hh hb1 HG
 go_wp2_with fail
 refine HT.out.mono ?_
 rintro _ w2 ⟨ls1,c,rfl,hW2,hl2,hlo2,hv2,hg2⟩
 have hV1:val W32 ls1 < W32 ^ (n + 1):=by have:=val_lt (B:=W32) (by decide) hlo2;rwa [hl2] at this
 have HV2:=Away.mk hv2;have HW2:=Away.mk hW2;have HV1:=Away.mk hV1;have HG2:=Away.mk (grown_tr HH.out hg2)
 have hs2:=(HB.out.below HB1.out).grown hg2 (fun b e h=>HNE.out b e (by cases h;rfl))
 have HS2:=Away.mk hs2
 clear hW2 hv2 hg2 hV1 HT hs2
 by_cases hc:0 < c
 ·have d0:decide (0 < c) = true:=decide_eq_true hc
  have hq1:1 ≤ q:=by
   rcases Nat.eq_zero_or_pos q with h | h
   ·have h1:=HV2.out
    rw [h,Nat.zero_mul,Nat.add_zero] at h1
    have h2:=HV1.out
    have h3:W32 ^ (n + 1) * 1 ≤ W32 ^ (n + 1) * c:=Nat.mul_le_mul_left _ hc
    omega
   ·exact h
  have HA:=Away.mk (addTimes_any g off (n + 1) cap 1 _ pre ls1 post bs w2 HW2.out hl2 hlo2 (by omega) hcap hcm HS2.out hblo (by omega) (fun _=>HNE.out) (by decide))
  go_wp2_with fail
  refine HA.out.mono ?_
  rintro _ w3 ⟨ls2,c2,⟨u,rfl⟩,hW3,hl3,hlo3,hv3,hg3⟩
  have HV3:=Away.mk hv3;have HW3:=Away.mk hW3;have HG3:=Away.mk (grown_tr HG2.out hg3)
  have hVV:val W32 ls2 < W32 ^ (n + 1):=by have:=val_lt (B:=W32) (by decide) hlo3;rwa [hl3] at this
  have HVV:=Away.mk hVV
  clear hW3 hv3 hg3 HA hVV
  go_wp2
  go_ret
  refine ⟨q - 1,ls2,ret_int (by omega),by omega,HW3.out,hl3,hlo3,fun hcond=>?_,HG3.out⟩
  rcases HQC.out hcond with h | h
  ·have:=(took_all h HD.out HV2.out HV1.out).1
   omega
  ·have h3:=HV3.out
   rw [Nat.one_mul] at h3
   have:=put_back h HD.out HV2.out HV1.out h3 HVV.out HVP.out
   exact ⟨by omega,this.2⟩
 ·have d0:decide (0 < c) = false:=decide_eq_false hc
  go_wp2
  go_ret
  refine ⟨q,ls1,rfl,hq,HW2.out,hl2,hlo2,fun hcond=>?_,HG2.out⟩
  rcases HQC.out hcond with h | h
  ·exact ⟨h,(took_all h HD.out HV2.out HV1.out).2⟩
  ·exfalso
   have h1:=HV2.out
   obtain rfl:c = 0:=by omega
   rw [Nat.mul_zero,Nat.add_zero,h,Nat.add_mul,Nat.one_mul] at h1
   have h2:=Nat.div_add_mod (val W32 ls) (val W32 bs)
   have h3:=Nat.mod_lt (val W32 ls) HD.out
   rw [Nat.mul_comm] at h2
   omega
open Go.Shelf
attribute [local go_sem] Oper.semAt_some
def LongI (M D gl gq b7 b11 b12 na nq:Nat) (vby:Value) (bs:List Nat) {n:Nat} {V:Nat → Nat → Prop} (pre:List (Al n V)) (W:World):Prop :=
 ∃ ls qs:List Nat,Row W gl 95 (C .u32 ls) ∧ Row W gq 95 (C .u32 qs) ∧ ls.length = na + 1 ∧ qs.length = nq ∧ Lo W32 ls ∧ Lo W32 qs ∧ SlV W vby (C .u32 bs) ∧
  Boxed W b7 68 vby ∧ Boxed W b11 68 (.slice (some ⟨gl,0,none⟩) (na + 1) (na + 1)) ∧ Boxed W b12 68 (.slice (some ⟨gq,0,none⟩) nq nq) ∧
  (∀ k,k ≤ nq → places pre = desc nq k → M = val W32 (qs.drop (nq - k)) * W32 ^ (nq - k) * D + val W32 ls ∧ val W32 ls < W32 ^ (nq - k) * D)
theorem zeros_getD (n j:Nat):(List.replicate n 0).getD j 0 = 0:=by
 by_cases h:j < n
 ·simp [List.getD,h]
 ·exact getD_past (by simp;omega)
theorem long_step {ls ls' qs:List Nat} {M D na nb nq i q:Nat} (hls:ls.length = na + 1) (hlo:Lo W32 ls) (hqs:qs.length = nq) (hi:i < nq) (hnq:nq + nb = na + 1) (hD:D < W32 ^ nb) (hD0:0 < D)
  (h1:M = val W32 (qs.drop (i + 1)) * W32 ^ (i + 1) * D + val W32 ls) (h2:val W32 ls < W32 ^ (i + 1) * D)
  (hq:val W32 ((ls.drop i).take (nb + 1)) < D * W32 → q = val W32 ((ls.drop i).take (nb + 1)) / D ∧ val W32 ls' = val W32 ((ls.drop i).take (nb + 1)) % D) (hls':ls'.length = nb + 1) :
  M = val W32 ((qs.set i q).drop i) * W32 ^ i * D + val W32 (ls.take i ++ (ls' ++ (ls.drop i).drop (nb + 1))) ∧ val W32 (ls.take i ++ (ls' ++ (ls.drop i).drop (nb + 1))) < W32 ^ i * D:=by
 have hpi:0 < W32 ^ i:=Nat.pow_pos (by decide)
 have htl:(ls.take i).length = i:=by rw [List.length_take];omega
 have hwl:((ls.drop i).take (nb + 1)).length = nb + 1:=by rw [List.length_take,List.length_drop];omega
 have hpost:val W32 ((ls.drop i).drop (nb + 1)) = 0:=by
  rw [List.drop_drop,val_div (B:=W32) (by decide) hlo,Nat.div_eq_of_lt]
  refine Nat.lt_trans h2 ?_
  rw [show W32 ^ (i + (nb + 1)) = W32 ^ (i + 1) * W32 ^ nb by rw [← Nat.pow_add];congr 1;omega]
  exact Nat.mul_lt_mul_of_pos_left hD (Nat.pow_pos (show 0 < W32 by decide))
 have hval:val W32 ls = val W32 (ls.take i) + W32 ^ i * val W32 ((ls.drop i).take (nb + 1)):=by
  have e1:=val_take_drop (B:=W32) ls i (by omega)
  have e2:=val_take_drop (B:=W32) (ls.drop i) (nb + 1) (by rw [List.length_drop];omega)
  rw [hpost,Nat.mul_zero,Nat.add_zero] at e2
  rw [e1,e2]
 have hval':val W32 (ls.take i ++ (ls' ++ (ls.drop i).drop (nb + 1))) = val W32 (ls.take i) + W32 ^ i * val W32 ls':=by
  rw [val_append,val_append,hpost,Nat.mul_zero,Nat.add_zero,htl]
 have hpre:=val_take_lt (B:=W32) (by decide) hlo i
 have hwin:val W32 ((ls.drop i).take (nb + 1)) < D * W32:=by
  rw [hval,Nat.pow_succ] at h2
  have h3:W32 ^ i * val W32 ((ls.drop i).take (nb + 1)) < W32 ^ i * (D * W32):=by
   have:W32 ^ i * W32 * D = W32 ^ i * (D * W32):=by rw [Nat.mul_assoc,Nat.mul_comm W32 D]
   omega
  exact Nat.lt_of_mul_lt_mul_left h3
 obtain ⟨hq1,hq2⟩:=hq hwin
 have hdm:=Nat.div_add_mod (val W32 ((ls.drop i).take (nb + 1))) D
 have hmod:=Nat.mod_lt (val W32 ((ls.drop i).take (nb + 1))) hD0
 have hqd:val W32 ((qs.set i q).drop i) = q + W32 * val W32 (qs.drop (i + 1)):=by
  have hlt:i < (qs.set i q).length:=by rw [List.length_set];omega
  rw [List.drop_eq_getElem_cons hlt,drop_set_succ]
  simp [val]
 rw [hval',hqd,h1,hval]
 rw [← hq1] at hdm
 rw [← hq2] at hdm hmod
 generalize val W32 ((ls.drop i).take (nb + 1)) = T at *
 generalize val W32 (qs.drop (i + 1)) = H at *
 generalize val W32 ls' = r at *
 generalize val W32 (ls.take i) = p at *
 rw [Nat.pow_succ] at *
 generalize W32 ^ i = P at *
 generalize W32 = B at *
 constructor
 ·subst hdm
  clear h1 h2 hval hval' hpre hwin hq hq1 hq2 hpost hqd
  grind
 ·have h4:P * (r + 1) ≤ P * D:=Nat.mul_le_mul_left _ hmod
  rw [Nat.mul_add,Nat.mul_one] at h4
  omega
theorem keeps_row {A B:World} {g:Nat} {e:TypeId} {us:List Value} (hg:A.grownBy B (some g)) (h:Row A g e us):KeepsOthers A B :=
 KeepsOthers.of_grownBy hg fun j o ej hj=>by
  obtain rfl:g = j:=by simpa using ej
  rw [show A.heap[g]? = _ from h] at hj;cases hj;rfl
set_option maxRecDepth 100000 in
set_option maxHeartbeats 4000000 in
theorem divWords_any (va vb:Value) (xs ys:List Nat) (w:World) (ha:SlV w va (C .u32 xs)) (hb:SlV w vb (C .u32 ys)) (hI1:Is W32 (val W32 xs) xs) (hI2:Is W32 (val W32 ys) ys) (hna:xs.length ≤ 1000) (hnb2:2 ≤ ys.length) (hab:ys.length ≤ xs.length) :
  Calls Tryz.prog 124 #[va,vb] w fun e w'=>∃ v1 v2,e = .returned (.tuple #[v1,v2]) ∧ Ans w.heap.size w' v1 (val W32 xs / val W32 ys) ∧ Ans w.heap.size w' v2 (val W32 xs % val W32 ys) ∧ Below w.heap.size w w':=by
 obtain ⟨i0,hi,hz0,hz1,hz2⟩:=info_parts Tryz.info95
 obtain ⟨na,hn1⟩:∃ n,xs.length = n:=⟨_,rfl⟩
 obtain ⟨nb,hn2⟩:∃ n,ys.length = n:=⟨_,rfl⟩
 obtain ⟨a1,c1,rfl,q1,r1⟩:=ha.shapeC hn1
 obtain ⟨a2,c2,rfl,q2,r2⟩:=hb.shapeC hn2
 obtain ⟨b2,o2,rfl,hbl2,hcb⟩:=hb.cells (by rw [C_length];omega)
 have hct:=hcb (nb - 1) _ (C_get _ (by omega))
 have htb:ys.getD (nb - 1) 0 < 4294967296:=hI2.2.1.getD (by decide) _
 have ht0:ys.getD (nb - 1) 0 ≠ 0:=by have:=hI2.last (by decide) (by omega);rwa [hn2] at this
 have htop:bl (val W32 ys) = (nb - 1) * 32 + bl (ys.getD (nb - 1) 0):=bl_top hI2.2.1 ht0 (fun j hj=>getD_past (by omega))
 have htop32:=(bl_le (ys.getD (nb - 1) 0) 32).2 (by omega)
 have htoppos:=bl_pos ht0
 rw [hn1] at hna hab
 rw [hn2] at hnb2 hab
 generalize ys.getD (nb - 1) 0 = y at *
 have hlz:=lz32_any y htb
 obtain ⟨s,hs⟩:∃ s,32 - bl y = s:=⟨_,rfl⟩
 rw [hs] at hlz
 have hs31:s ≤ 31:=by omega
 have hbits:bl (val W32 ys) + s = 32 * nb:=by omega
 obtain ⟨D,hD⟩:∃ D,val W32 ys * 2 ^ s = D:=⟨_,rfl⟩
 obtain ⟨M,hM⟩:∃ M,val W32 xs * 2 ^ s = M:=⟨_,rfl⟩
 have h2s:0 < 2 ^ s:=Nat.pow_pos (by decide)
 have hDlt:D < W32 ^ nb:=by
  rw [pow32,← hbits,Nat.pow_add,← hD]
  exact Nat.mul_lt_mul_of_pos_right (bl_lt _) h2s
 have hyge:W32 ^ (nb - 1) ≤ val W32 ys:=by have:=hI2.2.2 (by omega);rwa [hn2] at this
 have hDge:W32 ^ (nb - 1) ≤ D:=by rw [← hD];exact Nat.le_trans hyge (Nat.le_mul_of_pos_right _ h2s)
 have hxlt:val W32 xs < W32 ^ na:=hI1.val_lt (by decide) (by omega)
 have hMlt:M < W32 ^ (na - nb + 1) * D:=by
  rw [← hM,← hD,← Nat.mul_assoc]
  refine Nat.mul_lt_mul_of_pos_right ?_ h2s
  refine Nat.lt_of_lt_of_le hxlt ?_
  rw [show na = (na - nb + 1) + (nb - 1) by omega,Nat.pow_add,show na - nb + 1 + (nb - 1) - nb + 1 = na - nb + 1 by omega]
  exact Nat.mul_le_mul_left _ hyge
 have hMlen:M < W32 ^ (na + 1):=by
  rw [← hM,Nat.pow_succ]
  exact Nat.mul_lt_mul'' hxlt (Nat.lt_of_le_of_lt (Nat.pow_le_pow_right (by decide) hs31) (by decide))
 have HA:=Away.mk ha;have HB:=Away.mk hb;have HI1:=Away.mk hI1;have HI2:=Away.mk hI2;have HD:=Away.mk hD;have HM:=Away.mk hM;have HDL:=Away.mk hDlt;have HDG:=Away.mk hDge;have HML:=Away.mk hMlt;have HMN:=Away.mk hMlen;have HLZ:=Away.mk hlz;have H2S:=Away.mk h2s
 have e1:(nb:Int) - 1 = ((nb - 1:Nat):Int):=by omega
 have hnb1:nb - 1 < nb:=by omega
 clear ha hb hI1 hI2 hD hM hDlt hDge hMlt hMlen hlz h2s hyge hxlt hbits htop htop32 htoppos hs hcb
 refine (callsIn_wide (n:=3)).1 ?_
 refine callsIn_of_wp_marks Tryz.func124 rfl trivial ?_ rfl
 refine wpIn_wide.2 ?_
 simp only [Tryz.ntmps124,List.size_toArray,List.length_cons,List.length_nil,Nat.reduceAdd,Nat.reduceSub,Array.replicate_succ,Array.replicate_zero,List.push_toArray,List.append_toArray,List.nil_append,List.cons_append]
 go_wp2_with fail
 refine (HLZ.out w).mono ?_
 rintro _ w0 ⟨rfl,rfl⟩
 go_wp2_with fail
 refine (shl_any _ ys s w HB.out HI2.out.2.1 (by omega) (by omega)).mono ?_
 rw [HD.out]
 rintro _ w1 ⟨vby,rfl,⟨bs,hIb,hsb,hrb⟩,hb1⟩
 have hbl:bs.length = nb:=by
  have h1:=(hIb.len (by decide) nb).2 HDL.out
  have h2:¬ bs.length ≤ nb - 1:=fun h=>by have:=(hIb.len (by decide) (nb - 1)).1 h;have:=HDG.out;omega
  omega
 obtain ⟨gb,rest,hvby,hgb1,hrowb⟩:=hrb (by omega)
 have hgb2:=hrowb.lt
 rw [hbl] at hvby
 have HSB:=Away.mk hsb;have HIB:=Away.mk hIb;have HB1:=Away.mk hb1;have HA1:=Away.mk (HA.out.below hb1)
 subst hvby
 clear hsb hIb hb1 hrb hrowb
 go_wp2_with fail
 have hbx1:Below w1.heap.size w1 (w1.alloc (.cells #[.slice (some ⟨gb,0,none⟩) nb nb] 68)):=(Below.refl _ _).alloc (Nat.le_refl _) _
 refine (shl_any _ xs s _ (HA1.out.below hbx1) HI1.out.2.1 (by omega) (by omega)).mono ?_
 rw [HM.out]
 rintro _ w2 ⟨vhi,rfl,⟨hs',hIh,hsh,_⟩,hb2⟩
 obtain ⟨nh,hnh⟩:∃ n,hs'.length = n:=⟨_,rfl⟩
 obtain ⟨ah,ch,rfl,q3,r3⟩:=hsh.shapeC hnh
 have hnhle:nh ≤ na + 1:=by rw [← hnh];exact (hIh.len (by decide) _).2 HMN.out
 have hbx2:Below w1.heap.size w1 w2:=hbx1.trans (hb2.mono (by simp))
 have b7:Boxed w2 w1.heap.size 68 (.slice (some ⟨gb,0,none⟩) nb nb):=(Boxed.new w1 68 _).kept (grown_of_below hb2 none) (by simp)
 have hw02:Below w.heap.size w w2:=HB1.out.trans (hbx2.mono HB1.out.size)
 have hsz2:w1.heap.size < w2.heap.size:=b7.lt
 have HSH:=Away.mk hsh;have HIH:=Away.mk hIh;have HB7:=Away.mk b7;have HW2:=Away.mk hw02;have HSB2:=Away.mk (HSB.out.below hbx2)
 clear hsh hIh b7 hw02 hb2 hbx2 hbx1 HSB HA1
 go_wp2_with (at_make;refine wpList_make_full _ rfl _ _ 68 rfl w.heap.size 95 i0 _ 1 Tryz.underlying68 hi hz0 hz1 _ _ _ _ (na + 1) rfl rfl (by omega) (by omega) (by rw [hz2];omega) (by unfold maxLen;omega) HW2.out.size ?_)
 intro w3 hown hg3
 have HO:=Away.mk (own_made hown);have HG3:=Away.mk hg3
 have hgl3:=(Row.ofOwn (own_made hown)).lt
 clear hown hg3
 go_wp2_with (refine wpList_copy_full rfl (.tmp 38) (.tmp 39) 68 rfl 95 Tryz.underlying68 Tryz.size95 w.heap.size (na + 1) (na + 1) nh w2.heap.size _ (C .u32 hs') _ _ rfl rfl (by rw [C_length];exact hnh.symm) (HO.out.alloc _) ((HSH.out.grown HG3.out (by simp)).below ((Below.refl _ _).alloc (Nat.le_refl _) _)) (by rw [C_length];omega) (C_one _ _) ?_)
 intro w4 hown4 hg4 hsz4
 have hr4:=Row.ofOwn hown4
 rw [C_length,hnh,← C_zeros,← C_append] at hr4
 have b11:Boxed w4 w3.heap.size 68 (.slice (some ⟨w2.heap.size,0,none⟩) (na + 1) (na + 1)):=(Boxed.new w3 68 _).kept hg4 (by simp;omega)
 have hB24:Below w2.heap.size w2 w4:=(((Below.refl _ w2).grown HG3.out (Nat.le_refl _) (by simp)).alloc HG3.out.size _).grown hg4 (by have:=HG3.out.size;simp;omega) (by simp)
 have hs34:w3.heap.size < w4.heap.size:=b11.lt
 have HR4:=Away.mk hr4;have H11:=Away.mk b11;have HB24:=Away.mk hB24
 clear hsz4 hown4 hg4 hr4 b11 hB24 HO HG3
 have e3:(na:Int) - nb + 1 = ((na - nb + 1:Nat):Int):=by omega
 obtain ⟨nq,hnq⟩:∃ nq,na - nb + 1 = nq:=⟨_,rfl⟩
 rw [hnq] at e3 HML
 have hnq1:nq + nb = na + 1:=by omega
 have hnq2:0 < nq:=by omega
 clear hnq
 go_wp2_with (at_make;refine wpList_make_full _ rfl _ _ 68 rfl w.heap.size 95 i0 _ 1 Tryz.underlying68 hi hz0 hz1 _ _ _ _ nq rfl rfl (by omega) (by omega) (by rw [hz2];omega) (by unfold maxLen;omega) (Nat.le_trans HW2.out.size HB24.out.size) ?_)
 intro w5 hown5 hg5
 have hr5:=Row.ofOwn (own_made hown5)
 rw [← C_zeros] at hr5
 have hgq5:=hr5.lt
 have hB45:Below w4.heap.size w4 w5:=(Below.refl _ w4).grown hg5 (Nat.le_refl _) (by simp)
 have HR5:=Away.mk hr5;have HB45:=Away.mk hB45
 clear hown5 hg5 hr5 hB45
 go_wp2_with fail
 refine (down_any _ _ _ _).mono ?_
 rintro _ w' ⟨rfl,rfl⟩
 go_wp2
 obtain ⟨w6,hw6⟩:∃ w6,w5.alloc (.cells #[.slice (some ⟨w4.heap.size,0,none⟩) nq nq] 68) = w6:=⟨_,rfl⟩
 rw [hw6]
 obtain ⟨gl,hgl⟩:∃ g,w2.heap.size = g:=⟨_,rfl⟩
 obtain ⟨gq,hgq⟩:∃ g,w4.heap.size = g:=⟨_,rfl⟩
 obtain ⟨b7,hb7⟩:∃ g,w1.heap.size = g:=⟨_,rfl⟩
 obtain ⟨b11,hb11⟩:∃ g,w3.heap.size = g:=⟨_,rfl⟩
 obtain ⟨b12,hb12⟩:∃ g,w5.heap.size = g:=⟨_,rfl⟩
 have hB56:Below w5.heap.size w5 w6:=by rw [← hw6];exact (Below.refl _ _).alloc (Nat.le_refl _) _
 have hB46:Below w4.heap.size w4 w6:=HB45.out.trans (hB56.mono HB45.out.size)
 have hB26:Below w2.heap.size w2 w6:=HB24.out.trans (hB46.mono HB24.out.size)
 have hB06:Below w.heap.size w w6:=HW2.out.trans (hB26.mono HW2.out.size)
 have hsz6:w6.heap.size = b12 + 1:=by rw [← hw6,← hb12];simp
 have x12:Boxed w6 b12 68 (.slice (some ⟨gq,0,none⟩) nq nq):=by rw [← hw6,← hb12,← hgq];exact Boxed.new _ _ _
 have x11:Boxed w6 b11 68 (.slice (some ⟨gl,0,none⟩) (na + 1) (na + 1)):=by rw [← hb11,← hgl];exact H11.out.kept (grown_of_below hB46 none) (by simp)
 have x7:Boxed w6 b7 68 (.slice (some ⟨gb,0,none⟩) nb nb):=by rw [← hb7];exact HB7.out.kept (grown_of_below hB26 none) (by simp)
 have xl:=HR4.out.belowS hB46
 have xq:=HR5.out.belowS hB56
 have xb:=HSB2.out.below hB26
 have s1:w.heap.size ≤ gb:=hgb1
 have s2:gb < b7:=by omega
 have s3:b7 < gl:=by omega
 have s4:gl < b11:=by omega
 have s5:b11 < gq:=by omega
 have s6:gq < b12:=by omega
 rw [hgl] at xl
 rw [hgq] at xq
 obtain ⟨ls0,hls0⟩:∃ l,hs' ++ List.replicate (na + 1 - nh) 0 = l:=⟨_,rfl⟩
 rw [hls0] at xl
 have hl0:ls0.length = na + 1:=by rw [← hls0];simp;omega
 have hl1:Lo W32 ls0:=by rw [← hls0];exact HIH.out.2.1.append (Lo.zeros (by decide) _)
 have hl2:val W32 ls0 = M:=by rw [← hls0,val_append,val_zeros,HIH.out.1];omega
 have hD0:0 < D:=Nat.lt_of_lt_of_le (Nat.pow_pos (by decide)) HDG.out
 have hbF:bs.getD (nb - 1) 0 ≠ 0:=by have:=HIB.out.last (by decide) (by omega);rwa [hbl] at this
 have HS0:∀ W (qs:List Nat),W.cell? ⟨b12 + 1,0,none⟩ = some (.slice (some ⟨gq,0,none⟩) nq nq) → Row W gq 95 (C .u32 qs) → qs.length = nq → Lo W32 qs → Seen (fun _ _=>True) (b12 + 1) (some ⟨gq,0,none⟩) nq nq W:=fun W qs h1 h2 h3 h4=>⟨h1,fun j hj=>⟨gq,0,qs.getD j 0,rfl,h4.getD (by decide) j,trivial,by rw [Nat.zero_add,h2.cell];exact C_get _ (by omega)⟩⟩
 rw [hgl,hgq,hb7,hb11,hb12]
 rw [hw6] at *
 have xb7:Boxed (w6.alloc (.cells #[.slice (some ⟨gq,0,none⟩) nq nq] 68)) (b12 + 1) 68 (.slice (some ⟨gq,0,none⟩) nq nq):=by have:=Boxed.new w6 68 (.slice (some ⟨gq,0,none⟩) nq nq);rwa [hsz6] at this
 have hB67:Below w6.heap.size w6 (w6.alloc (.cells #[.slice (some ⟨gq,0,none⟩) nq nq] 68)):=(Below.refl _ _).alloc (Nat.le_refl _) _
 clear hw6 HR4 HR5 H11 HB7 HB24 HB45 HW2 HSB2 hB56 hB46 hB26 hgl hgq hb7 hb11 hb12 hgl3 hgq5 hsz2 HSH HIH hls0
 refine range_down w (b12 + 1) nq nq (some ⟨gq,0,none⟩) (fun _ _=>True) (by unfold maxLen;omega) rfl rfl (hB06.alloc (by omega) _)
  (fun W hW=>HS0 W _ ((hW.cell (p:=⟨b12 + 1,0,none⟩) xb7.lt).trans xb7.cell) ((xq.belowS hB67).belowS hW) (by simp) (Lo.zeros (by decide) _))
  (fun pre W=>LongI M D gl gq b7 b11 b12 na nq (.slice (some ⟨gb,0,none⟩) nb nb) bs pre W) (fun _ _=>False)
  (fun st A B row hst hg hr=>by
   obtain ⟨ls,qs,p1,p2,p3,p4,p5,p6,p7,p8,p9,p10,p11⟩:=hst
   exact ⟨ls,qs,Row.turn p1 hg hr,Row.turn p2 hg hr,p3,p4,p5,p6,p7.turn hg hr,Boxed.turn p8 hg hr,Boxed.turn p9 hg hr,Boxed.turn p10 hg hr,p11⟩)
  (fun _ _ _ _ hs _ _=>hs)
  ⟨ls0,_,xl.belowS hB67,xq.belowS hB67,hl0,by simp,hl1,Lo.zeros (by decide) _,xb.below hB67,x7.alloc _,x11.alloc _,x12.alloc _,fun k hk hp=>?start⟩
  (fun i z=>{ tmps:=#[.slice a1 na c1,.slice (some ⟨b2,o2,none⟩) nb c2,undef,undef,.slice none 0 0,.slice none 0 0,.int .i64 s,.pointer (some ⟨b7,0,none⟩),.int .i64 0,.slice ah nh ch,.int .i64 0,.pointer (some ⟨b11,0,none⟩),.pointer (some ⟨b12,0,none⟩),.int .i64 (i:Int),undef,?t15,?t16,?t17,?t18,?t19,?t20,?t21,?t22,?t23,?t24,?t25,?t26,?t27,?t28,?t29,?t30,?t31,?t32,?t33,?t34,?t35,?t36,?t37,?t38,?t39,?t40,?t41,?t42,?t43,?t44,?t45,?t46,?t47,?t48,.func (.func 159) #[] #[.pointer (some ⟨b12 + 1,0,none⟩)],.int .i64 (i:Int),.int .u32 (z:Int),undef,undef,undef,undef,undef,undef,undef,undef,undef,undef,undef,undef,undef,undef,undef,undef,undef,undef,undef,undef],defers:=[] }) ?assign ?body ?done ?stop
 case start =>
  obtain rfl:k = 0:=by have:=congrArg List.length hp;simp [places,desc_length] at this;omega
  rw [Nat.sub_zero,hl2]
  refine ⟨?_,HML.out⟩
  rw [val_drop_zero (fun j hj=>zeros_getD _ _)]
  omega
 case assign =>
  intro l i z W K hK
  gi_wp2
  exact hK
 case body =>
  rintro l pre x i z W R HX hii hz HV ⟨ls,qs,p1,p2,p3,p4,p5,p6,p7,p8,p9,p10,p11⟩ hB HN' HR'
  have p8:Boxed W b7 68 _:=p8
  have p9:Boxed W b11 68 _:=p9
  have p10:Boxed W b12 68 _:=p10
  have c7:=p8.cell;have c11:=p9.cell;have c12:=p10.cell
  have e4:i + nb + 1 ≤ na + 1:=by omega
  have htl:(ls.take i).length = i:=by rw [List.length_take];omega
  have hml:((ls.drop i).take (nb + 1)).length = nb + 1:=by rw [List.length_take,List.length_drop];omega
  have hsplit:ls.take i ++ ((ls.drop i).take (nb + 1) ++ (ls.drop i).drop (nb + 1)) = ls:=by rw [List.take_append_drop,List.take_append_drop]
  have hwnd:Wnd W.drew gl i (ls.take i) ((ls.drop i).take (nb + 1)) ((ls.drop i).drop (nb + 1)):=⟨by rw [hsplit];exact p1,htl⟩
  have HTM:=Away.mk (takeMost_any gl i (nb + 1) nb (.slice (some ⟨gb,0,none⟩) nb nb) _ _ _ bs W.drew hwnd hml hbl hnb2 (by omega) ((p5.drop i).take _) HIB.out.2.1 hbF (Nat.le_refl _) (by unfold maxLen;omega) p7 (fun b e=>by simp only [Value.ownBlock,Option.some.injEq] at e;omega))
  have HSPL:=Away.mk hsplit
  have hend:i + nb + 1 - i = nb + 1:=by omega
  have hne:i ≠ na + 1:=by omega
  clear hwnd hsplit
  gi_wp2
  refine region_round (S:=fun w'=>w'.cell? ⟨b12,0,none⟩ = some (.slice (some ⟨gq,0,none⟩) nq nq) ∧ w'.cell? ⟨b11,0,none⟩ = some (.slice (some ⟨gl,0,none⟩) (na + 1) (na + 1)) ∧ w'.cell? ⟨b7,0,none⟩ = some (.slice (some ⟨gb,0,none⟩) nb nb)) (by kernel_rfl) (by kernel_rfl) (⟨c12,c11,c7⟩) (fun hHeld=>?_)
  refine wpAnyH_takeL (i:=0) (v:=?v0) rfl (by kernel_rfl) (by kernel_rfl) (by kernel_rfl) (fun _ _ _ h=>h) (by rfl) ?h0 (by assumption) ?_
  case h0=>intro w hSw;go_simp <;> with_reducible rfl
  simp only [Act.put,stA,st0,st1]
  refine wpAnyH_takeL (i:=1) (v:=?v1) rfl (by kernel_rfl) (by kernel_rfl) (by kernel_rfl) (fun _ _ _ h=>h) (by rfl) ?h1 (by assumption) ?_
  case h1=>intro w hSw;go_simp <;> with_reducible rfl
  simp only [Act.put,stA,st0,st1]
  refine wpAnyH_takeL (i:=2) (v:=?v2) rfl (by kernel_rfl) (by kernel_rfl) (by kernel_rfl) (fun _ _ _ h=>h) (by rfl) ?h2 (by assumption) ?_
  case h2=>intro w hSw;go_simp <;> with_reducible rfl
  simp only [Act.put,stA,st0,st1]
  refine wpAnyH_takeL (i:=3) (v:=?v3) rfl (by kernel_rfl) (by kernel_rfl) (by kernel_rfl) (fun _ _ _ h=>h) (by rfl) ?h3 (by assumption) ?_
  case h3=>intro w hSw;go_simp <;> with_reducible rfl
  simp only [Act.put,stA,st0,st1]
  refine wpAnyH_takeL (i:=4) (v:=?v4) rfl (by kernel_rfl) (by kernel_rfl) (by kernel_rfl) (fun _ _ _ h=>h) (by rfl) ?h4 (by assumption) ?_
  case h4=>intro w hSw;go_simp <;> with_reducible rfl
  simp only [Act.put,stA,st0,st1]
  refine wpAnyH_takeL (i:=5) (v:=?v5) rfl (by kernel_rfl) (by kernel_rfl) (by kernel_rfl) (fun _ _ _ h=>h) (by rfl) ?h5 (by assumption) ?_
  case h5=>intro w hSw;go_simp <;> with_reducible rfl
  simp only [Act.put,stA,st0,st1]
  refine wpAnyH_takeL (i:=6) (v:=?v6) rfl (by kernel_rfl) (by kernel_rfl) (by kernel_rfl) (fun _ _ _ h=>h) (by rfl) ?h6 (by assumption) ?_
  case h6=>intro w hSw;go_simp;rw [if_pos (by omega),if_pos (by omega),if_pos (by omega),if_neg (by omega),show ((i:Int) + (nb:Int) + 1).toNat - i = nb + 1 by omega]
  simp only [Act.put,stA,st0,st1]
  refine wpAnyH_takeL (i:=7) (v:=?v7) rfl (by kernel_rfl) (by kernel_rfl) (by kernel_rfl) (fun _ _ _ h=>h) (by rfl) ?h7 (by assumption) ?_
  case h7=>intro w hSw;go_simp <;> with_reducible rfl
  simp only [Act.put,stA,st0,st1]
  refine ar1 8 rfl (fun K hK=>?_)
  go_simp
  refine HTM.out.mono ?_
  rintro _ w1 ⟨q,ls',rfl,hq32,hwnd1,hls',hlo1,hqc,hg1⟩
  have hg1:W.grownBy w1 (some gl):=⟨hg1.os,hg1.tape,hg1.output,hg1.size,hg1.block⟩
  have z8:=p8.kept hg1 (by simp;omega)
  have z9:=p9.kept hg1 (by simp;omega)
  have z10:=p10.kept hg1 (by simp;omega)
  have hq1:=p2.grown hg1 (by simp;omega)
  have hco:=(hq1.cell i).trans (C_get _ (by omega))
  have hfo:=hq1.frozen i
  refine hK.out _ _ (⟨z10.cell,z9.cell,z8.cell⟩) (fun hHeld=>?_)
  clear hK K
  refine wpAnyH_takeL (i:=9) (v:=?v9) rfl (by kernel_rfl) (by kernel_rfl) (by kernel_rfl) (fun _ _ _ h=>h) (by rfl) ?h9 (by assumption) ?_
  case h9=>intro w hSw;go_simp <;> with_reducible rfl
  simp only [Act.put,stA,st0,st1]
  refine ar1 10 rfl (fun K hK=>?_)
  go_simp
  refine hK.out _ _ (⟨(((Boxed.row z10).other _ (by omega)).cell 0),(((Boxed.row z9).other _ (by omega)).cell 0),(((Boxed.row z8).other _ (by omega)).cell 0)⟩) (fun hHeld=>?_)
  clear hK K
  refine wpAnyH_done (by kernel_rfl) ?_ _
  refine Nrm.normal ?_
  have hgw:w1.grownBy (w1.setCell ⟨gq,i,none⟩ (.int .u32 (q:Int))) (some gq):=grown_set _ _ _ _
  obtain ⟨W2,hW2⟩:∃ W2,w1.setCell ⟨gq,i,none⟩ (.int .u32 (q:Int)) = W2:=⟨_,rfl⟩
  rw [hW2] at hgw ⊢
  have y1:Row W2 gl 95 (C .u32 (ls.take i ++ (ls' ++ (ls.drop i).drop (nb + 1)))):=hwnd1.1.grown hgw (by simp;omega)
  have y2:Row W2 gq 95 (C .u32 (qs.set i q)):=by rw [← hW2,C_set];exact hq1.set i _
  have y7:SlV W2 (.slice (some ⟨gb,0,none⟩) nb nb) (C .u32 bs):=(p7.grown hg1 (fun b e h=>by simp only [Value.ownBlock,Option.some.injEq] at e h;omega)).grown hgw (fun b e h=>by simp only [Value.ownBlock,Option.some.injEq] at e h;omega)
  have y8:=z8.kept hgw (by simp;omega)
  have y9:=z9.kept hgw (by simp;omega)
  have y10:=z10.kept hgw (by simp;omega)
  have hko:KeepsOthers W W2:=(keeps_row hg1 p1).trans (by rw [← hW2];exact KeepsOthers.setCell _ _ _)
  have hBW:Below w.heap.size w W2:=(hB.grown hg1 hB.size (fun k e=>by cases e;omega)).grown hgw (Nat.le_trans hB.size hg1.size) (fun k e=>by cases e;omega)
  have hbs:∀ u,W.cell? ⟨b12 + 1,0,none⟩ = some u → W2.cell? ⟨b12 + 1,0,none⟩ = some u:=fun u hu=>by
   have hlt:b12 + 1 < W.heap.size:=World.block_lt_of_cell? W _ hu
   have e1:w1.heap[b12 + 1]? = W.heap[b12 + 1]?:=hg1.block _ hlt (by simp;omega)
   have e2:W2.heap[b12 + 1]? = w1.heap[b12 + 1]?:=hgw.block _ (Nat.lt_of_lt_of_le hlt hg1.size) (by simp;omega)
   rw [World.cell?_of_block (a:=⟨b12 + 1,0,none⟩) (e2.trans e1)];exact hu
  have hl':(ls.take i ++ (ls' ++ (ls.drop i).drop (nb + 1))).length = na + 1:=by simp only [List.length_append,htl,hls',List.length_drop];omega
  have hlo':Lo W32 (ls.take i ++ (ls' ++ (ls.drop i).drop (nb + 1))):=(p5.take i).append (hlo1.append ((p5.drop i).drop _))
  have hend2:R .normal { tmps:=#[],defers:=[] } W2 → R .normal { tmps:=#[],defers:=[] } W2:=fun h=>h
  have HFIN:=Away.mk (fun a'=>HN'.out a' W2 hko (fun hse=>HS0 W2 (qs.set i q) (hbs _ hse.1) y2 (by simp [p4]) (p6.set _ _ hq32)) ⟨_,_,y1,y2,hl',by simp [p4],hlo',p6.set _ _ hq32,y7,y8,y9,y10,fun k hk hp=>?step⟩ hBW)
  case step =>
   obtain ⟨k',rfl,hp',hi'⟩:=last_place hp
   rw [HX.out.1] at hi'
   obtain ⟨m1,m2⟩:=p11 k' (by omega) hp'
   rw [show nq - k' = i + 1 by omega] at m1 m2
   rw [show nq - (k' + 1) = i by omega]
   have hq':=hqc
   rw [HIB.out.1] at hq'
   exact long_step p3 p5 p4 hii hnq1 HDL.out hD0 m1 m2 hq' hls'
  clear hW2 hgw y1 y2 y7 y8 y9 y10 hko hBW hbs hl' hlo'
  gi_wp2
  exact HFIN.out _
 case done =>
  rintro D' qs' W hDD hp ⟨ls,qs,p1,p2,p3,p4,p5,p6,p7,p8,p9,p10,p11⟩ hB hK
  have p9:Boxed W b11 68 _:=p9
  have p10:Boxed W b12 68 _:=p10
  have c11:=p9.cell;have c12:=p10.cell
  obtain ⟨m1,m2⟩:=p11 nq (Nat.le_refl _) hp
  rw [Nat.sub_self,Nat.pow_zero,Nat.mul_one,List.drop_zero] at m1
  rw [Nat.sub_self,Nat.pow_zero,Nat.one_mul] at m2
  have hy0:0 < val W32 ys:=by
   rcases Nat.eq_zero_or_pos (val W32 ys) with h | h
   ·have:=HD.out;rw [h,Nat.zero_mul] at this;omega
   ·exact h
  have hq1:val W32 qs = val W32 xs / val W32 ys:=by
   have h1:val W32 qs = M / D:=by rw [m1,Nat.mul_comm,Nat.mul_add_div hD0,Nat.div_eq_of_lt m2,Nat.add_zero]
   rw [h1,← HM.out,← HD.out,Nat.mul_div_mul_right _ _ H2S.out]
  have hr1:val W32 ls / 2 ^ s = val W32 xs % val W32 ys:=by
   have h1:val W32 ls = M % D:=by rw [m1,Nat.mul_comm,Nat.mul_add_mod,Nat.mod_eq_of_lt m2]
   rw [h1,← HM.out,← HD.out,Nat.mul_mod_mul_right,Nat.mul_div_cancel _ H2S.out]
  have hlsW:∀ W',Below W.heap.size W W' → SlV W' (.slice (some ⟨gl,0,none⟩) (na + 1) (na + 1)) (C .u32 ls):=fun W' h=>by
   have:=(p1.belowS h).slAll (by rw [C_length,p3];unfold maxLen;omega)
   rwa [C_length,p3] at this
  have HT:=Away.mk (fun W' (h:Below W.heap.size W W')=>trimmed_new w.heap.size gq _ W' (p2.belowS h) (by omega) p6 (by omega))
  rw [hq1,p4] at HT
  have HSR:=Away.mk (fun W' (h:Below W.heap.size W W')=>shr_any _ ls (s:Int) W' (hlsW W' h) p5 (by omega) (by omega))
  simp only [Int.toNat_natCast,hr1] at HSR
  have HK:=Away.mk hK;have HBW:=Away.mk hB
  have hB6:∀ W',Below W.heap.size W W' → W'.cell? ⟨b12,0,none⟩ = some (.slice (some ⟨gq,0,none⟩) nq nq) ∧ W'.cell? ⟨b11,0,none⟩ = some (.slice (some ⟨gl,0,none⟩) (na + 1) (na + 1)):=fun W' h=>⟨(h.cell (p:=⟨b12,0,none⟩) p10.lt).trans c12,(h.cell (p:=⟨b11,0,none⟩) p9.lt).trans c11⟩
  have HB6:=Away.mk hB6
  clear p1 p2 p5 p6 p7 p8 p9 p10 p11 m1 m2 hq1 hr1 hlsW hp hK hB6 xb xl xq x7 x11 x12 xb7 hB67
  go_wp2
  refine wp_region_noPanic ?_
  refine wp_region_held_drew (S:=fun w'=>w'.cell? ⟨b12,0,none⟩ = some (.slice (some ⟨gq,0,none⟩) nq nq) ∧ w'.cell? ⟨b11,0,none⟩ = some (.slice (some ⟨gl,0,none⟩) (na + 1) (na + 1))) (by kernel_rfl) (⟨c12,c11⟩) (fun hHeld=>?_)
  refine tkg 0 rfl ?_
  simp only [Act.put,stA,st0,st1]
  refine tkg 2 rfl ?_
  simp only [Act.put,stA,st0,st1]
  refine tkg 3 rfl ?_
  simp only [Act.put,stA,st0,st1]
  refine ar1 1 rfl (fun K hK=>?_)
  go_simp
  refine (HT.out _ (Below.refl _ W).drew).mono ?_
  rintro _ w5' ⟨v1,rfl,hans1,hb5⟩
  have hb5:Below W.heap.size W w5':=⟨hb5.os,hb5.tape,hb5.output,hb5.size,hb5.block⟩
  refine hK.out _ _ (HB6.out _ hb5) (fun hHeld=>?_)
  clear hK K
  refine ar1 4 rfl (fun K hK=>?_)
  go_simp
  refine (HSR.out _ hb5).mono ?_
  rintro _ w6' ⟨v2,rfl,hans2,hb6⟩
  have hb6':Below W.heap.size W w6':=hb5.trans (hb6.mono hb5.size)
  refine hK.out _ _ (HB6.out _ hb6') (fun hHeld=>?_)
  clear hK K
  refine tkg 5 rfl ?_
  simp only [Act.put,stA,st0,st1]
  refine tkg 6 rfl ?_
  simp only [Act.put,stA,st0,st1]
  refine wpAnyH_done (by kernel_rfl) ?_ _
  refine NoPanic.normal ?_
  have hans1:=hans1.below (B':=0) hb6
  have hans2:=hans2.base (Nat.le_trans HBW.out.size hb5.size)
  have hD':D' < W.heap.size:=(Array.getElem?_eq_some_iff.1 HK.out).1
  have hK':w6'.heap[D']? = some (.deferred (some [])):=(hb6'.block D' hD').trans HK.out
  have hB6:Below w.heap.size w w6':=HBW.out.trans (hb6'.mono HBW.out.size)
  go_wp2
  refine ⟨by simp,.inl ⟨_,_,rfl,run_takeDeferred hK',?_⟩⟩
  have hturn:∀ r,some D' = some r → ∃ o:Obj,w6'.heap[r]? = some o ∧ o.isCells = false:=fun r e=>by cases e;exact ⟨_,hK',rfl⟩
  refine ⟨.tuple #[v1,v2],?_,v1,v2,rfl,hans1.turn (grownBy_putObj' _ D' (.deferred none)) hturn,hans2.turn (grownBy_putObj' _ D' (.deferred none)) hturn,below_shut (w:=w) hB6 (by have:=hB06.size;simp at hDD;omega) hK'⟩
  simp [results,Tryz.f124,go_sem]
 case stop =>
  rintro D k pre W hD hk hp hx
  exact hx.elim
end Go.Proofs.YtmjimilhomabfaaGreatDoor
namespace Go.Proofs.YtmjimilhomabfaaGreatDoor
open Go.RowKit
set_option linter.unusedVariables false
set_option maxRecDepth 10000
set_option maxHeartbeats 1000000 in
theorem div_any (va vb:Value) (xs ys:List Nat) (w:World) (ha:SlV w va (C .u32 xs)) (hb:SlV w vb (C .u32 ys)) (hx:Lo W32 xs) (hy:Lo W32 ys) (hxm:xs.length ≤ 1000) (hym:ys.length ≤ 1000) (h0:val W32 ys ≠ 0) :
  Calls Tryz.prog 97 #[va,vb] w fun e w'=>∃ v1 v2,e = .returned (.tuple #[v1,v2,.int .i64 0]) ∧ Ans w.heap.size w' v1 (val W32 xs / val W32 ys) ∧ Ans w.heap.size w' v2 (val W32 xs % val W32 ys) ∧ Below w.heap.size w w':=by
 go_enter Tryz.func97,Tryz.ntmps97
 go_wp2_with fail
 refine (trimmed_read va xs w ha hx (by omega)).mono ?_
 rintro _ w1 ⟨v1,zs,rfl,hI1,hl1,hs1,hb1⟩
 go_wp2_with fail
 refine (trimmed_read vb ys w1 (hb.below hb1) hy (by omega)).mono ?_
 rintro _ w2 ⟨v2,us,rfl,hI2,hl2,hs2,hb2⟩
 have hb02:Below w.heap.size w w2:=hb1.trans (hb2.mono hb1.size)
 have hs1:=hs1.below hb2
 obtain ⟨n1,hn1⟩:∃ n,zs.length = n:=⟨_,rfl⟩
 obtain ⟨n2,hn2⟩:∃ n,us.length = n:=⟨_,rfl⟩
 have hn20:0 < n2:=by
  rcases Nat.eq_zero_or_pos n2 with h | h
  ·have:us = []:=List.eq_nil_of_length_eq_zero (by omega)
   have h2:=hI2.1
   rw [this] at h2
   exact absurd h2.symm h0
  ·exact h
 obtain ⟨a1,c1,rfl,q1,r1⟩:=hs1.shapeC hn1
 obtain ⟨a2,c2,rfl,q2,r2⟩:=hs2.shapeC hn2
 obtain ⟨b2,o2,rfl,hbl2,hcb⟩:=hs2.cells (by rw [C_length];omega)
 have hc0:=hcb 0 _ (C_get _ (by omega))
 rw [Nat.add_zero] at hc0
 have HS1:=Away.mk hs1;have HS2:=Away.mk hs2;have HI1:=Away.mk hI1;have HI2:=Away.mk hI2;have HB:=Away.mk hb02
 have hu0:us.getD 0 0 < 4294967296:=hI2.2.1.getD (by decide) _
 clear hs1 hs2 hI1 hI2 hb02 hb1 hb2 ha hb hcb
 by_cases h1:n2 = 1
 ·subst h1
  obtain ⟨y,hy'⟩:∃ y,us.getD 0 0 = y:=⟨_,rfl⟩
  have hval:val W32 ys = y:=by
   rw [← HI2.out.1,val_split us 0,List.drop_eq_nil_of_le (by omega),hy']
   simp [val]
  rw [hy'] at hc0 hu0
  have HD:=Away.mk (divWord_any (.slice a1 n1 c1) zs y w2 HS1.out HI1.out.2.1 (by omega) (by omega) hu0)
  have HVL:=Away.mk hval
  have HBS:=Away.mk HB.out.size
  clear hval hy'
  go_wp2_with fail
  refine HD.out.mono ?_
  rintro _ w3 ⟨v1,v2,rfl,ans1,ans2,hb3⟩
  rw [HI1.out.1,← HVL.out] at ans1 ans2
  go_wp2
  go_ret3
  exact ⟨_,_,rfl,ans1.base HBS.out,ans2.base HBS.out,HB.out.trans (hb3.mono HBS.out)⟩
 ·have hn22:2 ≤ n2:=by omega
  have d0:((n2:Int) == 0) = false:=by simp;omega
  have d1:((n2:Int) == 1) = false:=by simp;omega
  have HBS:=Away.mk HB.out.size
  by_cases hlt:n1 < n2
  ·have d2:decide (n1 < n2) = true:=decide_eq_true hlt
   have hvlt:val W32 xs < val W32 ys:=by
    have e1:=HI1.out.val_lt (by decide) (show zs.length ≤ n2 - 1 by omega)
    have e2:=HI2.out.2.2 (by omega)
    rw [hn2] at e2
    omega
   have HSR:=Away.mk (shr_any (.slice a1 n1 c1) zs 0 w2 HS1.out HI1.out.2.1 (by omega) (by omega))
   simp only [Int.toNat_zero,Nat.pow_zero,Nat.div_one] at HSR
   rw [HI1.out.1] at HSR
   have HV:=Away.mk hvlt
   clear hvlt
   go_wp2_with fail
   refine HSR.out.mono ?_
   rintro _ w3 ⟨v2,rfl,ans2,hb3⟩
   go_wp2
   go_ret3
   refine ⟨_,_,rfl,?_,?_,HB.out.trans (hb3.mono HBS.out)⟩
   ·rw [Nat.div_eq_of_lt HV.out];exact Ans.nil _ _
   ·rw [Nat.mod_eq_of_lt HV.out];exact ans2.base HBS.out
  ·have d2:decide (n1 < n2) = false:=decide_eq_false hlt
   have e1:=HI1.out;have e2:=HI2.out
   have HD:=Away.mk (divWords_any (.slice a1 n1 c1) (.slice (some ⟨b2,o2,none⟩) n2 c2) zs us w2 HS1.out HS2.out (by rw [e1.1];exact e1) (by rw [e2.1];exact e2) (by omega) (by omega) (by omega))
   rw [e1.1,e2.1] at HD
   clear e1 e2
   go_wp2_with fail
   refine HD.out.mono ?_
   rintro _ w3 ⟨v1,v2,rfl,ans1,ans2,hb3⟩
   go_wp2
   go_ret3
   exact ⟨_,_,rfl,ans1.base HBS.out,ans2.base HBS.out,HB.out.trans (hb3.mono HBS.out)⟩
end Go.Proofs.YtmjimilhomabfaaGreatDoor
