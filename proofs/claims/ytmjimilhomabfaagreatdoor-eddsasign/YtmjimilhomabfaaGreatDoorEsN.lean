/-
 The packages' variables read as their initialisers lay them: structs of two arrays opened, the list of the stage's variables. Conditions: as each says.
-/
import Derived.Test.YtmjimilhomabfaaGreatDoorEsE
import Derived.OpenShut
import Derived.ProofKit
import Derived.LaidMore
namespace Go.Proofs.YtmjimilhomabfaaGreatDoor.F
open Go.RowKit Go.ChangeShapes Go.WideShapes Go.ChangeAt
set_option linter.unusedVariables false
set_option maxRecDepth 10000
open E (Pt)
theorem trod_ints {H:Type} {enc:TypeId × Value → H} {P:Program} {W:World} {base:Nat} {sp:Nat → Bool} {held:Bool} {fuel:Nat} {t e:TypeId} {n:Nat} {q:IntKind} {cs:List Value} {x:DataW H × List MemPlace}
  (hu:P.underlying t = some (.array n e)) (he:P.underlying e = some (.int q)) (hc:P.cellsOf e = 1) (hn:P.cellsOf t = n) (h:DataW.trod enc P W base sp held fuel t cs = some x) :
  ∃ zs:List Int,cs = zs.map (Value.int q) ∧ zs.length = n ∧ (∀ z ∈ zs,(Lit.int q z).wf = true) ∧ x.1 = .agg (zs.map fun z=>DataW.lit (.int q z)):=by
 obtain ⟨xs,m,rfl,hx,hlen,hl,hel⟩:=DataW.trod_array hu h
 have key:∀ i,i < n → ∃ k,cs[i]? = some (.int q k) ∧ (xs[i]?).map (·.1) = some (DataW.lit (.int q k)) ∧ (Lit.int q k).wf = true:=by
  intro i hi
  have hi':=hel i hi
  rw [hc,Nat.mul_one] at hi'
  have hxi:xs[i]? = some xs[i]:=List.getElem?_eq_getElem (by omega)
  rw [hxi] at hi'
  obtain ⟨k,e1,e2,e3⟩:=DataW.trod_int he hi'
  refine ⟨k,?_,by rw [hxi];simp [e2],e3⟩
  have:=congrArg (fun l=>l[0]?) e1
  simpa using this
 have hgen:∀ (n:Nat) (cs:List Value) (ys:List (DataW H)),cs.length = n → ys.length = n → (∀ i,i < n → ∃ k,cs[i]? = some (.int q k) ∧ ys[i]? = some (DataW.lit (.int q k)) ∧ (Lit.int q k).wf = true) →
   ∃ zs:List Int,cs = zs.map (Value.int q) ∧ zs.length = n ∧ (∀ z ∈ zs,(Lit.int q z).wf = true) ∧ ys = zs.map fun z=>DataW.lit (.int q z):=by
  intro n
  induction n with
  | zero =>
   intro cs ys h1 h2 _
   obtain rfl:=List.length_eq_zero_iff.1 h1
   obtain rfl:=List.length_eq_zero_iff.1 h2
   exact ⟨[],rfl,rfl,by simp,rfl⟩
  | succ n ih =>
   intro cs ys h1 h2 hk
   match cs,ys,h1,h2 with
   | c :: cs,y :: ys,h1,h2 =>
    obtain ⟨k,k1,k2,k3⟩:=hk 0 (by omega)
    simp at k1 k2
    obtain ⟨zs,e1,e2,e3,e4⟩:=ih cs ys (by simpa using h1) (by simpa using h2) (fun i hi=>by
     obtain ⟨k,a,b,c⟩:=hk (i + 1) (by omega)
     exact ⟨k,by simpa using a,by simpa using b,c⟩)
    refine ⟨k :: zs,by rw [k1,e1];rfl,by simp [e2],fun z hz=>?_,by rw [k2,e4];rfl⟩
    rcases List.mem_cons.1 hz with rfl | hz
    ·exact k3
    ·exact e3 z hz
 obtain ⟨zs,e1,e2,e3,e4⟩:=hgen n cs (xs.map (·.1)) (by rw [hlen,hn]) (by rw [List.length_map,hl]) (fun i hi=>by
  obtain ⟨k,a,b,c⟩:=key i hi
  exact ⟨k,a,by rw [List.getElem?_map];exact b,c⟩)
 exact ⟨zs,e1,e2,e3,by rw [hx,e4]⟩
theorem trod_point {H:Type} {enc:TypeId × Value → H} {W:World} {base:Nat} {sp:Nat → Bool} {held:Bool} {fuel:Nat} {cs:List Value} {x:DataW H × List MemPlace}
  (h:DataW.trod enc Tryz.prog W base sp held fuel 44 cs = some x) :
  ∃ zs ys:List Int,cs = zs.map (Value.int .u64) ++ ys.map (Value.int .u64) ∧ zs.length = 4 ∧ ys.length = 4 ∧ (∀ z ∈ zs,(Lit.int .u64 z).wf = true) ∧ (∀ z ∈ ys,(Lit.int .u64 z).wf = true) ∧
   x.1 = .agg [.agg (zs.map fun z=>DataW.lit (.int .u64 z)),.agg (ys.map fun z=>DataW.lit (.int .u64 z))]:=by
 obtain ⟨xs,n,rfl,hx,hlen,hl,hg⟩:=DataW.trod_struct Tryz.underlying44 h
 have t0:DataW.trod enc Tryz.prog W base sp held n 32 (List.take (Tryz.prog.cellsOf 32) (List.drop 0 cs)) = xs[0]?:=hg 0 _ rfl
 have t1:DataW.trod enc Tryz.prog W base sp held n 32 (List.take (Tryz.prog.cellsOf 32) (List.drop 4 cs)) = xs[1]?:=hg 1 _ rfl
 rw [show Tryz.prog.cellsOf 44 = 8 by kernel_rfl] at hlen
 rw [show Tryz.prog.cellsOf 32 = 4 by kernel_rfl] at t0 t1
 match xs,hl with
 | [y0,y1],_ =>
  obtain ⟨zs,a1,a2,a3,a4⟩:=trod_ints Tryz.underlying32 Tryz.underlying30 (by kernel_rfl) (by kernel_rfl) (t0.trans rfl)
  obtain ⟨ys,b1,b2,b3,b4⟩:=trod_ints Tryz.underlying32 Tryz.underlying30 (by kernel_rfl) (by kernel_rfl) (t1.trans rfl)
  refine ⟨zs,ys,?_,a2,b2,a3,b3,by rw [hx];simp [a4,b4]⟩
  have a1':cs.take 4 = zs.map (Value.int .u64):=by simpa using a1
  have b1':cs.drop 4 = ys.map (Value.int .u64):=by
   rw [← b1,List.take_of_length_le (by simp;omega)]
  rw [← a1',← b1',List.take_append_drop]
theorem laid_point {W:World} {name:String} {g A B:Nat} {d:DataW Unit} (hg:Tryz.prog.globalNamed name = some g) (hT:(Tryz.prog.globals[g]?).map (·.type) = some 44)
  (hd:d = .agg [.agg ((wds A).map fun (x:Nat)=>DataW.lit (.int .u64 (x:Int))),.agg ((wds B).map fun (x:Nat)=>DataW.lit (.int .u64 (x:Int)))]) (h:laidMet Tryz.prog [(name,d)] W):GlobC W g (pc A B):=by
 obtain ⟨ps,⟨g0,t0,cs,f0,p0,q0,hg0,ht0,hv0,hd0,_,_⟩,_,_⟩:=h
 obtain rfl:=Option.some.inj (hg.symm.trans hg0)
 obtain rfl:=Option.some.inj (hT.symm.trans ht0)
 obtain ⟨zs,ys,e1,l1,l2,w1,w2,e2⟩:=trod_point hd0
 have hinj:∀ (us:List Int) (n:Nat),us.map (fun z=>DataW.lit (H:=Unit) (.int .u64 z)) = (wds n).map (fun (x:Nat)=>DataW.lit (.int .u64 (x:Int))) → us.map (Value.int .u64) = ec n:=by
  intro us n hq
  have:us = (wds n).map Int.ofNat:=by
   have h2:us.map (fun z=>DataW.lit (H:=Unit) (.int .u64 z)) = ((wds n).map Int.ofNat).map (fun z=>DataW.lit (.int .u64 z)):=by
    rw [hq,List.map_map];rfl
   refine List.map_inj_right (fun a b hab=>?_) |>.1 h2
   injection hab with hab
   injection hab
  rw [this,ec,C,List.map_map]
  rfl
 rw [hd] at e2
 simp only [DataW.agg.injEq,List.cons.injEq,and_true] at e2
 have hcs:cs = (pc A B).toArray:=by
  apply Array.ext'
  rw [e1,hinj zs A e2.1.symm,hinj ys B e2.2.symm]
  rfl
 subst hcs
 simp only [World.var?,hg,Option.bind_some] at hv0
 split at hv0
 ·next c t f heq =>
   obtain rfl:=Option.some.inj hv0
   exact ⟨_,_,heq⟩
 ·cases hv0
theorem laidMet_cons {P:Program} {W:World} {a:String × DataW Unit} {l:List (String × DataW Unit)} (h:laidMet P (a :: l) W):laidMet P [a] W ∧ laidMet P l W:=by
 obtain ⟨ps,⟨g0,t0,cs,f0,p0,q0,hg0,ht0,hv0,hd0,h1,h2⟩,hn,hall⟩:=h
 subst h2
 refine ⟨⟨MemPlace.row ⟨g0,0,none⟩ cs.size ++ p0,⟨g0,t0,cs,f0,p0,[],hg0,ht0,hv0,hd0,rfl,by simp⟩,(List.nodup_append.1 hn).1,fun b off hb=>hall b off (List.mem_append_left _ hb)⟩,⟨q0,h1,(List.nodup_append.1 hn).2.1,fun b off hb=>hall b off (List.mem_append_right _ hb)⟩⟩
theorem gP : Tryz.prog.globalNamed "affiant/field.prime" = some 5 := by kernel_rfl
theorem tP:(Tryz.prog.globals[5]?).map (·.type) = some 32:=by kernel_rfl
theorem dP:(Rows.laid_affiant_field_prime:DataW Unit) = .agg ((wds P).map fun (x:Nat)=>DataW.lit (.int .u64 (x:Int))):=by kernel_rfl
theorem gR : Tryz.prog.globalNamed "affiant/field.toRoot" = some 2 := by kernel_rfl
theorem tR:(Tryz.prog.globals[2]?).map (·.type) = some 32:=by kernel_rfl
theorem dR:(Rows.laid_affiant_field_toRoot:DataW Unit) = .agg ((wds Q8).map fun (x:Nat)=>DataW.lit (.int .u64 (x:Int))):=by kernel_rfl
theorem gI : Tryz.prog.globalNamed "affiant/field.rootOfMinusOne" = some 3 := by kernel_rfl
theorem tI:(Tryz.prog.globals[3]?).map (·.type) = some 32:=by kernel_rfl
theorem dI:(Rows.laid_affiant_field_rootOfMinusOne:DataW Unit) = .agg ((wds im).map fun (x:Nat)=>DataW.lit (.int .u64 (x:Int))):=by kernel_rfl
theorem gV : Tryz.prog.globalNamed "affiant/field.toInverse" = some 6 := by kernel_rfl
theorem tV:(Tryz.prog.globals[6]?).map (·.type) = some 32:=by kernel_rfl
theorem dV:(Rows.laid_affiant_field_toInverse:DataW Unit) = .agg ((wds (P - 2)).map fun (x:Nat)=>DataW.lit (.int .u64 (x:Int))):=by kernel_rfl
theorem gD : Tryz.prog.globalNamed "affiant/edwards.d" = some 4 := by kernel_rfl
theorem tD:(Tryz.prog.globals[4]?).map (·.type) = some 32:=by kernel_rfl
theorem dD:(Rows.laid_affiant_edwards_d:DataW Unit) = .agg ((wds Dn).map fun (x:Nat)=>DataW.lit (.int .u64 (x:Int))):=by kernel_rfl
theorem gB : Tryz.prog.globalNamed "affiant/edwards.base" = some 0 := by kernel_rfl
theorem tB:(Tryz.prog.globals[0]?).map (·.type) = some 44:=by kernel_rfl
theorem dB:(Rows.laid_affiant_edwards_base:DataW Unit) = .agg [.agg ((wds Bx).map fun (x:Nat)=>DataW.lit (.int .u64 (x:Int))),.agg ((wds By).map fun (x:Nat)=>DataW.lit (.int .u64 (x:Int)))]:=by kernel_rfl
theorem gO : Tryz.prog.globalNamed "affiant/scalar.order" = some 1 := by kernel_rfl
theorem tO:(Tryz.prog.globals[1]?).map (·.type) = some 32:=by kernel_rfl
theorem dO:(Rows.laid_affiant_scalar_order:DataW Unit) = .agg ((wds Lq).map fun (x:Nat)=>DataW.lit (.int .u64 (x:Int))):=by kernel_rfl
theorem gTab : Tryz.prog.globalNamed "affiant/sha512.stepNumbers" = some 8 := by kernel_rfl
theorem tTab:(Tryz.prog.globals[8]?).map (·.type) = some 170:=by kernel_rfl
theorem dTab:(Rows.laid_affiant_sha512_stepNumbers:DataW Unit) = .agg (S3.K3L.map fun (x:Nat)=>DataW.lit (.int .u64 (x:Int))):=by kernel_rfl
theorem glob_of {W:World} {name:String} {g n:Nat} {d:DataW Unit} (hg:Tryz.prog.globalNamed name = some g) (hT:(Tryz.prog.globals[g]?).map (·.type) = some 32) (hd:d = .agg ((wds n).map fun (x:Nat)=>DataW.lit (.int .u64 (x:Int)))) (h:laidMet Tryz.prog [(name,d)] W):Glob W g n :=
 laid_block hg hT Tryz.underlying32 Tryz.underlying30 (by kernel_rfl) (by kernel_rfl) (wds_length n) hd h
def laid1 : List (String × DataW Unit) := [("affiant/field.prime", Rows.laid_affiant_field_prime), ("affiant/field.toInverse", Rows.laid_affiant_field_toInverse), ("affiant/field.toRoot", Rows.laid_affiant_field_toRoot), ("affiant/field.rootOfMinusOne", Rows.laid_affiant_field_rootOfMinusOne), ("affiant/edwards.d", Rows.laid_affiant_edwards_d), ("affiant/edwards.base", Rows.laid_affiant_edwards_base), ("affiant/sha256.stepNumbers", Rows.laid_affiant_sha256_stepNumbers), ("affiant/sha512.stepNumbers", Rows.laid_affiant_sha512_stepNumbers), ("affiant/scalar.order", Rows.laid_affiant_scalar_order)]
theorem of_laid {W:World} (h:laidMetH Tryz.prog laid1 W):TS W:=by
 rw [MakeChecks.laidMetH_plain _ _ _ (by kernel_rfl)] at h
 obtain ⟨h1,h⟩:=laidMet_cons h
 obtain ⟨h2,h⟩:=laidMet_cons h
 obtain ⟨h3,h⟩:=laidMet_cons h
 obtain ⟨h4,h⟩:=laidMet_cons h
 obtain ⟨h5,h⟩:=laidMet_cons h
 obtain ⟨h6,h⟩:=laidMet_cons h
 obtain ⟨_,h⟩:=laidMet_cons h
 obtain ⟨h8,h9⟩:=laidMet_cons h
 have k1:=glob_of gP tP dP h1
 exact ⟨⟨⟨⟨k1,glob_of gD tD dD h5⟩,glob_of gV tV dV h2⟩,⟨k1,glob_of gR tR dR h3,glob_of gI tI dI h4⟩⟩,laid_point gB tB dB h6,laid_block gTab tTab Tryz.underlying170 Tryz.underlying30 (by kernel_rfl) (by kernel_rfl) S3.K3L_length dTab h8,glob_of gO tO dO h9⟩
theorem door_met (os:Os) (args:Array Value):laidMetH Tryz.prog laid1 ((World.doorLaid Tryz.prog 400 os).forCall (fun _ _=>0) ⟨#[],args,[]⟩).memory :=
 laidMetH_of_parts3 (fuel:=8) (laidMet_of_run' 8 (by kernel_rfl) (by kernel_rfl)) (by kernel_rfl) (by kernel_rfl)
end Go.Proofs.YtmjimilhomabfaaGreatDoor.F
